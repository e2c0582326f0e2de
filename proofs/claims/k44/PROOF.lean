import PyProof.Rows.All
import OpenK.KLine
import OpenK.KWalk
import OpenK.KMake
import OpenK.KGet
import OpenK.KCall
import OpenK.KDescr
import OpenK.Peek
import Wide.Line
import Wide.BytesRules
import Wide.ObjOpen
import KE.KDictOf
import KE.KIsAll
import KE.KItem
import KE.KRevIter
import KE.KUnpack
import KE.KEqDict
import PyProof.EqAt
import PyProof.EqKinds
import PyProof.TupleCall
import KE.KTryMore
import PySem.Challenge.RW_chiefway_k44_counts
set_option compiler.extract_closed false
set_option bootstrap.genMatcherCode false
set_option genSizeOf false
set_option tactic.hygienic false
set_option autoImplicit true
set_option relaxedAutoImplicit true
noncomputable section
set_option Elab.async false
set_option linter.all false
set_option maxRecDepth 100000
open Option renaming some → bx, none → cb
open Bool renaming true → cf, false → ci
def ck:=@if_pos
def cq:=@if_neg
open PySem renaming wpAny_bind → zaa, Shared → zab, starEach → zaf, wpAny_pure → zag, Program → zah, sizeLine → zai, Around → zal, swapsWith → zaz, compareOp → zaC, backTo → zaG, wpAny_mono → zaJ, mainGlobals → zaK, bootBuiltins → zaL, wpAny_field → zaN, binaryOp → zaQ, rawInt → zaT, attributeBase → zaW, assignEach → za8, pyNext → za9, IsPair → zba, sysModules → zbb, foldedSetIterable → zbc, FuncData → zbd, relabel → zbe, assign → zbf, wpAny_call_entry → zbo, codeAny → zbs, Builtin → zbz, wpAny_seqItems → zbB, getItem → zbD, wpAny_newObj_type → zbE, wpAny_setField_rec → zbH, IsEnum → zbJ, wpAny_holding → zbM, NameKind → zbO, IsPart → zbQ, wpAny_callSpecial?_slot → zbR, sliceBounds → zbS, wpAny_rule → zbU, behindInMarks → zbV, wpAny_pyIter_tuple → zbX, wpAny_loadPart' → zb1, tupleKind → zb7, PassesOwn → zca, wpAny_pyIter_list → zcb, cellsFrom → zcc, tupleKeyHash → zck, entryOfKey → zcl, holding → zcm, wpAny_passesOwn → zcn, codeAny_mono → zcp, leaving → zcq, valueAt → zcs, callerA → zct, DictEntry → zcu, noteFrame → zcv, wpAny_setField → zcw, isInstance → zcD, wpAny_isInstance → zcE, wpAny_truthy_bool → zcF, wpAny_execs_nil → zcH, wpAny_execs_cons → zcI, wpAny_Call_Name_kw → zcJ, mem_of_lookup → zcK, wpAny_typeOf → zcL, wpAny_attempt → zcR, getAttr? → zcU, wpAny_specialOf → zc3, wpAny_forIn_list → zc4, sizeLine_eq → zc8, wpAny_call → zda, call_meets → zdd, setFlight → zdi, wpAny_standAt → zdr, swapsWithSole → zds, swappedStores → zdt, letOwnedTupleGo → zdu, subscripted → zdG, wpAny_typeNameOfWhole_keyiter → zdM, wpAny_typeNameOf_keyiter → zdN, firstArgMember → zdQ, wpAny_onRaise → zdT, wpAny_letGo → zdU, getattributeRaised → zd1, ExcAttrBase → zd2, wpAny_tupleItemsOf → zec, isSubtype_tuple_tuple → zee, noFill_tuple_add → zep, tupleKind_room_in1 → zey, wpAny_dictEntries → zeA, wpAny_dictEpoch → zeB, wpAny_updateSeq_pair → zeF, codeAny_builtin → zeI
open Option renaming map_some → zac, bind_some → zad, bind → zcT
open PySem.W renaming Frag → zae, subIn → za3, findIn → zbg, kia_one → zbh, fnOf → zbl, kitOne → zbp, keepIn → zbC, nsIn → zbK, emptyDict → zbY, instObj → zb8, codeIn → zcr, mg_of → zcz, kitAny → zdj, plainGet → zdv, hasDictIn → zdw, typeIn → zdx, kitx_dict → zdz, callWith_K → zdA, excIn → zd4, clsIn → zd5, methodObj → zef, plainOver → zej, takerIn → zek, makesIn → zel, OpenLaw → zez
open Nat renaming le_refl → zaj, ne_of_lt → zaE, zero_le → zaM, le_trans → zaO, zero_add → zaU, lt_of_lt_of_le → zaY, ne_of_gt → zbr, lt_irrefl → zb9, le_of_ble_eq_true → zcA, le_of_eq → zc9, lt_succ_self → zdy, lt_of_le_of_lt → zdK
open List renaming length_map → zak, map_cons → zan, mem_cons_of_mem → zaq, mem_cons_self → zar, range → zas, map_map → zav, size_toArray → zaw, mem_of_getElem? → zax, length_cons → zaA, getElem?_map → zaD, map_append → zaR, getElem?_eq_getElem → za0, mem_append_right → za1, mem_cons → za2, not_mem_nil → za5, getElem?_set_ne → za7, append_nil → zbi, length_append → zbk, mem_append_left → zbq, length → zbt, sum_cons → zbw, find?_cons → zbF, lookup_cons → zbI, length_nil → zbP, replicate → zb0, take_length → zb3, take_of_length_le → zb4, length_take → zcd, length_set → zce, any_cons → zcf, lookup → zco, take_succ_cons → zcB, getElem?_set_self → zcG, map_nil → zcM, filter_cons → zcO, getD → zcP, length_range → zcV, foldl_cons → zcZ, getElem?_of_mem → zc0, getElem?_range → zdf, take_add_one → zdh, forall_mem_cons → zdk, length_filter_le → zdl, getD_eq_getElem?_getD → zdm, take_succ → zdo, getElem?_append_right → zdB, take_sublist → zdC, replicate_succ → zdH, flatten_cons → zdI, drop_eq_getElem_cons → zdX, cons_append → zd7, foldl_nil → zea, filterMap_cons → zeh, getElem_inj → zei, of_mem_zip → zem, getElem?_append_left → zen, zip_cons_cons → zeo, length_drop → zeu, reverse_cons → zew, forIn_cons → zeE, drop_length → zeG, pairwise_map → zeH, nodup_append → zeL, take_sublist_take_left → zeU, idxOf_lt_length_of_mem → zeW
open PySem.Heap renaming get?_push_of_some → zam, lt_size → zao, get?_push_size → zaF, SameBut → za6, FlyingW → zbv, size_push → zbZ, get?_update_other → zcN, HeldW → zcW, get?_update_self → zdc, IsTuple → zde, get?_none_of_le → zdq, IsList → zdW, MadeExcOf → zd3
open PySem.Value renaming ref → zap, none → zaS, bool → zbL, builtin → zb5, int → zcC, str → zc1
open Int renaming emod_nonneg → zat, emod_lt_of_pos → zau, ne_of_gt → zaX, zero_add → zbx, toNat_natCast → zbG, mul_nonneg → zdg, add_assoc → zdn, le_refl → zdp, mul_assoc → zd8, le_trans → zd9, lt_of_lt_of_le → zeM, mul_le_mul_of_nonneg_right → zeV
open Option.some renaming inj → zay
open Bool renaming false_ne_true → zaB, and_eq_true → zaV, false_eq_true → zbA, not_true → zb6, eq_iff_iff → zc5, not_eq_true → zdY, or_eq_true → zdZ
open PyProof.Rows renaming envOfC → zaH, kindOf → zbj, IntsAre → zbm, AllBare → zbN, callWith_type1 → zc7, slot_tuple_getitem → zdE
open Ne renaming symm → zaI
open False renaming elim → zaP
open Or renaming inl → zaZ, inr → zbT
open True renaming intro → za4
open PySem.Str renaming ofString → zbn, join → zcY
open PySem.NameKind renaming free → zbu
open Sum renaming inl → zby, inr → zci
open Array renaming length_toList → zbW, forIn_toList → zed, append_assoc → zeg, getElem?_toList → zeD, getElem?_setIfInBounds_ne → zeS
open PySem.Shared renaming heap → zb2
open PySem.Builtin.SmallTypes renaming nextOf → zcg, ownedTupleIsFree → zcS, ownedTupleHandOut → zdV
open Classical renaming propDecidable → zch
open PySem.Builtin.Tuple renaming tupleHashOf → zcj, tupleExact → zdF, tupleItemsOf → zeb
open PySem.Obj renaming mapFields → zcx, data_mapFields → zcy, mapSeq → zdb, isFreed_of_fields → zdO, cls_mapFields → zeC
open ForInStep renaming yield → zcQ
open Subtype renaming val → zcX
open PySem.Paired renaming length → zc2
open LawfulBEq renaming eq_of_beq → zc6
open PySem.Builtin.Slice renaming slicePlaces → zdD, sliceAdjust → zet
open List.Pairwise renaming nil → zdJ
open PySem.F renaming slot_dict_keyiterator_next → zdL, slot_tuple_iterator_next → zdR, slot_zip_next → zdS, slot_enumerate_next → zd0, plainAttrs_list → zd6, slot_tuple_add → zeq, entry_tuple_add → zer, args_tuple_add_2 → zes, entry_dict_keyiterator_next → zeN, args_dict_keyiterator_next_1 → zeO, entry_tuple_iterator_next → zeQ, args_tuple_iterator_next_1 → zeR, attrBase_ValueError → zeT
open PySem.Heap.SameBut renaming update → zdP
open PySem.Builtin.List renaming listTooLong → zex
open PySem.PassesOwn renaming never → zeJ
open List.cons renaming injEq → zeK
open PySem.Builtin.Dict_items renaming ownsTuple → zeP
noncomputable section
namespace L2
open PySem PySem.Spec PyProof.Rows
abbrev Key:=Sum Int Str
def wO:Key->Value->Bool
 |.inl k,v=>Value.isInt k v
 |.inr x,v=>Value.isStrOf x v
def qbW(w:World):Key->Int
 |.inl k=>hashInt k
 |.inr x=>hashStr w x
def cJ:∀ {k:Key} {v:Value},wO k v=cf->(∃i t,k=zby i/\v=zcC i t)\/(∃x t,k=zci x/\v=zc1 x t)
 |.inl i,v,h=>by
  obtain⟨t,e⟩:=Value.isInt_shape (k:=i) (v:=v) h;exact .inl ⟨i,t,rfl,e⟩
 |.inr x,v,h=>by
  obtain⟨t,e⟩:=Value.isStrOf_shape (x:=x) (v:=v) h;exact .inr ⟨x,t,rfl,e⟩
def JH(i:Int)(t:Tok):wO (.inl i) (.int i t)=cf:=by simp[wO,Value.isInt]
def JE(x:Str)(t:Tok):wO (.inr x) (.str x t)=cf:=by simp[wO,Value.isStrOf]
def Y6(a b:Int):decide ((zby a:Key)=zby b)=(a == b):=by
 by_cases e:a=b
 .subst e;simp
 .have h:¬ (zby a:Key)=zby b:=λq=>e (Sum.inl.inj q)
  rw[decide_eq_false h];exact(beq_eq_false_iff_ne.mpr e).symm
def YU(a b:Str):decide ((zci a:Key)=zci b)=decide (a=b):=by
 by_cases e:a=b
 .subst e;simp
 .have h:¬ (zci a:Key)=zci b:=λq=>e (Sum.inr.inj q)
  rw[decide_eq_false h,decide_eq_false e]
def XI(a:Int)(b:Str):decide ((zby a:Key)=zci b)=ci:=decide_eq_false λq=>nomatch q
def XG(a:Str)(b:Int):decide ((zci a:Key)=zby b)=ci:=decide_eq_false λq=>nomatch q
def bA(prog:zah)(w:World):PySem.KeyKind prog w Key where
 is:=wO
 hash:=qbW w
 inj:=λv a b F z=>by
  rcases cJ F with⟨i,t,rfl,rfl⟩|⟨x,t,rfl,rfl⟩
  .rcases cJ z with⟨j,u,rfl,e⟩|⟨y,u,rfl,e⟩
   .injection e with e1 _;rw[e1]
   .exact nomatch e
  .rcases cJ z with⟨j,u,rfl,e⟩|⟨y,u,rfl,e⟩
   .exact nomatch e
   .injection e with e1 _;rw[e1]
 byValue:=λk v h=>by
  rcases cJ h with⟨i,t,rfl,rfl⟩|⟨x,t,rfl,rfl⟩ <;> rfl
 pyHash:=λq h=>by
  rcases cJ q with⟨i,t,rfl,rfl⟩|⟨x,t,rfl,rfl⟩
  .exact wpAny_pyHash_int h
  .exact wpAny_pyHash_str h
 eqBool:=λG q h=>by
  rcases cJ G with⟨i,t,rfl,rfl⟩|⟨x,t,rfl,rfl⟩
  .rcases cJ q with⟨j,u,rfl,rfl⟩|⟨y,u,rfl,rfl⟩
   .rw[Y6]at h;exact wpAny_eqBool_int h
   .rw[XI]at h;exact SeqAt.EqAt.int_str i t y u _ _ _ _ h
  .rcases cJ q with⟨j,u,rfl,rfl⟩|⟨y,u,rfl,rfl⟩
   .rw[XG]at h;exact SeqAt.EqAt.str_int x t j u _ _ _ _ h
   .rw[YU]at h;exact wpAny_eqBool_str h
 «strs»:=λk x t v h=>by
  rcases cJ h with⟨i,u,rfl,e⟩|⟨y,u,rfl,e⟩
  .exact nomatch e
  .injection e with e1 _
   subst e1;cases v <;> rfl
def zU(prog:zah)(w:World)(i:Int)(t:Tok):(bA prog w).is (.inl i) (.int i t)=cf:=JH i t
def zT(prog:zah)(w:World)(x:Str)(t:Tok):(bA prog w).is (.inr x) (.str x t)=cf:=JE x t
inductive V where
 | non|bl (b:Bool)|int (i:Int)|str (x:Str)|byt (b:Array UInt8)|flt (b:UInt64)|ref (a:Addr)|ty (n:String)
 deriving DecidableEq
def RelV:V->Value->Prop
 |.non,u=>u=zaS
 |.bl b,u=>u=zbL b
 |.int i,u=>∃t,u=zcC i t
 |.str x,u=>∃t,u=zc1 x t
 |.byt b,u=>∃t,u=Value.bytes b t
 |.flt b,u=>∃t,u=Value.float b t
 |.ref a,u=>u=zap a
 |.ty n,u=>u=Value.type n
abbrev Vals:List V->List Value->Prop:=Paired RelV
theorem Vals.length(r:Vals xs us):xs.length=us.length:=zc2 r
theorem Vals.get:∀ {xs:List V} {us:List Value} {i:Nat} {x:V},Vals xs us->xs[i]?=bx x->∃u,us[i]?=bx u/\RelV x u
 |_,_,_,_,.nil,e=>by simp at e
 |_,_,0,_,.cons r _,e=>by simp at e;subst e;exact⟨_,rfl,r⟩
 |_,_,i+1,x,.cons _ t,e=>by
  obtain⟨u,h1,h2⟩:=Vals.get (i:=i) (x:=x) t (by simpa using e);exact⟨u,by simpa using h1,h2⟩
theorem Vals.set(r:RelV x u):∀ {xs:List V} {us:List Value} (i:Nat),Vals xs us->Vals (xs.set i x) (us.set i u)
 |_,_,_,.nil=>.nil
 |_,_,0,.cons _ t=>.cons r t
 |_,_,i+1,.cons q t=>.cons q<|Vals.set r i t
theorem Vals.append:∀ {xs ys:List V} {us ws:List Value},Vals xs us->Vals ys ws->Vals (xs++ys) (us++ws)
 |_,_,_,_,.nil,s=>s
 |_,_,_,_,.cons r t,s=>.cons r<|Vals.append t s
theorem Vals.take:∀ {xs:List V} {us:List Value} (n:Nat),Vals xs us->Vals (xs.take n) (us.take n)
 |_,_,0,_=>.nil
 |_,_,_+1,.nil=>.nil
 |_,_,n+1,.cons r t=>.cons r<|Vals.take n t
theorem Vals.drop:∀ {xs:List V} {us:List Value} (n:Nat),Vals xs us->Vals (xs.drop n) (us.drop n)
 |_,_,0,r=>r
 |_,_,_+1,.nil=>.nil
 |_,_,n+1,.cons _ t=>Vals.drop n t
def RelO:Option V->Option Value->Prop
 |some v,bx u=>RelV v u
 |none,cb=>True
 |_,_=>False
def KV{κ:Type}:List (κ×V)->List (κ×Value)->Prop:=Paired λ(p:κ×V) (q:κ×Value)=>p.1=q.1/\RelV p.2 q.2
def kV:Key->V
 |.inl i=>.int i
 |.inr x=>.str x
section
variable {prog:zah}{w:World}{K:Type}[DecidableEq K](knd:KeyKind prog w K)
def NestIs(h:Heap)(k:K×List K)(a:Addr):Prop:=∃o n v b,h.get? a=bx o/\o.cls=.type "tuple" /\ o.data=.seq #[v,.ref b] n/\knd.is k.1 v=cf/\IsTupleKey knd h k.2 b
def sI(k:K×List K):Int:=reduceHash<|zcj [knd.hash k.1,zck knd k.2]
variable {knd}{A:zal}{E:Value->zab->Prop}{s:zab}
def NestIs.typeIs{k:K×List K}{a:Addr}(x:NestIs knd s.heap k a):s.TypeIs (.ref a) "tuple" := let ⟨o,_,_,_,ho,hc,_⟩:=x;⟨o,ho,hc⟩
theorem NestIs.inj{h:Heap}{a:Addr}{x y:K×List K}(hx:NestIs knd h x a)(J:NestIs knd h y a):x=y:=by
 obtain⟨o,n,v,b,N,_,hd,hi,U⟩:=hx;obtain⟨o',Y,W,b',F,_,q,G,z⟩:=J;obtain rfl:o=o':=zay<|N.symm.trans F;rw[hd]at q;injection q with h1 _
 simp at h1;obtain⟨rfl,rfl⟩:=h1;exact Prod.ext (knd.inj _ _ _ hi G)<|U.inj z
theorem NestIs.keeps{h h':Heap}{k:K×List K}{a d:Addr}{o:Obj}{es ep}(x:NestIs knd h k a)(G:h.get? d=bx o)(hd:o.data=.dict es ep)(hs:za6 d h h'):NestIs knd h' k a:=by
 obtain⟨o',n,v,b,z,N,q,hi,J⟩:=x;have F:a≠d:=by
  rintro rfl;obtain rfl:o'=o:=zay<|z.symm.trans G;rw[hd]at q;exact nomatch q
 exact⟨o',n,v,b,(hs.2 a F).trans z,N,q,hi,J.keeps G hd hs⟩
def KQ{k:K×List K}{a:Addr}{Q:Int->zab->Prop}(J:A.units+1<cLine)(z:NestIs knd s.heap k a)(h:Q (sI knd k) {s with toks:=s.toks+(k.2.length+3)}) :
  wpAny (model prog w) A (pyHash<|.ref a) Q E s:=by
 have hT:=z.typeIs;obtain⟨o,n,v,b,G,_,hd,hi,N⟩:=z;unfold pyHash
 first|unfold pyHashByItsType|skip
 first|refine zaa (wpAny_cRoomFor_or (.inr<|by lia) ?_)|skip
 refine zaa<|zc3 hT F.slot_tuple_hash.lookup ?_;show wpAny _ _ (if(bx (zb5 "tuple.__hash__") == bx zaS)=cf then _ else _) Q E s;rw[cq<|by rw[beq_builtin_none];exact zaB];refine zaa<|zc3 hT F.slot_tuple_hash.lookup ?_;show wpAny _ _ (callSpecialIfBoundUnlessNone? (.ref a) "__hash__" _ >>= _) Q E s;refine zaa<|wpAny_callSpecialIfBoundUnlessNone?_slot hT F.slot_tuple_hash<|zbo F.slot_tuple_hash hT F.entry_tuple_hash ?_<|F.args_tuple_hash_1 _;show wpAny _ _ (zeb (.ref a) >>= _) _ _ s;refine zaa<|zec G hd ?_;refine zaa ?_;rw[<- zed];refine zc4 _
  (λrest (c:Array Int) s'=>(rest=[v,.ref b]/\c=#[]/\s'=s)\/(rest=[.ref b]/\c=#[knd.hash k.1]/\s'={s with toks:=s.toks+1})\/(rest=[]/\c=#[knd.hash k.1,zck knd k.2]/\s'={s with toks:=s.toks+(k.2.length+2)}))
  _ ?_ ?_ _ _ (.inl ⟨rfl,rfl,rfl⟩)
 .rintro x rest c s' (⟨e,rfl,rfl⟩|⟨e,rfl,rfl⟩|⟨e,_⟩)
  .cases e
   refine zaa<|knd.pyHash hi ?_
   first
    | exact zag<|.inr<|.inl ⟨rfl,rfl,rfl⟩
    | exact zaa<|zag<|zag<|.inr<|.inl ⟨rfl,rfl,rfl⟩
  .cases e
   refine zaa<|wpAny_pyHash_tuple (knd:=knd) (ks:=k.2) ?_ N ?_
   .exact J
   .have e:({s with toks:=s.toks+1+(k.2.length+1)}:zab)={s with toks:=s.toks+(k.2.length+2)}:=by congr 1;lia
    show wpAny _ _ _ _ _ {s with toks:=s.toks+1+(k.2.length+1)};rw[e]
    first
     | exact zag<|.inr<|.inr ⟨rfl,rfl,rfl⟩
     | exact zaa<|zag<|zag<|.inr<|.inr ⟨rfl,rfl,rfl⟩
  .cases e
 .rintro c s' (⟨e,_⟩|⟨e,_⟩|⟨e,rfl,rfl⟩)
  .cases e
  .cases e
  show wpAny _ _ (retInt<|zcj [knd.hash k.1,zck knd k.2]) _ _ _;refine wpAny_ret_mkInt ?_;show wpAny _ _ (if(decide (-(2:Int)^63<=zcj [knd.hash k.1,zck knd k.2]) && decide (zcj [knd.hash k.1,zck knd k.2]<2^63))=cf then _ else _) Q E _;unfold sI reduceHash at h;by_cases q:(decide (-(2:Int)^63<=zcj [knd.hash k.1,zck knd k.2]) && decide (zcj [knd.hash k.1,zck knd k.2]<2^63))=cf
  .rw[ck q]
   rw[ck q]at h;exact zag<|by simpa[Nat.add_assoc]using h
  .rw[cq q]
   rw[cq q]at h;exact zaa<|zbU<|zag<|by simpa[Nat.add_assoc]using h
def xG{x y:K×List K}{a b:Addr}{P:Fin->zab->Prop}(hu:A.units<cLine)(hx:NestIs knd s.heap x a)(hy:NestIs knd s.heap y b)(h:P (.done<|.ret<|.bool<|decide (x=y)) s) :
  wpAny (model prog w) A (zbz.«tuple.__eq__» ⟨[.ref a,.ref b],[]⟩) P E s:=by
 have J:=hy.typeIs;obtain⟨oa,na,va,ba,Y,_,G,F,N⟩:=hx;obtain⟨ob,nb,vb,bb,z,_,ab,U,W⟩:=hy;show wpAny _ _ (zcD (.ref b) (.type "tuple") >>= _) _ _ s;refine zaa<|zcE J zee ?_;simp only[zb6,zbA,if_false];refine zaa<|zec Y G ?_;refine zaa<|zec z ab ?_;refine zaa ?_;have ex:decide (x=y)=(decide (x.1=y.1) && decide (x.2=y.2)):=by
  rw[zc5,decide_eq_true_iff,zaV,decide_eq_true_iff,decide_eq_true_iff];exact⟨λe=>by rw[e];exact⟨rfl,rfl⟩,λe=>Prod.ext e.1 e.2⟩
 rw[ex]at h;refine zc4 _
  (λrest r s'=>r.1=cb/\s'=s/\(rest=[(va,vb),(.ref ba,.ref bb)]\/(rest=[(.ref ba,.ref bb)]/\x.1=y.1)\/(rest=[]/\x.1=y.1/\x.2=y.2)))
  _ ?_ ?_ _ _ ⟨rfl,rfl,.inl rfl⟩
 .rintro⟨u,v⟩ rest r s' ⟨hr,rfl,e|⟨e,e1⟩|⟨e,_⟩⟩
  .cases e
   refine zaa<|knd.eqBool (a:=x.1) (b:=y.1) F U ?_;by_cases q:x.1=y.1
   .rw[decide_eq_true q]
    simp only[zb6,zbA,if_false];exact zag ⟨rfl,rfl,.inr<|.inl ⟨trivial,q⟩⟩
   .rw[decide_eq_false q]at h ⊢
    simp only[Bool.not_false,if_true];exact zaa<|zag<|zag<|zag h
  .cases e
   refine zaa<|wpAny_eqBool_tuple (knd:=knd) hu N W ?_;by_cases q:x.2=y.2
   .rw[decide_eq_true q]
    simp only[zb6,zbA,if_false];exact zag ⟨rfl,rfl,.inr<|.inr ⟨trivial,e1,q⟩⟩
   .rw[decide_eq_false q,Bool.and_false]at h
    rw[decide_eq_false q];simp only[Bool.not_false,if_true];exact zaa<|zag<|zag<|zag h
  .cases e
 .rintro⟨r1,r2⟩ s' ⟨hr,rfl,e|⟨e,_⟩|⟨_,e1,e2⟩⟩
  .cases e
  .cases e
  simp only at hr;subst hr;refine zag ?_;rw[decide_eq_true e1,decide_eq_true e2]at h;exact h
def TN{x y:K×List K}{a b:Addr}{Q:Bool->zab->Prop}(G:A.units+1<cLine)(hx:NestIs knd s.heap x a)(z:NestIs knd s.heap y b)(h:Q (decide (x=y)) s) :
  wpAny (model prog w) A (eqBool (.ref a)<|.ref b) Q E s:=by
 unfold eqBool
 try with_reducible refine zbM ?_
 show wpAny _ _ (if(zap a == zap b)=cf then _ else _) Q E s;by_cases q:(zap a == zap b)=cf
 .rw[ck q]
  have e:a=b:=by have:=zc6 q;injection this
  subst e;obtain rfl:=hx.inj z;exact zaa<|zbU<|zag<|by simpa using h
 .rw[cq q]
  exact zaa (wpAny_richCompare_same_room (op:=.Eq) hx.typeIs z.typeIs F.slot_tuple_eq
   (zbo F.slot_tuple_eq hx.typeIs F.entry_tuple_eq (xG (show A.in1.units<cLine from G) hx z ⟨_,rfl,(λe=>nomatch e),zcF h⟩)<|F.args_tuple_eq_2 _ _) (by lia))
def J0(n:Nat){ks:List K}{a:Addr}{Q:Bool->zab->Prop}(J:IsTupleKey knd s.heap ks a)(h:Q cf s):wpAny (model prog w) A (eqIsQuiet (n+1)<|.ref a) Q E s:=by
 have hT:=J.typeIs;obtain⟨o,items,m,N,_,hd,hi⟩:=J;unfold eqIsQuiet;refine zaa<|zc3 hT F.slot_tuple_eq.lookup ?_;show wpAny _ _ (zcD (.ref a) (.type "tuple") >>= _) _ _ s;refine zaa<|zcE hT zee ?_;simp only[zb6,zbA,if_false];refine zaa<|zbB N hd ?_;refine zaa ?_;show wpAny _ _ (forIn items _ _) _ _ s;rw[<- zed];refine zc4 _ (λrest r s'=>r.1=cb/\s'=s/\∀v∈rest,carriedByValue v=cf) _ ?_ ?_ _ _ ⟨rfl,rfl,hi.byValue⟩
 .rintro v rest r s' ⟨z,rfl,q⟩
  rw[eqIsQuiet_byValue _<|q v zar];refine zaa<|zag ?_;simp only[zb6,zbA,if_false];exact zag ⟨rfl,rfl,λu G=>q u<|zaq _ G⟩
 .rintro⟨r1,r2⟩ s' ⟨z,rfl,_⟩
  simp only at z;subst z;exact zag h
def DP{k:K×List K}{a:Addr}{Q:Bool->zab->Prop}(z:NestIs knd s.heap k a)(h:Q cf s):wpAny (model prog w) A (eqIsQuiet 8<|.ref a) Q E s:=by
 have hT:=z.typeIs;obtain⟨o,m,v,b,G,_,hd,hi,J⟩:=z;unfold eqIsQuiet;refine zaa<|zc3 hT F.slot_tuple_eq.lookup ?_;show wpAny _ _ (zcD (.ref a) (.type "tuple") >>= _) _ _ s;refine zaa<|zcE hT zee ?_;simp only[zb6,zbA,if_false];refine zaa<|zbB G hd ?_;refine zaa ?_;show wpAny _ _ (forIn _ _ _) _ _ s;rw[<- zed];refine zc4 _ (λrest r s'=>r.1=cb/\s'=s/\(rest=[v,.ref b]\/rest=[.ref b]\/rest=[])) _ ?_ ?_ _ _ ⟨rfl,rfl,.inl rfl⟩
 .rintro u rest r s' ⟨q,rfl,e|e|e⟩
  .cases e
   rw[eqIsQuiet_byValue _<|knd.byValue _ _ hi];refine zaa<|zag ?_;simp only[zb6,zbA,if_false];exact zag ⟨rfl,rfl,.inr<|.inl trivial⟩
  .cases e
   refine zaa<|J0 _ J ?_;simp only[zb6,zbA,if_false];exact zag ⟨rfl,rfl,.inr<|.inr trivial⟩
  .cases e
 .rintro⟨r1,r2⟩ s' ⟨q,rfl,_⟩
  simp only at q;subst q;exact zag h
end
def cZ{prog:zah}{w:World}{K:Type}[DecidableEq K](knd:KeyKind prog w K):HeapKind prog w (K×List K) where
 is:=NestIs knd
 hash:=sI knd
 draws:=λk=>k.2.length+3
 room:=λA=>A.units+1<cLine
 inj:=λhx q=>hx.inj q
 keeps:=λx G hd hs=>x.keeps G hd hs
 pyHash:=λz F h=>KQ z F h
 eqBool:=λz hx q h=>TN z hx q h
 quiet:=λF h=>DP F h
inductive HO where
 | memo (dom:List<|Key×List Key) (f:Key×List Key->Option (Int×Int)) (p:Option<|Key×List Key)
 /-- a list -/
 | lst (xs:List V)
 /-- a tuple (never changes) -/
 | tup (xs:List V)
 /-- a dict whose keys are ints and texts;one whose keys are tuples of ints and texts (the empty one is both) -/
 | dK (kvs:List<|Key×V)|dT (kvs:List<|List Key×V)
 /-- a set of ints: its members, its size -/
 | set (S:Int->Bool) (n:Nat)
 /-- an instance of the class at C, its dict at dx, its attributes -/
 | ins (C dx:Addr) (fs:List<|Str×V)
 /-- the dict of the instance at x -/
 | own (x:Addr)
 /-- the dict of an exception -/
 | xd (fs:List<|Str×V)
 /-- a bound method, f of x -/
 | met (f x:Addr)
 /-- a range object lo, lo+1, .. below hi -/
 | rng (lo hi:Int)
 /-- a thing that is known to the object (the script;a dict while a loop walks it): read, never written while it is so -/
 | frz (o:Obj) (u:HO)
 /-- a code object's table -/
 | tbl (ps:Array Value)
 /-- any other thing, by what is true of its one object (a def of one's own: SetO a S n:=HO.ext λh => ..) -/
 | ext (φ:Heap->Prop)
abbrev Hp:=Addr->Option HO
def upd(H:Hp)(a:Addr)(o:HO):Hp:=λb=>if b=a then bx o else H b
def MemV(H:Hp):Option (Int×Int)->Value->Prop
 |none,v=>v=.none
 |some p,v=>∃b,v=.ref b/\H b=bx (.tup [.int p.1,.int p.2])
def aI:upd H a o a=bx o:=by unfold upd;rw[ck rfl]
def aG(h:b≠a):upd H a o b=H b:=by unfold upd;rw[cq h]
def SN:upd (upd H a o) a u=upd H a u:=by
 funext b;unfold upd;split <;> rfl
def uH{H:Hp}{a b:Addr}{o u:HO}(h:H a=bx o)(h':H b=bx u)(d:o≠u):a≠b:=by
 intro e;subst e;rw[h]at h';exact d<|zay h'
def bG{H:Hp}{a b:Addr}{o:HO}(h:H a=bx o)(h':H b=cb):a≠b:=by
 intro e;subst e;rw[h]at h';cases h'
section
variable (P:zah)(w:World)
def IsTupN(h:Heap)(a:Addr)(items:Array Value):Prop:=∃o,h.get? a=bx o/\o.cls=.type "tuple" /\ ∃n,o.data=.seq items n/\o.dict=cb
def IsTupN.tup{h:Heap}{a:Addr}{items:Array Value}(x:IsTupN h a items):IsTup h a items:=let ⟨o,e,c,n,d,_⟩:=x;⟨o,e,c,n,d⟩
theorem IsTupN.lt(x:IsTupN h a items):a<h.objs.size:=x.tup.lt
def IsTupN.new(h:Heap)(items:Array Value):IsTupN (h.push {cls:=.type "tuple",data:=.seq items}) h.objs.size items:=⟨_,zaF _ rfl,rfl,_,rfl,rfl⟩
def ObjOk(H:Hp)(h:Heap)(a:Addr):HO->Prop
 |.lst xs=>xs.length<=zai/\∃(its:List Value) (n:Nat),Vals xs its/\h.get? a=bx {cls:=.type "list",data:=.seq its.toArray n}
 |.tup xs=>xs.length<=zai/\∃its:List Value,Vals xs its/\IsTupN h a its.toArray
 |.dK kvs=>kvs.length<=zai/\(a == zbb)=ci/\∃vs,KV kvs vs/\h.DictOf (bA P w) a vs
 |.dT kvs=>kvs.length<=zai/\(a == zbb)=ci/\∃xs:List (List Key×Addr×Value),
   Paired (λ(p:List Key×V) (q:List Key×Addr×Value)=>p.1=q.1/\H q.2.1=bx (.tup<|p.1.map kV)/\RelV p.2 q.2.2) kvs xs /\
   ∃o es ep,h.get? a=bx o/\o.ExactDict/\o.data=.dict es ep/\es.toList=xs.map (zcl<|zb7<|bA P w)/\(xs.map (·.1)).Nodup
 |.set S n=>h.SetOf (intKind P w) a S n
 |.memo dom f p=>(a == zbb)=ci/\∃xs:List ((Key×List Key)×Addr×Value),(∀x∈xs,x.1∈dom/\(∃b,H x.2.1=bx (.tup [kV x.1.1,.ref b])/\H b=bx (.tup<|x.1.2.map kV))/\MemV H (f x.1) x.2.2)/\(∀k,p=bx k->∃q,atKey xs k=bx q) /\
   ∃o es ep,h.get? a=bx o/\o.ExactDict/\o.data=.dict es ep/\es.toList=xs.map (zcl<|cZ<|bA P w)/\(xs.map (·.1)).Nodup
 |.ins C dx fs=>H dx=bx (.own a)/\fs.length<=1000/\dx≠a/\h.get? a=bx (zb8 C dx) /\
   ∃mA,h.Ns1 dx mA/\(∀f,RelO (fs.lookup f)<|mA f)/\PySem.Within mA (fs.map (·.1))
 |.own _=>∃o,h.get? a=bx o
 |.xd fs=>∃mA,h.Ns1 a mA/\∀f,RelO (fs.lookup f)<|mA f
 |.rng lo hi=>∃t u v,h.get? a=bx {cls:=.type "range",data:=.fields #[.int lo t,.int hi u,.int 1 v]}
 |.frz o u=>h.get? a=bx o/\ObjOk H h a u
 |.tbl ps=>h.get? a=bx {cls:=.none,data:=.fields ps}
 |.met f x=>h.get? a=bx (zef (.ref f)<|.ref x)
 |.ext φ=>φ h/\(∃o,h.get? a=bx o)/\∀h1 h2:Heap,φ h1->(∀o,h1.get? a=bx o->h2.get? a=bx o)->φ h2
def HOk(H:Hp)(h:Heap):Prop:=∀a o,H a=bx o->ObjOk P w H h a o
end
section
variable {P:zah}{w:World}{H H':Hp}{h h':Heap}{a:Addr}{o:HO}
theorem ObjOk.lt(x:ObjOk P w H h a o):a<h.objs.size:=by
 cases o with
 |lst xs=>obtain⟨_,_,_,_,e⟩:=x;exact zao e
 |tup xs=>obtain⟨_,_,_,p⟩:=x;exact p.lt
 |dK kvs=>obtain⟨_,_,_,_,o,_,_,e,_⟩:=x;exact zao e
 |dT kvs=>obtain⟨_,_,_,_,o,_,_,e,_⟩:=x;exact zao e
 |set S n=>obtain⟨o,_,_,_,e,_⟩:=x;exact zao e
 |memo dom f p=>obtain⟨_,_,_,_,o,_,_,e,_⟩:=x;exact zao e
 |ins C dx fs=>obtain⟨_,_,_,e,_⟩:=x;exact zao e
 |own y=>obtain⟨_,e⟩:=x;exact zao e
 |xd fs=>obtain⟨_,⟨_,_,_,e,_⟩,_⟩:=x;exact zao e
 |rng lo hi=>obtain⟨_,_,_,e⟩:=x;exact zao e
 |frz ob u=>obtain⟨e,_⟩:=x;exact zao e
 |tbl ps=>exact zao<|show h.get? a=bx _ from x
 |met f y=>exact zao<|show h.get? a=bx _ from x
 |ext φ=>obtain⟨_,⟨_,e⟩,_⟩:=x;exact zao e
theorem Paired.mapP{q β:Type}{F G:q->β->Prop}:∀ {l₁:List q} {l₂:List β},Paired F l₁ l₂->(∀a b,F a b->G a b)->Paired G l₁ l₂
 |_,_,.nil,_=>.nil
 |_,_,.cons r t,f=>.cons (f _ _ r)<|Paired.mapP t f
def ObjOk.stay(x:ObjOk P w H h a o)(k:∀b u,(b=a\/H b=bx (.own a))->h.get? b=bx u->h'.get? b=bx u)
  (N:∀b,H b=bx (.own a)->H' b=bx (.own a)) (G:∀b xs,H b=bx (.tup xs)->H' b=bx (.tup xs)):ObjOk P w H' h' a o:=by
 induction o with
 |lst xs=>obtain⟨z,F,n,r,e⟩:=x;exact⟨z,F,n,r,k _ _ (.inl rfl) e⟩
 |tup xs=>obtain⟨z,F,r,ob,e,c⟩:=x;exact⟨z,F,r,ob,k _ _ (.inl rfl) e,c⟩
 |dK kvs=>obtain⟨z,y,vs,r,ob,es,ep,e,c⟩:=x;exact⟨z,y,vs,r,ob,es,ep,k _ _ (.inl rfl) e,c⟩
 |dT kvs=>
  obtain⟨z,y,xs,r,ob,es,ep,e,c⟩:=x;exact⟨z,y,xs,Paired.mapP r λp q z=>⟨z.1,G _ _ z.2.1,z.2.2⟩,ob,es,ep,k _ _ (.inl rfl) e,c⟩
 |set S n=>obtain⟨ob,es,ep,t,e,c⟩:=x;exact⟨ob,es,ep,t,k _ _ (.inl rfl) e,c⟩
 |memo dom f p=>
  obtain⟨y,xs,r,hp,ob,es,ep,e,c⟩:=x;refine⟨y,xs,λx hx=>?_,hp,ob,es,ep,k _ _ (.inl rfl) e,c⟩;obtain⟨d,⟨b,q1,Y⟩,m⟩:=r x hx;refine⟨d,⟨b,G _ _ q1,G _ _ Y⟩,?_⟩;revert m;cases f x.1 with
  |none=>exact id
  |some p=>exact λ⟨c,U,J⟩=>⟨c,U,G _ _ J⟩
 |ins C dx fs=>
  obtain⟨d,z,W,e,mA,⟨od,es,ep,J,c⟩,r⟩:=x;exact⟨N _ d,z,W,k _ _ (.inl rfl) e,mA,⟨od,es,ep,k _ _ (.inr d) J,c⟩,r⟩
 |own y=>obtain⟨ob,e⟩:=x;exact⟨ob,k _ _ (.inl rfl) e⟩
 |xd fs=>obtain⟨mA,⟨od,es,ep,e,c⟩,r⟩:=x;exact⟨mA,⟨od,es,ep,k _ _ (.inl rfl) e,c⟩,r⟩
 |rng lo hi=>obtain⟨t,u,v,e⟩:=x;exact⟨t,u,v,k _ _ (.inl rfl) e⟩
 |frz ob u ih=>obtain⟨e,q⟩:=x;exact⟨k _ _ (.inl rfl) e,ih q⟩
 |tbl ps=>
  have e:h.get? a=bx {cls:=.none,data:=.fields ps}:=x;show h'.get? a=bx {cls:=.none,data:=.fields ps};exact k a _ (.inl rfl) e
 |met f y=>
  have e:h.get? a=bx (zef (.ref f)<|.ref y):=x;show h'.get? a=bx (zef (.ref f)<|.ref y);exact k a _ (.inl rfl) e
 |ext φ=>obtain⟨p,⟨o,e⟩,st⟩:=x;exact⟨st _ _ p λo q=>k _ _ (.inl rfl) q,⟨o,k _ _ (.inl rfl) e⟩,st⟩
theorem HOk.lt(x:HOk P w H h)(e:H a=bx o):a<h.objs.size:=(x a o e).lt
def HOk.fresh(x:HOk P w H h)(e:h.objs.size<=a):H a=cb:=by
 cases q:H a with
 |none=>rfl
 |some u=>exact absurd (zaY (x.lt q) e)<|zb9 _
def HOk.kept(x:HOk P w H h)(k:∀b u,h.get? b=bx u->h'.get? b=bx u):HOk P w H h':=λa o e=>
 (x a o e).stay (λb u _ q=>k b u q) (λ_ q=>q) λ_ _ q=>q
def HOk.laid(x:HOk P w H h)(k:∀b u,h.get? b=bx u->h'.get? b=bx u)(G:h.objs.size<=a)(new:ObjOk P w (upd H a o) h' a o):HOk P w (upd H a o) h':=λb u e=>by
 have F:=x.fresh G;by_cases z:b=a
 .subst z;rw[aI]at e;cases e;exact new
 .rw[aG z]at e
  exact(x b u e).stay (λc v _ q=>k c v q) (λc q=>by rw[aG<|bG q F];exact q) λc xs q=>by rw[aG<|bG q F];exact q
end
def Rd(H:Hp)(a:Addr)(u:HO):Prop:=H a=bx u\/∃o,H a=bx (.frz o u)
def Rd.of(h:H a=bx u):Rd H a u:=.inl h
def Rd.ok(r:Rd H a u)(x:HOk P w H h):ObjOk P w H h a u:=by
 rcases r with r|⟨o,r⟩
 .exact x a u r
 .obtain⟨_,q⟩:=x a _ r
  exact q
def Mut:Option HO->Prop
 |some (.lst _)=>True
 |some (.dK _)=>True
 |some (.dT _)=>True
 |some (.set _ _)=>True
 |some (.memo _ _ _)=>True
 |some (.ins _ _ _)=>True
 |some (.ext _)=>True
 |_=>False
section
variable {P:zah}{w:World}{H:Hp}{h h':Heap}{x e:Addr}{o':HO}
def HOk.write(ok:HOk P w H h)(W:Mut<|H x)(he:e=x\/H e=bx (.own x))(k:∀b u,b≠e->h.get? b=bx u->h'.get? b=bx u)(Y:∃u,h'.get? e=bx u)
  (new:ObjOk P w (upd H x o') h' x o'):HOk P w (upd H x o') h':=λb u q=>by
 have G:∀c y,H c=bx (.own y)->c≠x:=λc y r z=>by subst z;rw[r]at W;exact W
 have J:∀c xs,H c=bx (.tup xs)->c≠x:=λc xs r z=>by subst z;rw[r]at W;exact W
 by_cases N:b=x
 .subst N;rw[aI]at q;cases q;exact new
 .rw[aG N]at q
  by_cases F:b=e
  .have q':H b=bx (.own x):=by
    rcases he with z|z
    .exact absurd (F.trans z) N
    .rw[F];exact z
   rw[q]at q';cases q';obtain⟨v,hv⟩:=Y;exact⟨v,by rw[F];exact hv⟩
  .refine(ok b u q).stay (λc v U r=>k c v ?_ r) (λc r=>by rw[aG<|G c b r];exact r) λc xs r=>by rw[aG<|J c xs r];exact r
   rcases U with rfl|U
   .exact F
   .rintro rfl
    rcases he with z|z
    .exact G c b U z
    .rw[U]at z;cases z;exact N rfl
end
structure Un(fs ex:List Addr)(H H':Hp)(h h':Heap):Prop where
 keep:∀b o,h.get? b=bx o->H b=cb->b∉fs->b∉ex->h'.get? b=bx o
 slot:∀b o,h.get? b=bx o->H b=cb->b∈fs->b∉ex->∃sl,h'.get? b=bx {o with slots:=sl}
 free:∀b o,h.get? b=bx o->H b=cb->b∉ex->H' b=cb
 there:∀b o,h.get? b=bx o->b∉ex->∃o',h'.get? b=bx o'
 tups:∀b xs,H b=bx (.tup xs)->H' b=bx (.tup xs)
 frzs:∀b o u,H b=bx (.frz o u)->H' b=bx (.frz o u)
 tbls:∀b ps,H b=bx (.tbl ps)->∃more,H' b=bx (.tbl<|ps++more)
section
variable {fs fs' ex ex':List Addr}{H H1 H2:Hp}{h h1 h2 h':Heap}{a x e:Addr}{o:HO}
def Un.any(u:Un fs ex H H1 h h1)(q:h.get? b=bx ob)(n:H b=cb)(hx:b∉ex):∃F,h1.get? b=bx {ob with slots:=F}:=by
 by_cases z:b∈fs
 .exact u.slot b ob q n z hx
 .exact⟨ob.slots,u.keep b ob q n z hx⟩
def Un.kept(k:∀b u,h.get? b=bx u->h'.get? b=bx u):Un fs ex H H h h':=
 ⟨λb ob q _ _ _=>k b ob q,λb ob q _ _ _=>⟨ob.slots,k b ob q⟩,λ_ _ _ n _=>n,λb ob q _=>⟨ob,k b ob q⟩,λ_ _ q=>q,λ_ _ _ q=>q,λ_ ps q=>⟨#[],by rw[q];simp⟩⟩
def Un.refl:Un fs ex H H h h:=Un.kept λ_ _ q=>q
def Un.laid(k:∀b u,h.get? b=bx u->h'.get? b=bx u)(F:h.objs.size<=a)(z:H a=cb):Un fs ex H (upd H a o) h h' where
 keep:=λb u q _ _ _=>k b u q
 slot:=λb u q _ _ _=>⟨u.slots,k b u q⟩
 free:=λb u q n _=>by rw[aG<|zaE<|zaY (zao q) F];exact n
 there:=λb u q _=>⟨u,k b u q⟩
 tups:=λb xs q=>by rw[aG<|bG q z];exact q
 frzs:=λb u xs q=>by rw[aG<|bG q z];exact q
 tbls:=λb ps q=>⟨#[],by rw[aG<|bG q z,q];simp⟩
def Un.write(G:Mut<|H x)(W:e=x\/H e=bx (.own x))(k:∀b u,b≠e->h.get? b=bx u->h'.get? b=bx u)(J:∃u,h'.get? e=bx u):Un fs ex H (upd H x o) h h':=by
 have hx:∀b,H b=cb->b≠x:=λb n z=>by subst z;rw[n]at G;exact G
 have U:∀b,H b=cb->b≠e:=λb n z=>by
  subst z;rcases W with r|r
  .exact hx b n r
  .rw[n]at r;cases r
 have N:∀b u,H b=bx u->¬ Mut (bx u)->b≠x:=λb u q nm z=>by subst z;rw[q]at G;exact nm G
 refine⟨λb u q n _ _=>k b u (U b n) q,λb u q n _ _=>⟨u.slots,k b u (U b n) q⟩,λb u q n _=>by rw[aG<|hx b n];exact n,λb u q _=>?_,
  λb xs q=>by rw[aG<|N b _ q λz=>z];exact q,λb u xs q=>by rw[aG<|N b _ q λz=>z];exact q,λb ps q=>⟨#[],by rw[aG<|N b _ q λz=>z,q];simp⟩⟩
 by_cases F:b=e
 .subst F;exact J
 .exact⟨u,k b u F q⟩
end
def trk(h:Heap)(H:Hp):List Addr:=(zas h.objs.size).filter λa=>(H a).isSome
def y6(h:Heap)(H:Hp):Heap:=PySem.W.hideAll h<|trk h H
def JF(h:Heap)(H:Hp):(y6 h H).objs.size=h.objs.size:=PySem.W.hideAll_size _ _
def LX(e:h.get? b=bx o)(n:H b=cb):(y6 h H).get? b=bx o:=
 PySem.W.hideAll_get _ e λz=>by
  have q:(H b).isSome=cf:=(List.mem_filter.mp z).2;rw[n]at q;simp at q
def RX(e:(y6 h H).get? b=bx o):h.get? b=bx o/\H b=cb:=by
 have F:h.get? b=bx o:=PySem.W.of_hideAll (trk h H) e;refine⟨F,?_⟩;cases q:H b with
 |none=>rfl
 |some x=>
  have G:b∈trk h H:=List.mem_filter.mpr ⟨List.mem_range.mpr<|zao F,by simp[q]⟩;have z:(y6 h H).get? b=cb:=PySem.W.hideAll_none (trk h H) G;rw[z]at e;cases e
def RB(g h:Heap)(L:Addr):List<|Addr×Obj:=(zas h.objs.size).filterMap λa=>if a=L\/(g.get? a).isSome=cf then cb else(h.get? a).map λo=>(a,o)
def rest(g h:Heap)(L d:Addr):List<|Addr×Obj:=(RB g h L).filter λp=>decide (p.1≠d)
structure Mod(K:zae)(mg:Str->Option Value)(base:Heap):Prop where
 kin:K.In base
 glob:base.Ns zaK mg
 blt:∃mb,base.Ns builtinsNs mb/\∀x:Str,x ≠ "__name__" -> mb x=zaL x
 nolimit:base.NoLimit
structure Cx where
 prog:zah
 w:World
 K:zae
 mg:Str->Option Value
 base:Heap
 A:zal
 N:List Str
 s₀:zab
 H₀:Hp
 env:Env
 outer:List Env
 stack:List Env
 ex:List Addr
 fn:Str->Bool
 calm:Bool
 pn:List<|Addr×Obj
 xe:Value->zab->Prop
def frs(l:List Env):List Addr:=l.filterMap (·.frame)
abbrev Cx.fs(X:Cx):List Addr:=frs X.outer
def QO(sc:Scope)(x:Str):Prop:=sc.names.lookup x=bx .local\/sc.names.lookup x=bx .cell\/sc.names.lookup x=bx .free
def Loc(sc:Scope)(x:Str):Prop:=sc.names.lookup x=bx .local\/sc.names.lookup x=bx .cell
def Look(env:Env)(h:Heap)(m:Str->Option Value)(x:Str)(u:Value):Prop:=
 (env.kindOf x=bx .local/\m x=bx u)\/((env.kindOf x=bx .cell\/env.kindOf x=bx .free)/\∃c,env.cells.lookup x=bx c/\h.IsCell c (bx u))
structure Cx.Ok(X:Cx):Prop where
 mod:Mod X.K X.mg X.base
 kind:X.env.scope.kind=.function
 glob:X.env.globals=zaK
 blt:X.env.builtins=builtinsNs
 above:X.s₀.heap.objs.size<=X.env.locals
 inj:∀x y c,X.env.cells.lookup x=bx c->X.env.cells.lookup y=bx c->x=y
 has:∀x,(X.env.kindOf x=bx .cell\/X.env.kindOf x=bx .free)->∃c,X.env.cells.lookup x=bx c
 cab:∀x c,X.fn x=cf->X.env.cells.lookup x=bx c->X.s₀.heap.objs.size<=c
 hd:X.calm=cf->X.A.handled=cb
 frames:X.A.frames=bx X.stack
 stk:X.stack=X.outer\/(X.stack=X.env::X.outer/\X.env.frame=bx X.env.locals)
 exf:∀b∈X.ex,b≠X.env.locals/\∀x c,X.env.cells.lookup x=bx c->c≠b
 bs:∀b o,X.base.get? b=bx o->X.s₀.heap.get? b=bx o/\X.H₀ b=cb
 bsz:X.base.objs.size<=X.s₀.heap.objs.size
 noex:∀b o,X.base.get? b=bx o->b∉X.ex
 exfs:∀b∈X.ex,b∉X.fs
 funs:X.s₀.heap.FunFrames X.base X.outer
 frf:∀b∈X.fs,X.H₀ b=cb
structure Inv(X:Cx)(pins:List<|Addr×Obj)(σ:List<|Option V)(H:Hp)(s:zab):Prop where
 ok:X.Ok
 os:s.os=X.s₀.os
 bare:zbN s.gens
 base:Un X.fs X.ex X.H₀ H X.s₀.heap s.heap
 loc:∃m,s.heap.Ns X.env.locals m/\∀(i:Nat) (x:Str) (v:V),X.N[i]?=bx x->σ[i]?=bx (bx v)->QO X.env.scope x->∃u,RelV v u/\Look X.env s.heap m x u
 cell:∀x c,X.env.cells.lookup x=bx c->∃v,s.heap.IsCell c v
 free:H X.env.locals=cb
 freeC:∀x c,X.env.cells.lookup x=bx c->H c=cb
 pin:∀p∈X.pn++pins,s.heap.get? p.1=bx p.2/\H p.1=cb/\p.1≠X.env.locals/\p.1∉X.fs/\∀v,p.2.data≠.cell v
 hok:HOk X.prog X.w H s.heap
 len:σ.length=X.N.length
section
variable {X:Cx}{pins:List (Addr×Obj)}{σ:List (Option V)}{H H':Hp}{s:zab}{h':Heap}
def Cx.Ok.nofr(ok:X.Ok)(e:X.base.get? b=bx o):b∉X.fs:=λq=>by
 have:=(ok.funs.mem q).1;rw[e]at this;cases this
theorem Inv.bs(I:Inv X pins σ H s):∀b o,X.base.get? b=bx o->s.heap.get? b=bx o/\H b=cb:=λb o e=>
 ⟨I.base.keep b o (I.ok.bs b o e).1 (I.ok.bs b o e).2 (I.ok.nofr e)<|I.ok.noex b o e,I.base.free b o (I.ok.bs b o e).1 (I.ok.bs b o e).2<|I.ok.noex b o e⟩
def Inv.bk(I:Inv X pins σ H s):∀b o,X.base.get? b=bx o->s.heap.get? b=bx o:=λb o e=>(I.bs b o e).1
theorem Inv.mod(I:Inv X pins σ H s):Mod X.K X.mg X.base:=I.ok.mod
def Inv.kIn(I:Inv X pins σ H s):X.K.In s.heap:=I.ok.mod.kin.keeps I.bk
theorem Inv.lt(I:Inv X pins σ H s):X.env.locals<s.heap.objs.size:=let ⟨_,hn,_⟩:=I.loc;hn.lt
def Inv.sz(I:Inv X pins σ H s):X.s₀.heap.objs.size<=s.heap.objs.size:=zaO I.ok.above<|Nat.le_of_lt I.lt
def Inv.nofs(I:Inv X pins σ H s)(h:s.heap.objs.size<=a):a∉X.fs:=λq=>by
 obtain⟨_,o,z,_⟩:=I.ok.funs.mem q;exact absurd (zaY (zao z)<|zaO I.sz h)<|zb9 _
def Inv.cne(I:Inv X pins σ H s):∀x c,X.env.cells.lookup x=bx c->c≠X.env.locals:=λx c e z=>by
 obtain⟨v,o,G,hd⟩:=I.cell x c e;obtain⟨m,⟨o',es,ep,q,F,_⟩,_⟩:=I.loc;rw[z,q]at G;cases G;rw[F]at hd;cases hd
theorem Inv.funs(I:Inv X pins σ H s):s.heap.FunFrames X.base X.outer:=by
 have all:∀(l:List Env),(∀b∈frs l,b∈X.fs)->X.s₀.heap.FunFrames X.base l->s.heap.FunFrames X.base l:=by
  intro l;induction l with
  |nil=>intro _ _;trivial
  |cons env r ih=>
   intro hs U;obtain⟨N,⟨L,o,F,W,J,hd⟩,Y⟩:=U;have G:L∈X.fs:=hs L (by unfold frs;rw[zeh,F];exact zar);obtain⟨sl,e⟩:=I.base.slot L o J (I.ok.frf L G) G λz=>I.ok.exfs L z G
   exact⟨N,⟨L,_,F,W,e,hd⟩,ih (λb q=>hs b<|by unfold frs;rw[zeh,F];exact zaq _ q) Y⟩
 exact all X.outer (λ_ q=>q) I.ok.funs
theorem Inv.stack(I:Inv X pins σ H s):s.heap.FunFrames X.base X.stack:=by
 rcases I.ok.stk with e|⟨e,q⟩
 .rw[e];exact I.funs
 .rw[e]
  obtain⟨m,z,_⟩:=I.loc;refine .cons (by rw[I.ok.kind];decide) q z ?_ I.funs;exact zdq<|zaO I.ok.bsz I.ok.above
def Inv.stkSub(I:Inv X pins σ H s):∀b∈frs X.stack,b∈X.env.locals::X.fs:=λb q=>by
 rcases I.ok.stk with e|⟨e,z⟩
 .rw[e]at q;exact zaq _ q
 .rw[e]at q
  unfold frs at q;rw[zeh,z]at q;exact q
def Inv.stkFree(I:Inv X pins σ H s):∀b∈frs X.stack,H b=cb:=λb q=>by
 rcases List.mem_cons.mp (I.stkSub b q)with e|q
 .rw[e];exact I.free
 .obtain⟨_,o,F,_⟩:=I.ok.funs.mem q
  exact I.base.free b o F (I.ok.frf b q) λz=>I.ok.exfs b z q
def Inv.step{g':Array GenState}{t':Nat}{d':Drawn}{ch:List Addr}(I:Inv X pins σ H s)
  (J:∀b∈ch,(b∈X.ex\/X.s₀.heap.objs.size<=b)/\b≠X.env.locals/\(∀x c,X.env.cells.lookup x=bx c->c≠b)/\∀p∈X.pn++pins,p.1≠b)
  (keep:∀b o,b≠X.env.locals->b∉X.fs->b∉ch->s.heap.get? b=bx o->H b=cb->h'.get? b=bx o)
  (W:∀b o,b≠X.env.locals->b∈X.fs->b∉ch->s.heap.get? b=bx o->H b=cb->∃sl,h'.get? b=bx {o with slots:=sl}) (free:∀b o,b∉ch->s.heap.get? b=bx o->H b=cb->H' b=cb)
  (there:∀b o,b∉ch->s.heap.get? b=bx o->∃o',h'.get? b=bx o')
  (af:∀b xs,H b=bx (.tup xs)->H' b=bx (.tup xs)) (ad:∀b o u,H b=bx (.frz o u)->H' b=bx (.frz o u)) (ae:∀b ps,H b=bx (.tbl ps)->∃more,H' b=bx (.tbl<|ps++more))
  (ns:∀m,s.heap.Ns X.env.locals m->h'.Ns X.env.locals m) (hok:HOk X.prog X.w H' h') (hg:zbN g') :
  Inv X pins σ H' {s with heap:=h',gens:=g',drawn:=d',toks:=t'}:=by
 have ab:∀b o,X.s₀.heap.get? b=bx o->b≠X.env.locals:=λb o e=>zaE<|zaY (zao e) I.ok.above
 have N:∀b o,X.s₀.heap.get? b=bx o->b∉X.ex->b∉ch:=λb o e hx Y=>by
  rcases(J b Y).1 with z|z
  .exact hx z
  .exact absurd (zaY (zao e) z)<|zb9 _
 have G:∀x c,X.env.cells.lookup x=bx c->∀v,s.heap.IsCell c v->h'.IsCell c v:=by
  rintro x c e v ⟨o,ho,hd⟩;have F:c∉ch:=λz=>(J c z).2.2.1 x c e rfl
  by_cases hc:c∈X.fs
  .obtain⟨sl,q⟩:=W c o (I.cne x c e) hc F ho (I.freeC x c e)
   exact⟨_,q,hd⟩
  .exact⟨o,keep c o (I.cne x c e) hc F ho<|I.freeC x c e,hd⟩
 refine⟨I.ok,I.os,hg,⟨λb o e n Y hx=>?_,λb o e n Y hx=>?_,λb o e n hx=>?_,λb o e hx=>?_,λb xs e=>af b xs<|I.base.tups b xs e,λb o xs e=>ad b o xs<|I.base.frzs b o xs e,λb ps e=>?_⟩,?_,λx c e=>?_,?_,λx c e=>?_,λp hp=>?_,hok,I.len⟩
 .exact keep b o (ab b o e) Y (N b o e hx) (I.base.keep b o e n Y hx)<|I.base.free b o e n hx
 .obtain⟨sl,U⟩:=I.base.slot b o e n Y hx
  obtain⟨ag,e2⟩:=W b _ (ab b o e) Y (N b o e hx) U<|I.base.free b o e n hx;exact⟨ag,e2⟩
 .obtain⟨o',U⟩:=I.base.there b o e hx
  exact free b o' (N b o e hx) U<|I.base.free b o e n hx
 .obtain⟨o',U⟩:=I.base.there b o e hx
  exact there b o' (N b o e hx) U
 .obtain⟨m1,U⟩:=I.base.tbls b ps e
  obtain⟨m2,e2⟩:=ae b _ U;exact⟨m1++m2,by rw[e2,zeg]⟩
 .obtain⟨m,hn,hl⟩:=I.loc
  refine⟨m,ns m hn,λi x v U e2 e3=>?_⟩;obtain⟨u,r,l⟩:=hl i x v U e2 e3;refine⟨u,r,?_⟩;rcases l with l|⟨k,c,e,z⟩
  .exact .inl l
  .exact .inr ⟨k,c,e,G x c e _ z⟩
 .obtain⟨v,z⟩:=I.cell x c e
  exact⟨v,G x c e v z⟩
 .obtain⟨m,⟨o,_,_,ho,_⟩,_⟩:=I.loc
  exact free _ o (λz=>(J _ z).2.1 rfl) ho I.free
 .obtain⟨v,o,ho,hd⟩:=I.cell x c e
  exact free c o (λz=>(J c z).2.2.1 x c e rfl) ho<|I.freeC x c e
 .obtain⟨e,n,ne,nf,d⟩:=I.pin p hp
  have F:p.1∉ch:=λz=>(J p.1 z).2.2.2 p hp rfl
  exact⟨keep p.1 p.2 ne nf F e n,free p.1 p.2 F e n,ne,nf,d⟩
def Inv.un{t':Nat}(I:Inv X pins σ H s)(u:Un X.fs [] H H' s.heap h')(hok:HOk X.prog X.w H' h'):Inv X pins σ H' {s with heap:=h',toks:=t'}:=by
 obtain⟨m,⟨o,es,ep,N,r⟩,_⟩:=id I.loc;obtain⟨sl,Y⟩:=u.any N I.free (by simp);exact I.step (g':=s.gens) (d':=s.drawn) (ch:=[]) (λ_ z=>nomatch z) (λb o _ G _ e n=>u.keep b o e n G<|by simp) (λb o _ G _ e n=>u.slot b o e n G<|by simp) (λb o _ e n=>u.free b o e n<|by simp) (λb o _ e=>u.there b o e<|by simp) u.tups u.frzs u.tbls (λm' W=>by
  obtain⟨o',J,F,q,U⟩:=W;rw[N]at q;cases q;exact⟨_,J,F,Y,U⟩) hok I.bare
def Inv.call{g':Array GenState}{t':Nat}{d':Drawn}{ch:List Addr}(I:Inv X pins σ H s)(u:Un (frs X.stack) ch H H' s.heap h')(hok:HOk X.prog X.w H' h')(hg:zbN g')
  (G:∀b∈ch,(b∈X.ex\/X.s₀.heap.objs.size<=b)/\b≠X.env.locals/\(∀x c,X.env.cells.lookup x=bx c->c≠b)/\∀p∈X.pn++pins,p.1≠b) :
  Inv X pins σ H' {s with heap:=h',gens:=g',drawn:=d',toks:=t'}:=by
 obtain⟨m,⟨o,es,ep,W,r⟩,_⟩:=id I.loc;obtain⟨sl,U⟩:=u.any W I.free λz=>(G _ z).2.1 rfl
 exact I.step (ch:=ch) G (λb o U Y q e n=>u.keep b o e n (λz=>(List.mem_cons.mp<|I.stkSub b z).elim U Y) q) (λb o _ _ q e n=>u.any e n q) (λb o q e n=>u.free b o e n q) (λb o q e=>u.there b o e q) u.tups u.frzs u.tbls (λm' hm=>by
  obtain⟨o',N,J,F,r'⟩:=hm;rw[W]at F;cases F;exact⟨_,N,J,U,r'⟩) hok hg
def Inv.turned{t':Nat}{it:Addr}(I:Inv X pins σ H s)(k:∀b o,b≠it->s.heap.get? b=bx o->h'.get? b=bx o)(W:H it=cb)(J:it≠X.env.locals)
  (h1:it∈X.ex\/X.s₀.heap.objs.size<=it) (h2:∀x c,X.env.cells.lookup x=bx c->c≠it) (Y:∀p∈X.pn++pins,p.1≠it):Inv X pins σ H {s with heap:=h',toks:=t'}:=by
 have G:∀b u,H b=bx u->b≠it:=λb u e z=>by rw[z,W]at e;cases e
 refine I.step (g':=s.gens) (d':=s.drawn) (ch:=[it]) (λb U=>?_) (λb o _ _ F e _=>k b o (λz=>F<|by simp[z]) e) (λb o _ _ F e _=>⟨o.slots,k b o (λz=>F<|by simp[z]) e⟩) (λ_ _ _ _ n=>n)
  (λb o F e=>⟨o,k b o (λz=>F<|by simp[z]) e⟩) (λ_ _ e=>e) (λ_ _ _ e=>e) (λb ps e=>⟨#[],by rw[e];simp⟩) (λm hm=>?_) (λb u e=>?_) I.bare
 .have e:b=it:=by simpa using U
  subst e;exact⟨h1,J,h2,Y⟩
 .obtain⟨o,es,ep,N,r⟩:=hm
  exact⟨o,es,ep,k _ o (zaI J) N,r⟩
 .refine(I.hok b u e).stay (λc v F q=>k c v ?_ q) (λ_ q=>q) λ_ _ q=>q
  rcases F with z|z
  .rw[z];exact G b u e
  .exact G c _ z
def Inv.tok(I:Inv X pins σ H s)(t:Nat):Inv X pins σ H {s with toks:=t}:=I.un (h':=s.heap) (t':=t) Un.refl I.hok
theorem Inv.kept(I:Inv X pins σ H s)(k:∀b u,s.heap.get? b=bx u->h'.get? b=bx u):Inv X pins σ H {s with heap:=h',toks:=t'}:=I.un (Un.kept k)<|I.hok.kept k
theorem Inv.laid(I:Inv X pins σ H s)(k:∀b u,s.heap.get? b=bx u->h'.get? b=bx u)(q:s.heap.objs.size<=a)(new:ObjOk X.prog X.w (upd H a o) h' a o) :
  Inv X pins σ (upd H a o) {s with heap:=h',toks:=t'}:=I.un (Un.laid k q<|I.hok.fresh q)<|I.hok.laid k q new
theorem Inv.write(I:Inv X pins σ H s)(F:Mut<|H x)(z:e=x\/H e=bx (.own x))(k:∀b u,b≠e->s.heap.get? b=bx u->h'.get? b=bx u)(q:∃u,h'.get? e=bx u)
  (new:ObjOk X.prog X.w (upd H x o) h' x o):Inv X pins σ (upd H x o) {s with heap:=h',toks:=t'}:=I.un (Un.write F z k q)<|I.hok.write F z k q new
def Inv.pins_of(I:Inv X pins σ H s)(h:∀p∈pins',s.heap.get? p.1=bx p.2/\H p.1=cb/\p.1≠X.env.locals/\p.1∉X.fs/\∀v,p.2.data≠.cell v):Inv X pins' σ H s:=
 ⟨I.ok,I.os,I.bare,I.base,I.loc,I.cell,I.free,I.freeC,λp q=>(List.mem_append.mp q).elim (λz=>I.pin p<|zbq _ z)<|h p,I.hok,I.len⟩
def sU{N:List Str}(q:N.Nodup){i j:Nat}{x:Str}(a:N[i]?=bx x)(b:N[j]?=bx x):i=j:=by
 obtain⟨h1,z⟩:=List.getElem?_eq_some_iff.mp a;obtain⟨h2,F⟩:=List.getElem?_eq_some_iff.mp b;exact(zei q).mp<|z.trans F.symm
def wH{M:Model}{A:zal}{E:Value->zab->Prop}{i:Nat}{x:Str}{v:V}{u:Value}{Q:Unit->zab->Prop}(I:Inv X pins σ H s)(hN:X.N.Nodup)(hi:X.N[i]?=bx x)(hx:Loc X.env.scope x)(r:RelV v u)
  (h:∀s',Inv X pins (σ.set i<|bx v) H s'->(∃a,za6 a s.heap s'.heap/\(a=X.env.locals\/X.env.cells.lookup x=bx a))->Q () s') (hf:X.fn x=cf\/X.env.scope.names.lookup x=bx .local:=by first|exact .inl rfl|exact .inr rfl|assumption):wpAny M A (storeName X.env x u) Q E s:=by
 obtain⟨m,hn,hl⟩:=id I.loc;have ag:(X.env.scope.kind == .class || (X.env.scope.kind == .module && X.env.locals != X.env.globals))=ci:=by rw[I.ok.kind];rfl
 have aa:i<σ.length:=by rw[I.len];exact(List.getElem?_eq_some_iff.mp hi).1
 have cne:=I.cne;have F:∀ {a:Addr} {h':Heap},(∃o,s.heap.get? a=bx o/\H a=cb)->za6 a s.heap h'->HOk X.prog X.w H h':=λ{a h'} ha hs b ob e=>by
  obtain⟨_,_,U⟩:=ha;refine(I.hok b ob e).stay (λc w' J q=>(hs.2 c ?_).trans q) (λ_ q=>q) λ_ _ q=>q
  rintro rfl;rcases J with rfl|J
  .rw[U]at e;cases e
  .rw[U]at J;cases J
 rcases hx with Y|Y
 .refine wpAny_storeName_local Y hn (λh' au hs=>?_) ag
  obtain⟨oL,_,_,ar,_⟩:=id hn;refine h _ ⟨I.ok,I.os,I.bare,⟨λb o e n hb hx=>?_,λb o e n hb hx=>?_,I.base.free,λb o e hx=>?_,I.base.tups,I.base.frzs,I.base.tbls⟩,⟨_,au,λj y v' G W e3=>?_⟩,λy c e=>?_,I.free,I.freeC,λp hp=>?_,F ⟨oL,ar,I.free⟩ hs,by simpa using I.len⟩ ⟨_,hs,.inl rfl⟩
  .exact(hs.2 b<|zaE<|zaY (zao e) I.ok.above).trans<|I.base.keep b o e n hb hx
  .obtain⟨sl,G⟩:=I.base.slot b o e n hb hx
   exact⟨sl,(hs.2 b<|zaE<|zaY (zao e) I.ok.above).trans G⟩
  .obtain⟨o',G⟩:=I.base.there b o e hx
   exact⟨o',(hs.2 b<|zaE<|zaY (zao e) I.ok.above).trans G⟩
  .by_cases hj:j=i
   .subst hj
    rw[hi]at G;cases G;rw[zcG aa]at W;cases W;exact⟨u,r,.inl ⟨Y,by simp⟩⟩
   .rw[za7<|zaI hj]at W
    obtain⟨u',r',q⟩:=hl j y v' G W e3;refine⟨u',r',?_⟩;rcases q with⟨k,e⟩|⟨k,c,e,z⟩
    .refine .inl ⟨k,?_⟩
     have:y≠x:=λe=>hj<|sU hN G<|e ▸ hi
     simp[this,e]
    .exact .inr ⟨k,c,e,z.sameBut hs<|cne y c e⟩
  .obtain⟨w',z⟩:=I.cell y c e
   exact⟨w',z.sameBut hs<|cne y c e⟩
  .obtain⟨e,n,ne,nf,d⟩:=I.pin p hp
   exact⟨(hs.2 p.1 ne).trans e,n,ne,nf,d⟩
 .have ad:X.fn x=cf:=by
   rcases hf with z|z
   .exact z
   .rw[z]at Y;cases Y
  obtain⟨c,J⟩:=I.ok.has x<|.inl Y;obtain⟨w',z⟩:=I.cell x c J;refine wpAny_storeName_cell I.ok.kind Y J z λh' ah hs=>?_;obtain⟨oc,ai,af⟩:=id z;refine h {s with heap:=h'} ⟨I.ok,I.os,I.bare,⟨λb o e n hb hx=>?_,λb o e n hb hx=>?_,I.base.free,λb o e hx=>?_,I.base.tups,I.base.frzs,I.base.tbls⟩,⟨m,hn.sameBut hs<|zaI<|cne x c J,λj y v' G W e3=>?_⟩,λy c' e=>?_,I.free,I.freeC,λp hp=>?_,F ⟨oc,ai,I.freeC x c J⟩ hs,by simpa using I.len⟩ ⟨c,hs,.inr J⟩
  .exact(hs.2 b<|zaE<|zaY (zao e)<|I.ok.cab x c ad J).trans<|I.base.keep b o e n hb hx
  .obtain⟨sl,G⟩:=I.base.slot b o e n hb hx
   exact⟨sl,(hs.2 b<|zaE<|zaY (zao e)<|I.ok.cab x c ad J).trans G⟩
  .obtain⟨o',G⟩:=I.base.there b o e hx
   exact⟨o',(hs.2 b<|zaE<|zaY (zao e)<|I.ok.cab x c ad J).trans G⟩
  .by_cases hj:j=i
   .subst hj
    rw[hi]at G;cases G;rw[zcG aa]at W;cases W;exact⟨u,r,.inr ⟨.inl Y,c,J,ah⟩⟩
   .rw[za7<|zaI hj]at W
    obtain⟨u',r',q⟩:=hl j y v' G W e3;refine⟨u',r',?_⟩;rcases q with q|⟨k,c',e,z'⟩
    .exact .inl q
    .refine .inr ⟨k,c',e,z'.sameBut hs ?_⟩
     rintro rfl;exact hj<|sU hN G<|I.ok.inj _ _ _ e J ▸ hi
  .by_cases ae:c'=c
   .subst ae;exact⟨_,ah⟩
   .obtain⟨w2,z2⟩:=I.cell y c' e
    exact⟨w2,z2.sameBut hs ae⟩
  .obtain⟨e,n,ne,nf,d⟩:=I.pin p hp
   refine⟨(hs.2 p.1 ?_).trans e,n,ne,nf,d⟩;intro q;rw[q,ai]at e;have q':oc=p.2:=zay e;exact d w'<|by rw[<- q'];exact af
def sQ(I:Inv X pins σ H s)(F:X.N.Nodup)(hi:X.N[i]?=bx x)(hx:Loc X.env.scope x)(r:RelV v u)
  (h:∀s',Inv X pins (σ.set i<|bx v) H s'->Q () s') (z:X.fn x=cf\/X.env.scope.names.lookup x=bx .local:=by first|exact .inl rfl|exact .inr rfl|assumption):wpAny M A (storeName X.env x u) Q E s:=
 wH I F hi hx r (λs' q _=>h s' q) z
def Inv.call'(I:Inv X pins σ H s)(z:s'.os=s.os)(u:Un (frs X.stack) ch H H' s.heap s'.heap)(hok:HOk X.prog X.w H' s'.heap)(F:zbN s'.gens)
  (q:∀b∈ch,(b∈X.ex\/X.s₀.heap.objs.size<=b)/\b≠X.env.locals/\(∀x c,X.env.cells.lookup x=bx c->c≠b)/\∀p∈X.pn++pins,p.1≠b):Inv X pins σ H' s':=by
 obtain⟨h',g',d',t',o'⟩:=s';have e:o'=s.os:=z;subst e;exact I.call (g':=g') (t':=t') (d':=d') u hok F q
end
abbrev XK:=Value->Option Addr->Hp->Prop
abbrev St:=List<|Option V
abbrev VK:=V->Hp->Prop
abbrev TE:=St->Hp->VK->Prop
abbrev TT:=St->Hp->(Bool->Hp->Prop)->Prop
abbrev TA:=St->Hp->(List V->Hp->Prop)->Prop
structure Ends where
 nx:St->Hp->Prop
 rt:VK
 bk:St->Hp->Prop:=λ_ _=>False
 ct:St->Hp->Prop:=λ_ _=>False
abbrev TS:=Ends->St->Hp->Prop
inductive EP(X:Cx)(pins:List<|Addr×Obj)(σ:St)(Q:VK)(u:Value)(s':zab):Prop
 | mk (v:V) (H':Hp) (i:Inv X pins σ H' s') (r:RelV v u) (q:Q v H'):EP X pins σ Q u s'
inductive TP(X:Cx)(pins:List<|Addr×Obj)(σ:St)(Q:Bool->Hp->Prop)(b:Bool)(s':zab):Prop
 | mk (H':Hp) (i:Inv X pins σ H' s') (q:Q b H'):TP X pins σ Q b s'
inductive AP(X:Cx)(pins:List<|Addr×Obj)(σ:St)(Q:List V->Hp->Prop)(us:List Value)(s':zab):Prop
 | mk (vs:List V) (H':Hp) (i:Inv X pins σ H' s') (r:Vals vs us) (q:Q vs H'):AP X pins σ Q us s'
def SP(X:Cx)(pins:List<|Addr×Obj)(D:Ends)(f:Flow)(s':zab):Prop:=
 match f with
 |.next=>∃σ' H',Inv X pins σ' H' s'/\D.nx σ' H'
 |.brk=>∃σ' H',Inv X pins σ' H' s'/\D.bk σ' H'
 |.cont=>∃σ' H',Inv X pins σ' H' s'/\D.ct σ' H'
 |.ret u=>∃v σ' H',Inv X pins σ' H' s'/\RelV v u/\D.rt v H'
def PE(X:Cx)(e:Expr)(t:TE):Prop:=
 ∀(pins:List<|Addr×Obj) (s:zab) (σ:St) (H:Hp) (Q:VK),Inv X pins σ H s->t σ H Q->wpAny (model X.prog X.w) X.A (eval e X.env) (EP X pins σ Q) X.xe s
def PT(X:Cx)(e:Expr)(t:TT):Prop:=
 ∀(pins:List<|Addr×Obj) (s:zab) (σ:St) (H:Hp) (Q:Bool->Hp->Prop),Inv X pins σ H s->t σ H Q->wpAny (model X.prog X.w) X.A (isTrue e X.env<|eval e X.env) (TP X pins σ Q) X.xe s
def PW(X:Cx)(e:Expr)(t:TT):Prop:=
 ∀(whole:Sem Value) (pins:List<|Addr×Obj) (s:zab) (σ:St) (H:Hp) (Q:Bool->Hp->Prop),Inv X pins σ H s->t σ H Q->wpAny (model X.prog X.w) X.A (isTrue e X.env whole) (TP X pins σ Q) X.xe s
def PW.pt{X:Cx}{e:Expr}{t:TT}(h:PW X e t):PT X e t:=h _
def PA(X:Cx)(es:List Expr)(t:TA):Prop:=
 ∀(pos:Pos) (pins:List<|Addr×Obj) (s:zab) (σ:St) (H:Hp) (Q:List V->Hp->Prop),Inv X pins σ H s->t σ H Q->wpAny (model X.prog X.w) X.A (spliced<|zaG pos<|zaf es X.env) (AP X pins σ Q) X.xe s
def PS(X:Cx)(st:Stmt)(t:TS):Prop:=
 ∀(pins:List<|Addr×Obj) (s:zab) (σ:St) (H:Hp) (D:Ends),Inv X pins σ H s->t D σ H->wpAny (model X.prog X.w) X.A (exec st X.env) (SP X pins D) X.xe s
def PSs(X:Cx)(st:List Stmt)(t:TS):Prop:=
 ∀(pins:List<|Addr×Obj) (s:zab) (σ:St) (H:Hp) (D:Ends),Inv X pins σ H s->t D σ H->wpAny (model X.prog X.w) X.A (execs st X.env) (SP X pins D) X.xe s
def cP{z:Type}{t:Sem z}{Q q:z->zab->Prop}{M:Model}{A:zal}{E:Value->zab->Prop}{s:zab}(h:wpAny M A t Q E s)(F:∀a s,Q a s->q a s):wpAny M A t q E s:=zaJ h F λ_ _ x=>x
section
variable {X:Cx}
def cN(i:Nat):TE:=λσ H Q=>∃v,σ[i]?=bx (bx v)/\Q v H
def tC(v:V):TE:=λ_ H Q=>Q v H
def D9(W:X.N[i]?=bx x)(hv:QO X.env.scope x)(hd:(x == ("__debug__" : Str))=ci:=by decide)(F:(x == ("__classdict__" : Str))=ci:=by decide):PE X (.Name x pos)<|cN i:=by
 intro pins s σ H Q I h;obtain⟨v,e,h⟩:=h;obtain⟨m,U,J⟩:=I.loc;obtain⟨u,r,l⟩:=J i x v W e hv;have fin:EP X pins σ Q u s:=⟨v,H,I,r,h⟩;rcases l with⟨z,Y⟩|⟨z,c,G,q⟩
 .exact wpAny_Name (wpAny_loadName_local I.ok.kind z U Y fin) hd
 .rcases z with z|z
  .exact wpAny_Name (wpAny_loadName_cell I.ok.kind z G q fin) hd
  .exact wpAny_Name (wpAny_loadName_free I.ok.kind z G q fin F) hd
def W4{i j pos}:PE X (.Constant (.int i) j pos)<|tC<|.int i:=λ_ _ _ H _ I h=>wpAny_Constant_int ⟨.int i,H,I.tok _,⟨_,rfl⟩,h⟩
def qag{b j pos}:PE X (.Constant (.bool b) j pos)<|tC<|.bl b:=λ_ _ _ H _ I h=>Constant_bool ⟨.bl b,H,I,rfl,h⟩
def XC{j pos}:PE X (.Constant .none j pos)<|tC .non:=λ_ _ _ H _ I h=>Constant_none ⟨.non,H,I,rfl,h⟩
def XH{x j pos}:PE X (.Constant (.str x) j pos)<|tC<|.str x:=λ_ _ _ H _ I h=>Calls.Constant_str ⟨.str x,H,I.tok _,⟨_,rfl⟩,h⟩
def Gl(X:Cx)(x:Str):Prop:=X.env.kindOf x=bx .globalImplicit
def iU(I:Inv X pins σ H s)(z:Gl X x)(q:X.mg x=bx u)(h:Q u s)
  (hd:(x == ("__debug__" : Str))=ci:=by decide):wpAny (model X.prog X.w) X.A (eval (.Name x pos) X.env) Q E s:=
 Calls.Name_function_global I.ok.kind z (Calls.loadGlobal_global (by rw[I.ok.glob];exact I.mod.glob.keeps I.bk) q h) hd
def lS{E:Value->zab->Prop}{pins:List (Addr×Obj)}{s:zab}{σ:St}{H:Hp}{x:Str}{u:Value}{pos:Pos}{Q:Value->zab->Prop}(I:Inv X pins σ H s)(z:Gl X x)(F:X.mg x=cb)(G:zaL x=bx u)(h:Q u s)
  (q:x ≠ "__name__" := by decide) (hd:(x == ("__debug__" : Str))=ci:=by decide):wpAny (model X.prog X.w) X.A (eval (.Name x pos) X.env) Q E s:=by
 obtain⟨J,h1,h2⟩:=I.mod.blt;exact Calls.Name_function_global I.ok.kind z (Calls.loadGlobal_builtin (by rw[I.ok.glob];exact I.mod.glob.keeps I.bk) F (by rw[I.ok.blt];exact h1.keeps I.bk) ((h2 x q).trans G) h) hd
def FZ(z:Gl X x)(q:X.mg x=bx u)(r:RelV v u)(hd:(x == ("__debug__" : Str))=ci:=by decide):PE X (.Name x pos)<|tC v:=
 λ_ _ _ H _ I h=>iU I z q ⟨v,H,I,r,h⟩ hd
def G7(G:Gl X x)(q:X.mg x=cb)(F:zaL x=bx u)(r:RelV v u)(z:x ≠ "__name__" := by decide)(hd:(x == ("__debug__" : Str))=ci:=by decide):PE X (.Name x pos)<|tC v:=
 λ_ _ _ H _ I h=>lS I G q F ⟨v,H,I,r,h⟩ z hd
variable {a b:Expr}{ta tb:TE}{pos:Pos}
def PC(X:Cx)(op:CmpOp)(a b:Expr)(t:TE):Prop:=
 ∀(pins:List<|Addr×Obj) (s:zab) (σ:St) (H:Hp) (Q:VK),Inv X pins σ H s->t σ H Q->
  wpAny (model X.prog X.w) X.A (eval a X.env) (λv z=>wpAny (model X.prog X.w) X.A (eval b X.env) (λu q=>wpAny (model X.prog X.w) X.A (zaC op v u) (EP X pins σ Q) X.xe q) X.xe z) X.xe s
def tB(t:TE):TT:=λσ H Q=>t σ H λx H1=>∃c,x=.bl c/\Q c H1
def YZ{op:CmpOp}{t:TE}(h:PC X op a b t)(h1:zbV op b=ci:=by first|exact nobehind _ (by decide) (by decide)|rfl):PT X (.Compare a [op] [b] pos)<|tB t:=by
 intro pins s σ H Q I hw;refine wpAny_isTrue_Compare1 (cP (h pins s σ H _ I hw) λv G h1=>cP h1 λu J h2=>cP h2 λc N ⟨x,H1,z,r1,F⟩=>?_) h1;obtain⟨d,rfl,q⟩:=F;cases r1;exact zcF ⟨H1,z,q⟩
def WE{e:Expr}{t:TE}(h:PE X e t)(G:∀z,isTrue e X.env z=(do let v <- z;standAt e.pos;zcm [v]<|truthy v):=by intro _;rfl):PT X e<|tB t:=by
 intro pins s σ H Q I hw;refine isTrue_plain (cP (h pins s σ H _ I hw) λv N ⟨x,H1,F,r1,J⟩=>?_)<|G _;obtain⟨d,rfl,q⟩:=J;cases r1;exact zcF ⟨H1,F,q⟩
variable {tA tB':TT}{rest:List Expr}
def qb9(t u:TT):TT:=λσ H Q=>t σ H λc H1=>if c=cf then u σ H1 Q else Q ci H1
def tOr(t u:TT):TT:=λσ H Q=>t σ H λc H1=>if c=cf then Q cf H1 else u σ H1 Q
def qb1(t:TT):TT:=λσ H Q=>t σ H λc H1=>Q (!c) H1
def TL(q:PT X a tA):PW X (.BoolOp .And [a] pos) tA:=by
 intro z pins s σ H Q I h;refine isTrue_and<|cP (q pins s σ H Q I h) λc F e=>?_;cases c with
 |true=>exact isTrue_and_nil e
 |false=>exact e
def ZQ(q:PT X a tA):PW X (.BoolOp .Or [a] pos) tA:=by
 intro z pins s σ H Q I h;refine isTrue_or<|cP (q pins s σ H Q I h) λc F e=>?_;cases c with
 |false=>exact isTrue_or_nil e
 |true=>exact e
def XM(F:PT X a tA)(G:PW X (.BoolOp .And (b::rest) pos) tB'):PW X (.BoolOp .And (a::b::rest) pos)<|qb9 tA tB':=by
 intro N pins s σ H Q I h;refine isTrue_and<|cP (F pins s σ H _ I h) λc J ⟨H1,q,z⟩=>?_;cases c with
 |true=>exact G N pins J σ H1 Q q z
 |false=>exact⟨H1,q,z⟩
def qaQ(F:PT X a tA)(G:PW X (.BoolOp .Or (b::rest) pos) tB'):PW X (.BoolOp .Or (a::b::rest) pos)<|tOr tA tB':=by
 intro N pins s σ H Q I h;refine isTrue_or<|cP (F pins s σ H _ I h) λc J ⟨H1,q,z⟩=>?_;cases c with
 |true=>exact⟨H1,q,z⟩
 |false=>exact G N pins J σ H1 Q q z
def X7(z:PT X a tA):PT X (.UnaryOp .Not a pos)<|qb1 tA:=by
 intro pins s σ H Q I h;exact isTrue_not<|cP (z pins s σ H (λc H1=>Q (!c) H1) I h) λ_ _ ⟨H',i,q⟩=>⟨H',i,q⟩
def qaT(ta tb:TE):TE:=λσ H Q=>ta σ H λx H1=>∃c,x=.bl c/\if c=cf then tb σ H1 Q else Q (.bl ci) H1
def qaf(ta:TE):TE:=λσ H Q=>ta σ H λx H1=>∃c,x=.bl c/\Q (.bl<|!c) H1
def WW{op}(h:PE X a t):PE X (.BoolOp op [a] pos) t:=λpins s σ H Q I hw=>BoolOp_one<|h pins s σ H Q I hw
def WG(F:PE X a ta)(G:PE X (.BoolOp .And (b::rest) pos) tb):PE X (.BoolOp .And (a::b::rest) pos)<|qaT ta tb:=by
 intro pins s σ H Q I h;refine BoolOp_and<|cP (F pins s σ H _ I h) λv J ⟨x,H1,z,r1,q⟩=>?_;obtain⟨c,rfl,q⟩:=q;cases r1;refine zcF ?_;cases c with
 |true=>exact G pins J σ H1 Q z q
 |false=>exact⟨.bl ci,H1,z,rfl,q⟩
def W5(F:PE X a ta):PE X (.UnaryOp .Not a pos)<|qaf ta:=by
 intro pins s σ H Q I h;refine UnaryOp_<|cP (F pins s σ H _ I h) λv G ⟨x,H1,z,r1,q⟩=>?_;obtain⟨c,rfl,q⟩:=q;cases r1;exact not_of<|zcF ⟨.bl<|!c,H1,z,rfl,q⟩
def tIf(t:TT)(ta tb:TE):TE:=λσ H Q=>t σ H λc H1=>if c=cf then ta σ H1 Q else tb σ H1 Q
def LF{c:Expr}(N:PT X c tA)(G:PE X a ta)(J:PE X b tb):PE X (.IfExp c a b pos)<|tIf tA ta tb:=by
 intro pins s σ H Q I h;refine wpAny_IfExp<|cP (N pins s σ H _ I h) λd z ⟨H1,q,F⟩=>?_;cases d with
 |true=>exact G pins z σ H1 Q q F
 |false=>exact J pins z σ H1 Q q F
end
def SqL(K:zae)(H:Hp)(a:Addr)(xs:List V):Prop:=
 Rd H a (.lst xs) \/
  ∃(o:Obj) (its:Array Value) (n:Nat),K.lookup a=bx o/\o.cls=.type "list" /\ o.dict=cb/\o.data=.seq its n/\its.size<=zai/\Vals xs its.toList
def SqT(K:zae)(H:Hp)(a:Addr)(xs:List V):Prop:=
 Rd H a (.tup xs) \/
  ∃(o:Obj) (its:Array Value) (n:Nat),K.lookup a=bx o/\o.cls=.type "tuple" /\ o.data=.seq its n/\its.size<=zai/\Vals xs its.toList
def qcf:Value->Option V
 |.none=>bx .non
 |.bool b=>bx<|.bl b
 |.int i _=>bx<|.int i
 |.str x _=>bx<|.str x
 |.bytes b _=>bx<|.byt b
 |.float b _=>bx<|.flt b
 |.ref a=>bx<|.ref a
 |.type n=>bx<|.ty n
 |_=>cb
def RelV.abs(r:RelV x u):qcf u=bx x:=by
 cases x with
 |non=>cases r;rfl
 |bl _=>cases r;rfl
 |int _=>obtain⟨t,rfl⟩:=r;rfl
 |str _=>obtain⟨t,rfl⟩:=r;rfl
 |byt _=>obtain⟨t,rfl⟩:=r;rfl
 |flt _=>obtain⟨t,rfl⟩:=r;rfl
 |ref _=>cases r;rfl
 |ty _=>cases r;rfl
def RelV.inj(r:RelV x u)(q:RelV y u):x=y:=zay<|r.abs.symm.trans q.abs
theorem Vals.inj:∀ {xs ys:List V} {us:List Value},Vals xs us->Vals ys us->xs=ys
 |_,_,_,.nil,.nil=>rfl
 |_,_,_,.cons r t,.cons r' t'=>by rw[r.inj r',Vals.inj t t']
section
variable {X:Cx}{pins:List (Addr×Obj)}{σ:St}{H:Hp}{s:zab}{a:Addr}{xs ys:List V}
def SqL.of{K:zae}(h:H a=bx (.lst xs)):SqL K H a xs:=.inl<|.inl h
def Inv.list(I:Inv X pins σ H s)(h:SqL X.K H a xs):∃q:List Value,Vals xs q/\PlainL s.heap a q.toArray/\xs.length<=zai:=by
 rcases h with h|⟨o,q,n,F,G,hd,hs,J,r⟩
 .obtain⟨z,q,n,r,e⟩:=h.ok I.hok
  exact⟨q,r,⟨_,n,e,rfl,rfl,rfl⟩,z⟩
 .refine⟨q.toList,r,⟨o,n,I.kIn a o F,G,hd,by simpa using hs⟩,?_⟩
  have e:=r.length;simp only[zbW]at e
  lia
def Inv.tuple(I:Inv X pins σ H s)(h:SqT X.K H a xs):∃q:List Value,Vals xs q/\IsTup s.heap a q.toArray/\xs.length<=zai:=by
 rcases h with h|⟨o,q,n,F,G,hs,J,r⟩
 .obtain⟨z,q,r,p⟩:=h.ok I.hok
  exact⟨q,r,p.tup,z⟩
 .refine⟨q.toList,r,⟨o,I.kIn a o F,G,n,by simpa using hs⟩,?_⟩
  have e:=r.length;simp only[zbW]at e
  lia
def Inv.list_inj(I:Inv X pins σ H s)(h:SqL X.K H a xs)(h':SqL X.K H a ys):xs=ys:=by
 obtain⟨q,r,⟨o,n,e,_,_,d⟩,_⟩:=I.list h;obtain⟨its',F,⟨o',G,z,_,_,d'⟩,_⟩:=I.list h';rw[e]at z;cases z;rw[d]at d';injection d' with d1 _
 have:q=its':=by simpa using congrArg Array.toList d1
 subst this;exact r.inj F
def Inv.tuple_inj(I:Inv X pins σ H s)(h:SqT X.K H a xs)(h':SqT X.K H a ys):xs=ys:=by
 obtain⟨q,r,⟨o,e,_,n,d⟩,_⟩:=I.tuple h;obtain⟨its',F,⟨o',z,_,G,d'⟩,_⟩:=I.tuple h';rw[e]at z;cases z;rw[d]at d';injection d' with d1 _
 have:q=its':=by simpa using congrArg Array.toList d1
 subst this;exact r.inj F
end
abbrev Cx.wish(X:Cx)(E:Value->zab->Prop):Cx:={X with xe:=E}
abbrev Cx.nox(X:Cx):Cx:=X.wish λ_ _=>False
theorem Cx.Ok.wish{X:Cx}(ok:X.Ok)(E:Value->zab->Prop):(X.wish E).Ok:=
 ⟨ok.mod,ok.kind,ok.glob,ok.blt,ok.above,ok.inj,ok.has,ok.cab,ok.hd,ok.frames,ok.stk,ok.exf,ok.bs,ok.bsz,ok.noex,ok.exfs,ok.funs,ok.frf⟩
def Cx.Ok.unwish{X:Cx}{E:Value->zab->Prop}(ok:(X.wish E).Ok):X.Ok:=
 ⟨ok.mod,ok.kind,ok.glob,ok.blt,ok.above,ok.inj,ok.has,ok.cab,ok.hd,ok.frames,ok.stk,ok.exf,ok.bs,ok.bsz,ok.noex,ok.exfs,ok.funs,ok.frf⟩
section
variable {X:Cx}{pins:List (Addr×Obj)}{σ:St}{H:Hp}{s:zab}{E:Value->zab->Prop}
theorem Inv.wish(I:Inv X pins σ H s)(E:Value->zab->Prop):Inv (X.wish E) pins σ H s:=⟨I.ok.wish E,I.os,I.bare,I.base,I.loc,I.cell,I.free,I.freeC,I.pin,I.hok,I.len⟩
theorem Inv.unwish(I:Inv (X.wish E) pins σ H s):Inv X pins σ H s:=⟨I.ok.unwish,I.os,I.bare,I.base,I.loc,I.cell,I.free,I.freeC,I.pin,I.hok,I.len⟩
theorem SP.unwish(h:SP (X.wish E) pins D f s'):SP X pins D f s':=by
 cases f with
 |next=>obtain⟨z,H',I,q⟩:=h;exact⟨z,H',I.unwish,q⟩
 |brk=>obtain⟨z,H',I,q⟩:=h;exact⟨z,H',I.unwish,q⟩
 |cont=>obtain⟨z,H',I,q⟩:=h;exact⟨z,H',I.unwish,q⟩
 |ret u=>obtain⟨v,z,H',I,r,q⟩:=h;exact⟨v,z,H',I.unwish,r,q⟩
theorem PT.nox(h:PT X.nox e t):PT X e t:=λpins s σ H Q I hw=>
 zaJ (h pins s σ H Q (I.wish _) hw) (λ_ _ ⟨H',F,q⟩=>⟨H',F.unwish,q⟩) λ_ _ z=>zaP z
theorem PSs.nox{st:List Stmt}{t:TS}(h:PSs X.nox st t):PSs X st t:=λpins s σ H D I hw=>
 zaJ (h pins s σ H D (I.wish _) hw) (λ_ _ q=>q.unwish) λ_ _ z=>zaP z
end
section
variable {X:Cx}{st:Stmt}{rest:List Stmt}{t u:TS}{e:Expr}{te:TE}{pos:Pos}
def qam:TS:=λD σ H=>D.nx σ H
def qbe(t u:TS):TS:=λD σ H=>t {D with nx:=u D} σ H
def yB:PSs X [] qam:=λ_ _ σ H _ I h=>zcH ⟨σ,H,I,h⟩
def cL(h1:PS X st t)(h2:PSs X rest u):PSs X (st::rest)<|qbe t u:=by
 intro pins s σ H D I h;refine zcI<|cP (h1 pins s σ H {D with nx:=u D} I h) λf F q=>?_;cases f with
 |next=>
  obtain⟨z,H',G,q⟩:=q;exact h2 pins F z H' D G q
 |ret v=>exact q
 |brk=>exact q
 |cont=>exact q
def gG(h1:PS X st t):PSs X [st] t:=by
 intro pins s σ H D I h;refine zcI<|cP (h1 pins s σ H D I h) λf z q=>?_;cases f with
 |next=>exact zcH q
 |ret v=>exact q
 |brk=>exact q
 |cont=>exact q
def Inv.quiet(I:Inv X pins σ H s):interactive X.env=ci:=by simp[interactive,I.ok.kind]
def qaF(te:TE):TS:=λD σ H=>te σ H λ_ H1=>D.nx σ H1
def xM(z:PE X e te)(hs:zaz e cb pos.line X.env=pure ci:=by rfl):PS X (.Expr e pos)<|qaF te:=by
 intro pins s σ H D I h;exact wpAny_Expr_any (cP (z pins s σ H _ I h) λv G ⟨x,H1,q,r1,F⟩=>⟨σ,H1,q,F⟩) I.quiet hs
def qbc(te:TE):TS:=λD σ H=>te σ H D.rt
def EM(z:PE X e te):PS X (.Return (bx e) pos)<|qbc te:=by
 intro pins s σ H D I h;exact wpAny_Return_some<|cP (z pins s σ H _ I h) λv G ⟨x,H1,q,r1,F⟩=>⟨x,σ,H1,q,r1,F⟩
def qce(c:TT)(t u:TS):TS:=λD σ H=>c σ H λb H1=>if b=cf then t D σ H1 else u D σ H1
def U8{c:Expr}{a b:List Stmt}{tc:TT}(N:PT X c tc)(G:PSs X a t)(J:PSs X b u):PS X (.If c a b pos)<|qce tc t u:=by
 intro pins s σ H D I h;refine wpAny_If<|cP (N pins s σ H _ I h) λd z ⟨H1,q,F⟩=>?_;cases d with
 |true=>exact G pins z σ H1 D q F
 |false=>exact J pins z σ H1 D q F
end
abbrev TG:=V->St->Hp->(St->Hp->Prop)->Prop
abbrev WC:=List V->St->Hp->(St->Hp->Prop)->Prop
def PG(X:Cx)(q:Expr)(t:TG):Prop:=
 ∀(pins:List<|Addr×Obj) (s:zab) (σ:St) (H:Hp) (v:V) (u:Value) (Q:St->Hp->Prop),Inv X pins σ H s->RelV v u->t v σ H Q->
  wpAny (model X.prog X.w) X.A (zbf q X.env u) (λ_ s'=>∃z H',Inv X pins z H' s'/\Q z H') X.xe s
def PGs(X:Cx)(z:List Expr)(t:WC):Prop:=
 ∀(pins:List<|Addr×Obj) (s:zab) (σ:St) (H:Hp) (vs:List V) (us:List Value) (Q:St->Hp->Prop),Inv X pins σ H s->Vals vs us->t vs σ H Q->
  wpAny (model X.prog X.w) X.A (assignInOrder ((za8 z X.env).map (·.2)) us) (λ_ s'=>∃q H',Inv X pins q H' s'/\Q q H') X.xe s
abbrev QD:=V->V->V->Hp->(Hp->Prop)->Prop
def U0(X:Cx)(t:QD):Prop:=
 ∀(pins:List<|Addr×Obj) (s:zab) (σ:St) (H:Hp) (o i v:V) (ov iv u:Value) (Q:Hp->Prop),Inv X pins σ H s->RelV o ov->RelV i iv->RelV v u->t o i v H Q->
  wpAny (model X.prog X.w) X.A (setItem ov iv u) (λ_ s'=>∃H',Inv X pins σ H' s'/\Q H') X.xe s
section
variable {X:Cx}{pos:Pos}
def gL(i:Nat):TG:=λv σ H Q=>Q (σ.set i<|bx v) H
def gF(F:X.N.Nodup)(hi:X.N[i]?=bx x)(hx:Loc X.env.scope x)(z:X.fn x=cf\/X.env.scope.names.lookup x=bx .local:=by first|exact .inl rfl|exact .inr rfl|assumption):PG X (.Name x pos)<|gL i:=by
 intro pins s σ H v u Q I r h;exact wpAny_assign_Name<|sQ I F hi hx r (λs' q=>⟨_,H,q,h⟩) z
def qcr:WC:=λvs σ H Q=>vs=[]/\Q σ H
def VR(t:TG)(u:WC):WC:=λvs σ H Q=>∃v r,vs=v::r/\t v σ H λq H'=>u r q H' Q
def UM:PGs X [] qcr:=by
 intro pins s σ H vs q Q I r h;obtain⟨e,h⟩:=h;subst e;cases r;exact assignInOrder_nil ⟨σ,H,I,h⟩
def jR{e:Expr}{es:List Expr}{t:TG}{u:WC}(h1:PG X e t)(h2:PGs X es u)
  (hs:(za8 (e::es) X.env).map (·.2)=zbf e X.env::(za8 es X.env).map (·.2):=by rfl):PGs X (e::es)<|VR t u:=by
 intro pins s σ H vs U Q I r h;obtain⟨v,N,z,h⟩:=h;subst z;cases r with
 |cons r rr=>
  rw[hs];refine assignInOrder_cons<|cP (h1 pins s σ H _ _ _ I r h) λ_ G ⟨q,H1,F,J⟩=>?_;exact h2 pins G q H1 _ _ Q F rr J
def qbk(K:zae)(n:Nat)(t:WC):TG:=λv σ H Q=>∃a xs,v=.ref a/\SqT K H a xs/\xs.length=n/\t xs σ H Q
def D5(W:X.calm=cf)(h:PGs X es t)
  (U:(za8 es X.env).length=n:=by rfl) (q:(za8 es X.env).findIdx? (·.1)=cb:=by rfl):PG X (.Tuple es k pos)<|qbk X.K n t:=by
 intro pins s σ H v u Q I r hw;obtain⟨a,xs,G,F,N,hw⟩:=hw;subst G;cases r;obtain⟨Y,z,ht,hz⟩:=I.tuple F;refine assign_Tuple_tuple (I.ok.hd W) ht (by simp[U,<- N,z.length]) q λh' hx=>?_
 have J:Inv X pins σ H {s with heap:=h'}:=I.kept (t':=s.toks) λb o e=>hx b o (zaE<|zao e) e
 exact h pins _ σ H xs _ Q J (by simpa using z) hw
def Z0(to q:TE)(t:QD):TG:=λv σ H Q=>to σ H λo H1=>q σ H1 λi H2=>t o i v H2 λz=>Q σ z
def O9{o i:Expr}{to F:TE}{t:QD}(J:PE X o to)(hi:PE X i F)(hs:U0 X t)
  (G:∀v, zbf (.Subscript o i pos) X.env v = (do
   let q <- zcm [v]<|eval o X.env;let z <- zcm [v,q]<|eval i X.env
   standAt pos
   zcm [v,q,z] (setItem q z v)
   release [v,q,z] []):=by intro _;rfl):PG X (.Subscript o i pos)<|Z0 to F t:=by
 intro pins s σ H v u Q I r h;rw[G];refine zaa<|zbM<|cP (J pins s σ H _ I h) λq s1 ⟨x,H1,W,r1,q1⟩=>?_;refine zaa<|zbM<|cP (hi pins s1 σ H1 _ W q1) λz s2 ⟨y,H2,Y,r2,q2⟩=>?_;refine zaa<|zdr<|zaa<|zbM<|cP (hs pins s2 σ H2 x y v q z u _ Y r1 r2 r q2) λ_ s3 ⟨N,U,q3⟩=>?_;exact wpAny_release ⟨σ,N,U,q3⟩
def EQ(te:TE)(g:TG):TS:=λD σ H=>te σ H λx H1=>g x σ H1 D.nx
def OH{tg e:Expr}{te:TE}{g:TG}(G:PE X e te)(J:PG X tg g)(hs:zds [tg] e pos.line X.env=pure ci:=by rfl)(hw:zdt [tg] e X.env=pure cb:=by rfl)
  (h1:(za8 [tg] X.env).map (·.2)=[zbf tg X.env]:=by rfl):PS X (.Assign [tg] e pos)<|EQ te g:=by
 intro pins s σ H D I h;refine wpAny_Assign_stores (cP (G pins s σ H _ I h) λv F ⟨x,H1,z,r1,N⟩=>?_) hs hw;rw[h1];exact cP (J pins F σ H1 x v _ z r1 N) λ_ U q=>q
def yQ{i:Nat}{x:Str}{e:Expr}{te:TE}{pos':Pos}(J:X.N.Nodup)(hi:X.N[i]?=bx x)(hx:Loc X.env.scope x)(G:PE X e te)(hs:zaz e (bx<|.Name x pos') pos.line X.env=pure ci:=by rfl)(F:X.fn x=cf\/X.env.scope.names.lookup x=bx .local:=by first|exact .inl rfl|exact .inr rfl|assumption) :
  PS X (.Assign [.Name x pos'] e pos) (EQ te<|gL i):=by
 intro pins s σ H D I h;refine wpAny_Assign_Name (cP (G pins s σ H _ I h) λv W ⟨y,H1,q,r1,U⟩=>?_) hs;exact sQ q J hi hx r1 (λY z=>⟨_,H1,z,U⟩) F
end
section
variable {X:Cx}{pos:Pos}
def W7(c:TT)(tb:TS):TS:=λD σ H=>∃W:Nat->St->Hp->Prop,(∃m,W m σ H)/\∀m σ H,W m σ H->
 c σ H λb H1=>if b=cf then ∃N:St->Hp->Prop,(∀q H',N q H'->∃z,z<m/\W z q H')/\tb {D with nx:=N,ct:=N,bk:=D.nx} σ H1 else D.nx σ H1
def LS{c:Expr}{F:List Stmt}{tc:TT}{tb:TS}(hp:zca (model X.prog X.w) X.A X.env X.xe)(hc:PT X c tc)(hb:PSs X F tb):PS X (.While c F [] pos)<|W7 tc tb:=by
 intro pins s σ H D I h;obtain⟨W,⟨m0,w0⟩,turn⟩:=h;refine wpAny_While<|codeAny_whileLoop (λn s'=>∃G H',Inv X pins G H' s'/\W n G H') ?_ m0 ⟨σ,H,I,w0⟩;rintro n s1 ⟨z,H1,I1,w1⟩;refine zcn hp<|cP (hc pins s1 z H1 _ I1<|turn n z H1 w1) λb s2 ⟨H2,I2,U⟩=>?_;cases b with
 |true=>
  obtain⟨N,hN,U⟩:=U;rw[ck rfl];refine zcn hp<|cP (hb pins s2 z H2 _ I2 U) λf s3 Y=>?_;cases f with
  |next=>
   obtain⟨q,J,I3,n3⟩:=Y;obtain⟨m',hm,w3⟩:=hN q J n3;exact⟨m',hm,q,J,I3,w3⟩
  |cont=>
   obtain⟨q,J,I3,n3⟩:=Y;obtain⟨m',hm,w3⟩:=hN q J n3;exact⟨m',hm,q,J,I3,w3⟩
  |brk=>exact Y
  |ret v=>exact Y
 |false=>
  rw[cq zaB];exact zcH ⟨z,H2,I2,U⟩
end
structure It where
 go:Nat->Hp->Prop
 yld:Nat->Hp->V->Hp->Prop
 stop:Nat->Hp->Prop
def kC(X:Cx)(pins:List<|Addr×Obj)(H:Hp)(b:Addr):Prop:=
 H b=cb/\b≠X.env.locals/\b∉X.fs/\(b∈X.ex\/X.s₀.heap.objs.size<=b)/\(∀x c,X.env.cells.lookup x=bx c->c≠b)/\∀p∈X.pn++pins,p.1≠b
def Inv.fpOk(I:Inv X pins σ H s)(F:s.heap.objs.size<=b)(G:H' b=cb):kC X pins H' b:=by
 refine⟨G,zbr<|zaY I.lt F,I.nofs F,.inr<|zaO I.sz F,λx c e z=>?_,λp J z=>?_⟩
 .obtain⟨v,q⟩:=I.cell x c e
  exact absurd (zaY q.lt<|by rw[z];exact F)<|zb9 _
 .exact absurd (zaY (zao (I.pin p J).1)<|by rw[z];exact F)<|zb9 _
structure Turn(P:zah)(w:World)(K:zae)(tg:Expr)(J:It)(fp:List Addr)(it:Addr)(tn:Nat->Heap->Prop):Prop where
 mem:it∈fp
 obj:∀i h,tn i h->∀b∈fp,∃o,h.get? b=bx o/\∀v,o.data≠.cell v
 keep:∀i h h',tn i h->(∀b∈fp,∀o,h.get? b=bx o->h'.get? b=bx o)->tn i h'
 item:∀(X:Cx),X.prog=P->X.w=w->X.K=K->X.calm=cf->∀(i:Nat) (pins:List<|Addr×Obj) (s:zab) (σ:St) (H:Hp) (E:Value->zab->Prop),Inv X pins σ H s->(∀b∈fp,kC X pins H b)->tn i s.heap->J.go i H->
  wpAny (model P w) X.A (za9<|.ref it) (λr s1=>∃u,r=bx u /\
   wpAny (model P w) X.A (zdu tg (.ref it) u) (λ_ s2=>∃x H',Inv X pins σ H' s2/\RelV x u/\J.yld i H x H'/\tn (i+1) s2.heap/\∀b∈fp,H' b=cb) E s1) E s
 done:∀(X:Cx),X.prog=P->X.w=w->X.K=K->X.calm=cf->∀(i:Nat) (pins:List<|Addr×Obj) (s:zab) (σ:St) (H:Hp) (E:Value->zab->Prop),Inv X pins σ H s->(∀b∈fp,kC X pins H b)->tn i s.heap->J.stop i H->
  wpAny (model P w) X.A (za9<|.ref it) (λr s1=>r=cb/\Inv X pins σ H s1) E s
 self:∀(A:zal) (i:Nat) (s:zab) (Q:Value->zab->Prop) (E:Value->zab->Prop),tn i s.heap->Q (.ref it) s->wpAny (model P w) A (pyIter<|.ref it) Q E s
abbrev TI:=St->Hp->(It->Hp->Prop)->Prop
def PIE(X:Cx)(pins:List<|Addr×Obj)(σ:St)(tg:Expr)(R:It->Hp->Prop)(q:Value)(z:zab):Prop:=
 ∃(it:Addr) (fp:List Addr) (tn:Nat->Heap->Prop) (J:It) (H':Hp),q=.ref it/\Inv X pins σ H' z/\Turn X.prog X.w X.K tg J fp it tn/\tn 0 z.heap/\(∀b∈fp,kC X pins H' b)/\R J H'
def PI(X:Cx)(tg q:Expr)(wi:TI):Prop:=
 ∀(pins:List<|Addr×Obj) (s:zab) (σ:St) (H:Hp) (R:It->Hp->Prop),Inv X pins σ H s->wi σ H R->
  wpAny (model X.prog X.w) X.A (eval q X.env) (λv z=>wpAny (model X.prog X.w) X.A (pyIter v) (PIE X pins σ tg R) X.xe z) X.xe s
def uE(F:s.heap.get? it=bx o)(z:o.cls=.type n)(hd:o.data=.fields vs)
    (G:["enumerate", "zip", "dict_itemiterator", "dict_reverseitemiterator", "odict_iterator", "itertools.zip_longest", "itertools.pairwise"].contains n=ci) (q:Q () s):wpAny M A (zdu tg (.ref it) u) Q E s:=by
  unfold zdu;cases tg <;> first
    | exact zag q
    | (cases u <;> first
        | exact zag q
        | (refine zaa (wpAny_load F ?_)
           rw[z,hd];show wpAny M A (if(["enumerate", "zip", "dict_itemiterator", "dict_reverseitemiterator", "odict_iterator", "itertools.zip_longest", "itertools.pairwise"].contains n && vs[0]? == bx (zaT _))=cf then _ else _) Q E s;rw[cq<|by intro h;rw[G,Bool.false_and]at h;cases h];exact zag q))
def Itl(K:zae)(a:Addr):It:=
 ⟨λi H=>∃xs x,SqL K H a xs/\xs[i]?=bx x,λi H x H'=>H'=H/\∀xs,SqL K H a xs->xs[i]?=bx x,λi H=>∃xs,SqL K H a xs/\xs.length<=i⟩
def Itt(K:zae)(a:Addr):It:=
 ⟨λi H=>∃xs x,SqT K H a xs/\xs[i]?=bx x,λi H x H'=>H'=H/\∀xs,SqT K H a xs->xs[i]?=bx x,λi H=>∃xs,SqT K H a xs/\xs.length<=i⟩
def Itr(lo:Int)(n:Nat):It:=⟨λi _=>i<n,λi H x H'=>H'=H/\x=.int (lo+i),λi _=>n<=i⟩
def IS{P:zah}{w:World}{K:zae}{tg:Expr}(a it:Addr):Turn P w K tg (Itl K a) [it] it (λi h=>h.IsListIter it a i) where
 mem:=by simp
 obj:=λi h st b q=>by
  have e:b=it:=by simpa using q
  subst e;obtain⟨o,e,c,d⟩:=st;exact⟨o,e,λv z=>by rw[d]at z;cases z⟩
 keep:=λi h h' st k=>st.at λo e=>k it (by simp) o e
 item:=by
  intro X hP hw U hc i pins s σ H E I J st W;subst hP hw U;obtain⟨xs,x,G,hx⟩:=W;obtain⟨ad,rv,p,hz⟩:=I.list G;obtain⟨u,hu,ru⟩:=rv.get hx;obtain⟨Y,f1,f2,f3,f4,N⟩:=J it (by simp);refine wpAny_pyNext_list_item st p.isList (x:=u) (by simpa using hu) λh' F sb=>?_
  have I1:Inv X pins σ H {s with heap:=h'}:=I.turned (t':=s.toks) (λb o q e=>(sb.2 b q).trans e) Y f1 f3 f4 N;obtain⟨o,e,c,d⟩:=id F;exact⟨u,rfl,uE (s:={s with heap:=h'}) e c d (by decide) ⟨x,H,I1,ru,⟨rfl,λys hy=>by rw[I.list_inj hy G];exact hx⟩,F,λb q=>(J b q).1⟩⟩
 done:=by
  intro X hP hw U hc i pins s σ H E I J st W;subst hP hw U;obtain⟨xs,G,hx⟩:=W;obtain⟨ad,rv,p,hz⟩:=I.list G;obtain⟨Y,f1,f2,f3,f4,N⟩:=J it (by simp);have hl:=rv.length;exact wpAny_pyNext_list_end (I.ok.hd hc) st p.isList (by simp;lia) λh' eb=>⟨rfl,I.turned (t':=s.toks) (λb o q e=>eb b o q e) Y f1 f3 f4 N⟩
 self:=λ_ _ _ _ _ st h=>wpAny_pyIter_listiter st h
def CO{P:zah}{w:World}{K:zae}{tg:Expr}(a it:Addr):Turn P w K tg (Itt K a) [it] it (λi h=>h.IsTupleIter it a i) where
 mem:=by simp
 obj:=λi h st b q=>by
  have e:b=it:=by simpa using q
  subst e;obtain⟨o,e,c,d⟩:=st;exact⟨o,e,λv z=>by rw[d]at z;cases z⟩
 keep:=λi h h' st k=>st.at λo e=>k it (by simp) o e
 item:=by
  intro X hP hw W hc i pins s σ H E I N st Y;subst hP hw W;obtain⟨xs,x,J,hx⟩:=Y;obtain⟨F,rv,p,hz⟩:=I.tuple J;obtain⟨u,hu,ru⟩:=rv.get hx;obtain⟨f0,f1,f2,f3,f4,U⟩:=N it (by simp);refine wpAny_pyNext_tuple_item st (show s.heap.IsTuple a F.toArray from p) (x:=u) (by simpa using hu) λh' G sb=>?_
  have I1:Inv X pins σ H {s with heap:=h'}:=I.turned (t':=s.toks) (λb o q e=>(sb.2 b q).trans e) f0 f1 f3 f4 U;obtain⟨o,e,c,d⟩:=id G;exact⟨u,rfl,uE (s:={s with heap:=h'}) e c d (by decide) ⟨x,H,I1,ru,⟨rfl,λys hy=>by rw[I.tuple_inj hy J];exact hx⟩,G,λb q=>(N b q).1⟩⟩
 done:=by
  intro X hP hw W hc i pins s σ H E I N st Y;subst hP hw W;obtain⟨xs,J,hx⟩:=Y;obtain⟨F,rv,p,hz⟩:=I.tuple J;obtain⟨f0,f1,f2,f3,f4,U⟩:=N it (by simp);have hl:=rv.length;exact wpAny_pyNext_tuple_end (I.ok.hd hc) st (show s.heap.IsTuple a F.toArray from p) (by simp;lia) λh' eb=>⟨rfl,I.turned (t':=s.toks) (λb o q e=>eb b o q e) f0 f1 f3 f4 U⟩
 self:=λ_ _ _ _ _ st h=>wpAny_pyIter_tupleiter st h
def CU{P:zah}{w:World}{K:zae}{tg:Expr}(it:Addr)(lo:Int)(n:Nat):Turn P w K tg (Itr lo n) [it] it (λi h=>IsRangeIter h it (lo+(i:Nat)*1) ((n:Int)-(i:Nat)) 1) where
 mem:=by simp
 obj:=λi h st b q=>by
  have e:b=it:=by simpa using q
  subst e;exact⟨_,st,λv z=>by
   have z':Data.fields _=Data.cell v:=z;cases z'⟩
 keep:=λi h h' st k=>k it (by simp) _ st
 item:=by
  intro X N hw hK hc i pins s σ H E I G st Y;subst N hw hK;obtain⟨J,f1,f2,f3,f4,U⟩:=G it (by simp);have W:=Walks.range (prog:=X.prog) (w:=X.w) (I.ok.hd hc) it lo 1 n;refine W.item i s _ _ Y st λv h' tk hv F kk=>?_
  obtain⟨t,rfl⟩:=hv;have I1:Inv X pins σ H {s with heap:=h',toks:=tk}:=I.turned (λb o q e=>kk b o (by simpa using q) e) J f1 f3 f4 U;refine⟨_,rfl,uE (s:={s with heap:=h',toks:=tk}) (n := "range_iterator") F rfl rfl (by decide) ⟨.int<|lo+i,H,I1,⟨t,?_⟩,⟨rfl,rfl⟩,F,λb q=>(G b q).1⟩⟩;rw[Int.mul_one]
 done:=by
  intro X N hw hK hc i pins s σ H E I G st Y;subst N hw hK;obtain⟨J,f1,f2,f3,f4,U⟩:=G it (by simp);exact wpAny_pyNext_range_end (I.ok.hd hc) st (by have:n<=i:=Y;lia) λh' eb=>⟨rfl,I.turned (t':=s.toks) (λb o q e=>eb b o q e) J f1 f3 f4 U⟩
 self:=λ_ _ _ _ _ st h=>wpAny_pyIter_rangeiter st h
section
variable {X:Cx}{tg:Expr}
def qal(K:zae)(tl:TE):TI:=λσ H R=>tl σ H λx H1=>∃a,x=.ref a/\(∃xs,SqL K H1 a xs)/\R (Itl K a) H1
def qbQ(K:zae)(tl:TE):TI:=λσ H R=>tl σ H λx H1=>∃a,x=.ref a/\(∃xs,SqT K H1 a xs)/\R (Itt K a) H1
def T3{l:Expr}{tl:TE}(N:PE X l tl):PI X tg l<|qal X.K tl:=by
 intro pins s σ H R I h;refine cP (N pins s σ H _ I h) λv F ⟨x,H1,z,r1,W⟩=>?_
 obtain⟨a,e,⟨xs,G⟩,q⟩:=W;subst e;cases r1;obtain⟨U,Y,p,hz⟩:=z.list G;refine zcb p.isList ?_;refine⟨F.heap.objs.size,[F.heap.objs.size],_,_,H1,rfl,z.kept (t':=F.toks) λb o e=>zam _ e,IS a _,⟨_,zaF _ rfl,rfl,rfl⟩,λb J=>?_,q⟩;have e:b=F.heap.objs.size:=by simpa using J
 subst e;exact z.fpOk (zaj _)<|z.hok.fresh<|zaj _
def YQ{l:Expr}{tl:TE}(U:PE X l tl):PI X tg l<|qbQ X.K tl:=by
 intro pins s σ H R I h;refine cP (U pins s σ H _ I h) λv z ⟨x,H1,F,r1,W⟩=>?_
 obtain⟨a,e,⟨xs,J⟩,q⟩:=W;subst e;cases r1;obtain⟨G,Y,p,hz⟩:=F.tuple J;refine zbX (show z.heap.IsTuple a G.toArray from p) ?_;refine⟨z.heap.objs.size,[z.heap.objs.size],_,_,H1,rfl,F.kept (t':=z.toks) λb o e=>zam _ e,CO a _,⟨_,zaF _ rfl,rfl,rfl⟩,λb N=>?_,q⟩;have e:b=z.heap.objs.size:=by simpa using N
 subst e;exact F.fpOk (zaj _)<|F.hok.fresh<|zaj _
def MJ{pins:List (Addr×Obj)}{σ:St}{H:Hp}{s:zab}{R:It->Hp->Prop}{E:Value->zab->Prop}{lo hi:Int}{t u v:Tok}{tk:Nat}(I:Inv X pins σ H s)(h1:-(2^62)<=lo)(h2:lo<2^62)(N:-(2^62)<=hi)(U:hi<2^62)
  (q:R (Itr lo (hi-lo).toNat) H):wpAny (model X.prog X.w) X.A (pyIter<|.ref s.heap.objs.size) (PIE X pins σ tg R) E {s with heap:=s.heap.push {cls:=.type "range",data:=.fields #[.int lo t,.int hi u,.int 1 v]},toks:=tk}:=by
 refine wpAny_pyIter_range (IsRange.new ..) (small_one h1 h2 N U) ?_;have z:Inv X pins σ H {s with heap:=s.heap.push {cls:=.type "range",data:=.fields #[.int lo t,.int hi u,.int 1 v]},toks:=tk}:=I.kept λb o e=>zam _ e
 refine⟨(s.heap.push {cls:=.type "range",data:=.fields #[.int lo t,.int hi u,.int 1 v]}).objs.size,[(s.heap.push {cls:=.type "range",data:=.fields #[.int lo t,.int hi u,.int 1 v]}).objs.size],_,_,H,rfl,
  z.kept (t':=tk) λb o e=>zam _ e,CU _ lo (hi-lo).toNat,?_,λb G=>?_,q⟩
 .have F:lo+((0:Nat):Int)*1=lo:=by simp
  have J:(((hi-lo).toNat:Nat):Int)-((0:Nat):Int)=Builtin.Range.rangeSize lo hi 1:=by rw[rangeSize_one];split <;> lia
  show IsRangeIter _ _ (lo+((0:Nat):Int)*1) ((((hi-lo).toNat:Nat):Int)-((0:Nat):Int)) 1;rw[F,J];exact zaF _ rfl
 .have e:b=(s.heap.push {cls:=.type "range",data:=.fields #[.int lo t,.int hi u,.int 1 v]}).objs.size:=by simpa using G
  subst e;exact z.fpOk (zaj _)<|z.hok.fresh<|zaj _
def ql(ta:TA):TI:=λσ H R=>ta σ H λvs H1=>∃j:Int,vs=[.int j]/\-(2^62)<=j/\j<2^62/\R (Itr 0 j.toNat) H1
def KL{a:Expr}{ta:TA}{p pos:Pos}(N:Gl X "range")(U:X.mg "range" = cb)(F:PA X [a] ta)(hs:zaf [a] X.env=[(ci,eval a X.env)]:=by rfl):PI X tg (.Call (.Name "range" p) [a] [] pos)<|ql ta:=by
 intro pins s σ H R I h;refine Call_<|lS I N U boot_range<|zc7 (cP (F pos pins s σ H _ I h) λY W ⟨vs,H1,G,r1,z⟩=>?_) hs rfl;obtain⟨j,e,z,J,q⟩:=z;subst e;cases r1 with
 |cons r rr=>
  cases rr;obtain⟨t,rfl⟩:=r;exact call_range_1<|MJ G (by lia) (by lia) z J<|by simpa using q
def qcx(wi:TI)(g:TG)(tb:TS):TS:=λD σ H=>wi σ H λJ H1=>∃W:Nat->Nat->St->Hp->Prop,(∃m,W 0 m σ H1)/\∀i m σ H,W i m σ H->
 (J.stop i H/\D.nx σ H)\/(J.go i H/\∃N:St->Hp->Prop,(∀q H',N q H'->∃F,F<m/\W (i+1) F q H')/\∀x H',J.yld i H x H'->g x σ H' λz H2=>tb {D with nx:=N,ct:=N,bk:=D.nx} z H2)
def tW(fp:List Addr)(h:Heap):List<|Addr×Obj:=fp.filterMap λb=>(h.get? b).map λo=>(b,o)
def iI(q:b∈fp)(e:h.get? b=bx o):(b,o)∈tW fp h:=List.mem_filterMap.mpr ⟨b,q,by rw[e];rfl⟩
def JO(G:p∈tW fp h):p.1∈fp/\h.get? p.1=bx p.2:=by
 obtain⟨b,F,e⟩:=List.mem_filterMap.mp G;cases q:h.get? b with
 |none=>rw[q]at e;cases e
 |some o=>
  rw[q]at e;have z:(b,o)=p:=zay e;subst z;exact⟨F,q⟩
def Inv.pinned(I:Inv X pins σ H s)(N:∀b∈fp,kC X pins H b)(J:∀b∈fp,∃o,s.heap.get? b=bx o/\∀v,o.data≠.cell v):Inv X (pins++tW fp s.heap) σ H s:=
 I.pins_of λp U=>(List.mem_append.mp U).elim (λz=>I.pin p<|za1 _ z) λz=>by
  obtain⟨F,e⟩:=JO z;obtain⟨G,f1,f2,_⟩:=N p.1 F;obtain⟨o,q,d⟩:=J p.1 F;rw[e]at q;cases q;exact⟨e,G,f1,f2,d⟩
def Inv.unpinned(I:Inv X (pins++pl) σ H s):Inv X pins σ H s:=I.pins_of λp q=>I.pin p<|za1 _<|zbq _ q
def O6{U:Expr}{ad:List Stmt}{wi:TI}{g:TG}{tb:TS}{pos:Pos}(hp:zca (model X.prog X.w) X.A X.env X.xe)(hc:X.calm=cf)(hi:PI X tg U wi)(hg:PG X tg g)(z:PSs X ad tb)
  (hs:∀x,zbc U X.env x=pure x:=by intro _;rfl):PS X (.For tg U ad [] pos)<|qcx wi g tb:=by
 intro pins s σ H D I h;refine wpAny_For (cP (hi pins s σ H _ I h) λv s1 h1=>cP h1 λbn s2 h2=>?_) hs;obtain⟨it,fp,tn,J,H2,e,I2,T,am,f2,W,⟨m0,w0⟩,turn⟩:=h2;subst e
 -- what stays true of the iterator's objects through the loop
 have ac:∀ {H':Hp},(∀b∈fp,H' b=cb)->∀b∈fp,kC X pins H' b:=λhn b z=>⟨hn b z,(f2 b z).2⟩
 refine codeAny_forLoop_any (λn s'=>∃i Y H',Inv X pins Y H' s'/\tn i s'.heap/\(∀b∈fp,H' b=cb)/\W i n Y H') ?_ m0 ⟨0,σ,H2,I2,am,λb z=>(f2 b z).1,w0⟩;rintro n s3 ⟨i,ab,H3,I3,ak,aj,w3⟩;rcases turn i n ab H3 w3 with⟨ai,qn⟩|⟨go,N,hN,step⟩
 .refine zcn hp (cP (T.done X rfl rfl rfl hc i pins s3 ab H3 X.xe I3 (ac aj) ak ai) λr s4 ⟨hr,I4⟩=>?_)
  subst hr;exact zcH ⟨ab,H3,I4,qn⟩
 .refine zcn hp (cP (T.item X rfl rfl rfl hc i pins s3 ab H3 X.xe I3 (ac aj) ak go) λr s4 ⟨u,hr,h4⟩=>?_)
  subst hr;refine zcn hp<|cP h4 λ_ s5 ⟨x,H5,I5,r5,y5,af,ap⟩=>?_;have ao:=I5.pinned (ac ap)<|T.obj _ _ af;refine zcn hp<|cP (hg _ s5 ab H5 x u _ ao r5<|step x H5 y5) λ_ s6 ⟨an,H6,I6,q6⟩=>?_;refine zcn hp<|cP (z _ s6 an H6 _ I6 q6) λf s7 q7=>?_;have aa:∀ {q:St} {G:Hp},Inv X (pins++tW fp s5.heap) q G s7->N q G->∃m,m<n/\∃i Y H',Inv X pins Y H' s7/\tn i s7.heap/\(∀b∈fp,H' b=cb)/\W i m Y H':=λ{q G} F n7=>by
   obtain⟨m',hm,w7⟩:=hN q G n7;refine⟨m',hm,i+1,q,G,F.unpinned,T.keep _ _ _ af λb z o e=>(F.pin (b,o)<|za1 _<|za1 _<|iI z e).1,λb z=>?_,w7⟩;obtain⟨o,e,d⟩:=T.obj _ _ af b z;exact(F.pin (b,o)<|za1 _<|za1 _<|iI z e).2.1
  cases f with
  |next=>obtain⟨q,G,F,n7⟩:=q7;exact aa F n7
  |cont=>obtain⟨q,G,F,n7⟩:=q7;exact aa F n7
  |brk=>obtain⟨q,G,F,q7⟩:=q7;exact⟨q,G,F.unpinned,q7⟩
  |ret v=>obtain⟨x7,q,G,F,r7,q7⟩:=q7;exact⟨x7,q,G,F.unpinned,r7,q7⟩
end
abbrev R2:=V->V->Hp->VK->Prop
def OpR(X:Cx)(f:Value->Value->Sem Value)(r:R2):Prop:=
 ∀(pins:List<|Addr×Obj) (s:zab) (σ:St) (H:Hp) (x y:V) (v u:Value) (Q:VK),Inv X pins σ H s->RelV x v->RelV y u->r x y H Q->
  wpAny (model X.prog X.w) X.A (f v u) (EP X pins σ Q) X.xe s
def UnR(X:Cx)(f:Value->Sem Value)(r:V->Hp->VK->Prop):Prop:=
 ∀(pins:List<|Addr×Obj) (s:zab) (σ:St) (H:Hp) (x:V) (v:Value) (Q:VK),Inv X pins σ H s->RelV x v->r x H Q->
  wpAny (model X.prog X.w) X.A (f v) (EP X pins σ Q) X.xe s
def CallR(X:Cx)(f:Value)(r:List V->Hp->VK->Prop):Prop:=
 ∀(pins:List<|Addr×Obj) (s:zab) (σ:St) (H:Hp) (xs:List V) (us:List Value) (Q:VK),Inv X pins σ H s->Vals xs us->r xs H Q->
  wpAny (model X.prog X.w) X.A (call f us) (EP X pins σ Q) X.xe s
def tOp(r:R2)(ta tb:TE):TE:=λσ H Q=>ta σ H λx H1=>tb σ H1 λy H2=>r x y H2 Q
def tUn(r:V->Hp->VK->Prop)(ta:TE):TE:=λσ H Q=>ta σ H λx H1=>r x H1 Q
def rI(C:Int->Int->Prop)(g:Int->Int->V):R2:=λx y H Q=>∃i j,x=.int i/\y=.int j/\C i j/\Q (g i j) H
def U7(g:Int->Int->V):R2:=λx y H Q=>∃i j,x=.int i/\y=.int j/\Q (g i j) H
def rU(g:Int->V):V->Hp->VK->Prop:=λx H Q=>∃i,x=.int i/\Q (g i) H
section
variable {X:Cx}{a b c:Expr}{ta tb tc:TE}{pos:Pos}
def ZU(G:PE X a ta)(N:PE X b tb){pins:List (Addr×Obj)}{s:zab}{σ:St}{H:Hp}{R:V->V->Hp->Prop}(I:Inv X pins σ H s)
  (h:ta σ H λx H1=>tb σ H1 λy H2=>R x y H2) {Q:Value->zab->Prop} {f:Value->Value->Sem Value}
  (Y:∀v u F x y H2,Inv X pins σ H2 F->RelV x v->RelV y u->R x y H2->wpAny (model X.prog X.w) X.A (f v u) Q X.xe F) :
  wpAny (model X.prog X.w) X.A (eval a X.env) (λv q=>wpAny (model X.prog X.w) X.A (eval b X.env) (λu z=>wpAny (model X.prog X.w) X.A (f v u) Q X.xe z) X.xe q) X.xe s:=by
 refine cP (G pins s σ H _ I h) λv W ⟨x,H1,J,r1,q1⟩=>?_
 refine cP (N pins W σ H1 _ J q1) λu F ⟨y,H2,U,r2,q2⟩=>?_
 exact Y v u F x y H2 U r1 r2 q2
def VH{op:Operator}{r:R2}(F:OpR X (zaQ op) r)(z:PE X a ta)(G:PE X b tb):PE X (.BinOp a op b pos)<|tOp r ta tb:=by
 intro pins s σ H Q I h;exact wpAny_BinOp<|ZU z G I h λv u W x y H2 J U N q=>F pins W σ H2 x y v u Q J U N q
def qaX{op:UnaryOp}{r:V->Hp->VK->Prop}(z:UnR X (unaryOp op) r)(q:PE X a ta):PE X (.UnaryOp op a pos)<|tUn r ta:=by
 intro pins s σ H Q I h;exact UnaryOp_<|cP (q pins s σ H _ I h) λv G ⟨x,H1,F,r1,J⟩=>z pins G σ H1 x v Q F r1 J
def opI{f:Value->Value->Sem Value}{C:Int->Int->Prop}{g:Int->Int->Int}
  (z:∀(i j:Int) (t u:Tok) (s:zab) (Q:Value->zab->Prop) (E:Value->zab->Prop),C i j->Q (.int (g i j) s.toks) {s with toks:=s.toks+1}->wpAny (model X.prog X.w) X.A (f (.int i t)<|.int j u) Q E s) :
  OpR X f (rI C λi j=>.int<|g i j):=by
 intro pins s σ H x y v u Q I F G h;obtain⟨i,j,rfl,rfl,J,q⟩:=h;obtain⟨t,rfl⟩:=F;obtain⟨t',rfl⟩:=G;exact z i j t t' s _ _ J ⟨.int<|g i j,H,I.tok _,⟨_,rfl⟩,q⟩
def qba{f:Value->Value->Sem Value}{g:Int->Int->Int}
  (z:∀(i j:Int) (t u:Tok) (s:zab) (Q:Value->zab->Prop) (E:Value->zab->Prop),Q (.int (g i j) s.toks) {s with toks:=s.toks+1}->wpAny (model X.prog X.w) X.A (f (.int i t)<|.int j u) Q E s) :
  OpR X f (U7 λi j=>.int<|g i j):=by
 intro pins s σ H x y v u Q I F G h;obtain⟨i,j,rfl,rfl,q⟩:=h;obtain⟨t,rfl⟩:=F;obtain⟨t',rfl⟩:=G;exact z i j t t' s _ _ ⟨.int<|g i j,H,I.tok _,⟨_,rfl⟩,q⟩
def ZT{f:Value->Value->Sem Value}{g:Int->Int->Bool}
  (z:∀(i j:Int) (t u:Tok) (s:zab) (Q:Value->zab->Prop) (E:Value->zab->Prop),Q (.bool<|g i j) s->wpAny (model X.prog X.w) X.A (f (.int i t)<|.int j u) Q E s) :
  OpR X f (U7 λi j=>.bl<|g i j):=by
 intro pins s σ H x y v u Q I F G h;obtain⟨i,j,rfl,rfl,q⟩:=h;obtain⟨t,rfl⟩:=F;obtain⟨t',rfl⟩:=G;exact z i j t t' s _ _ ⟨.bl<|g i j,H,I,rfl,q⟩
def U2(i j:Int):Prop:=0<j/\j<1073741824
def U4(i j:Int):Prop:=0<=j/\j<=1000000/\i.natAbs<2^64
def XT:OpR X (zaQ .Add)<|U7 λi j=>.int<|i+j:=qba λ_ _ _ _ _ _ _ q=>add_int q
def WY:OpR X (zaQ .Sub)<|U7 λi j=>.int<|i-j:=qba λ_ _ _ _ _ _ _ q=>sub_int q
def Q8:OpR X (zaQ .FloorDiv)<|rI U2 λi j=>.int<|i/j:=opI λi j _ _ _ _ _ z q=>by
 have h1:(0:Int)<j:=z.1;have h2:j<1073741824:=z.2;exact floordiv_int (by lia) (by rw[Int.fdiv_eq_ediv_of_nonneg i<|by lia];exact q)<|.inl<|PyProof.noPylong_small<|by lia
def XA:OpR X (zaQ .Mod)<|rI (λ_ j=>0<j) λi j=>.int<|i%j:=opI λi j _ _ _ _ _ z q=>by
 have h1:(0:Int)<j:=z;exact mod_int' (by lia)<|by rw[Int.fmod_eq_emod_of_nonneg i<|by lia];exact q
def YT:OpR X (zaQ .Pow)<|rI U4 λi j=>.int<|i^j.toNat:=opI λ_ _ _ _ _ _ _ z q=>pow_int_small z.1 z.2.1 z.2.2 q
def unI{f:Value->Sem Value}{g:Int->Int}
  (z:∀(i:Int) (t:Tok) (s:zab) (Q:Value->zab->Prop) (E:Value->zab->Prop),Q (.int (g i) s.toks) {s with toks:=s.toks+1}->wpAny (model X.prog X.w) X.A (f<|.int i t) Q E s) :
  UnR X f (rU λi=>.int<|g i):=by
 intro pins s σ H x v Q I F h;obtain⟨i,rfl,q⟩:=h;obtain⟨t,rfl⟩:=F;exact z i t s _ _ ⟨.int<|g i,H,I.tok _,⟨_,rfl⟩,q⟩
def YH:UnR X (unaryOp .USub)<|rU λi=>.int<|-i:=unI λ_ _ _ _ _ q=>neg_int q
end
def ZY:V->V->Bool
 |.non,.non=>cf | .non,.int _=>cf | .int _,.non=>cf | .non,.bl _=>cf | .bl _,.non=>cf | .non,.str _=>cf | .str _,.non=>cf
 |.int _,.int _=>cf | .bl _,.bl _=>cf | .str _,.str _=>cf | .byt _,.byt _=>cf
 |.int _,.str _=>cf | .str _,.int _=>cf | .bl _,.str _=>cf | .str _,.bl _=>cf
 |_,_=>ci
def rEq:R2:=λx y H Q=>ZY x y=cf/\Q (.bl<|decide (x=y)) H
def rNe:R2:=λx y H Q=>ZY x y=cf/\Q (.bl<|!decide (x=y)) H
def GL:decide (V.int i=V.int j)=(i == j):=by
 rw[zc5];simp
def O4:decide (V.bl i=V.bl j)=(i == j):=by
 rw[zc5];simp
def GP:decide (V.str i=V.str j)=(i == j):=by
 rw[zc5];simp
def GX:decide (V.byt i=V.byt j)=(i.toList == j.toList):=by
 rw[zc5];cases i;cases j;simp
section
variable {X:Cx}{a b c:Expr}{ta tb tc:TE}{pos:Pos}
def bL(I:Inv X pins σ H s)(q:Q (.bl k) H)(e:k=k'):EP X pins σ Q (.bool k') s:=by
 subst e;exact⟨.bl k,H,I,rfl,q⟩
def qaG:OpR X (zaC .Eq) rEq:=by
 intro pins s σ H x y v u Q I F z h;obtain⟨hs,q⟩:=h;cases x with
 |non=>
  cases F;cases y with
  |non=>cases z;exact PySem.EqNone.eq_none_none<|bL I q<|by simp
  |bl j=>cases z;exact PySem.EqNone.eq_none_bool<|bL I q<|by simp
  |int j=>obtain⟨t',rfl⟩:=z;exact PySem.EqNone.eq_none_int<|bL I q<|by simp
  |str j=>obtain⟨t',rfl⟩:=z;exact PySem.EqNone.eq_none_str<|bL I q<|by simp
  |_=>exact absurd (show ci=cf from hs) zaB
 |bl i=>
  cases F;cases y with
  |non=>cases z;exact PySem.EqNone.eq_bool_none<|bL I q<|by simp
  |bl j=>cases z;exact eq_bool<|bL I q O4
  |str j=>obtain⟨t',rfl⟩:=z;exact PySem.EqMixed.eq_bool_str<|bL I q<|by simp
  |_=>exact absurd (show ci=cf from hs) zaB
 |int i=>
  obtain⟨t,rfl⟩:=F;cases y with
  |non=>cases z;exact PySem.EqNone.eq_int_none<|bL I q<|by simp
  |int j=>obtain⟨t',rfl⟩:=z;exact eq_int<|bL I q GL
  |str j=>obtain⟨t',rfl⟩:=z;exact PySem.EqMixed.eq_int_str<|bL I q<|by simp
  |_=>exact absurd (show ci=cf from hs) zaB
 |str i=>
  obtain⟨t,rfl⟩:=F;cases y with
  |non=>cases z;exact PySem.EqNone.eq_str_none<|bL I q<|by simp
  |bl j=>cases z;exact PySem.EqMixed.eq_str_bool<|bL I q<|by simp
  |int j=>obtain⟨t',rfl⟩:=z;exact PySem.EqMixed.eq_str_int<|bL I q<|by simp
  |str j=>obtain⟨t',rfl⟩:=z;exact eq_str<|bL I q GP
  |_=>exact absurd (show ci=cf from hs) zaB
 |byt i=>
  obtain⟨t,rfl⟩:=F;cases y with
  |byt j=>obtain⟨t',rfl⟩:=z;exact PySem.W.eq_bytes<|bL I q GX
  |_=>exact absurd (show ci=cf from hs) zaB
 |_=>cases y <;> exact absurd (show ci=cf from hs) zaB
def qu:OpR X (zaC .NotEq) rNe:=by
 intro pins s σ H x y v u Q I F z h;obtain⟨hs,q⟩:=h;cases x with
 |non=>
  cases F;cases y with
  |non=>cases z;exact PySem.EqNone.ne_none_none<|bL I q<|by simp
  |bl j=>cases z;exact PySem.EqNone.ne_none_bool<|bL I q<|by simp
  |int j=>obtain⟨t',rfl⟩:=z;exact PySem.EqNone.ne_none_int<|bL I q<|by simp
  |str j=>obtain⟨t',rfl⟩:=z;exact PySem.EqNone.ne_none_str<|bL I q<|by simp
  |_=>exact absurd (show ci=cf from hs) zaB
 |bl i=>
  cases F;cases y with
  |non=>cases z;exact PySem.EqNone.ne_bool_none<|bL I q<|by simp
  |bl j=>cases z;exact ne_bool<|bL I q<|congrArg not O4
  |str j=>obtain⟨t',rfl⟩:=z;exact PySem.EqMixed.ne_bool_str<|bL I q<|by simp
  |_=>exact absurd (show ci=cf from hs) zaB
 |int i=>
  obtain⟨t,rfl⟩:=F;cases y with
  |non=>cases z;exact PySem.EqNone.ne_int_none<|bL I q<|by simp
  |int j=>obtain⟨t',rfl⟩:=z;exact ne_int<|bL I q<|congrArg not GL
  |str j=>obtain⟨t',rfl⟩:=z;exact PySem.EqMixed.ne_int_str<|bL I q<|by simp
  |_=>exact absurd (show ci=cf from hs) zaB
 |str i=>
  obtain⟨t,rfl⟩:=F;cases y with
  |non=>cases z;exact PySem.EqNone.ne_str_none<|bL I q<|by simp
  |bl j=>cases z;exact PySem.EqMixed.ne_str_bool<|bL I q<|by simp
  |int j=>obtain⟨t',rfl⟩:=z;exact PySem.EqMixed.ne_str_int<|bL I q<|by simp
  |str j=>obtain⟨t',rfl⟩:=z;exact ne_str<|bL I q<|congrArg not GP
  |_=>exact absurd (show ci=cf from hs) zaB
 |byt i=>
  obtain⟨t,rfl⟩:=F;cases y with
  |byt j=>obtain⟨t',rfl⟩:=z;exact PySem.W.ne_bytes<|bL I q<|congrArg not GX
  |_=>exact absurd (show ci=cf from hs) zaB
 |_=>cases y <;> exact absurd (show ci=cf from hs) zaB
def qan:OpR X (zaC .Lt)<|U7 λi j=>.bl<|decide (i<j):=ZT λ_ _ _ _ _ _ _ q=>lt_int q
def qar:OpR X (zaC .LtE)<|U7 λi j=>.bl<|decide (i<=j):=ZT λ_ _ _ _ _ _ _ q=>le_int q
def qaI:OpR X (zaC .Gt)<|U7 λi j=>.bl<|decide (j<i):=ZT λ_ _ _ _ _ _ _ q=>gt_int q
def WJ:OpR X (zaC .Is) λx y H Q=>y=.non/\Q (.bl<|decide (x=.non)) H:=by
 intro pins s σ H x y v u Q I z F h;obtain⟨rfl,q⟩:=h;cases F;refine is_none_gen<|bL I q ?_;cases x <;> first
  | (cases z;rfl)
  | (obtain⟨t,rfl⟩:=z;rfl)
def QQ:OpR X (zaC .IsNot) λx y H Q=>y=.non/\Q (.bl<|!decide (x=.non)) H:=by
 intro pins s σ H x y v u Q I z F h;obtain⟨rfl,q⟩:=h;cases F;refine isnot_none_gen<|bL I q ?_;cases x <;> first
  | (cases z;rfl)
  | (obtain⟨t,rfl⟩:=z;rfl)
def OpR.or(h:OpR X f r)(h':OpR X f r'):OpR X f λx y H Q=>r x y H Q\/r' x y H Q:=by
 intro pins s σ H x y v u Q I z F q;rcases q with q|q
 .exact h pins s σ H x y v u Q I z F q
 .exact h' pins s σ H x y v u Q I z F q
def EF(b:Expr)(h:op≠.In:=by decide)(h2:op≠.NotIn:=by decide):zbV op b=ci:=by
 have q:(op == CmpOp.In)=ci:=by cases op <;> first|rfl|exact absurd rfl h
 have z:(op == CmpOp.NotIn)=ci:=by cases op <;> first|rfl|exact absurd rfl h2
 cases b <;> simp[zbV,q,z]
def SH(F:OpR X (zaC op) r)(z:PE X a ta)(G:PE X b tb)(Y:zbV op b=ci):PE X (.Compare a [op] [b] pos)<|tOp r ta tb:=by
 intro pins s σ H Q I h;exact wpAny_Compare1 (ZU z G I h λv u W x y H2 J U N q=>F pins W σ H2 x y v u Q J U N q) Y
def qae(t:TE):TT:=λσ H Q=>t σ H λx H'=>∃k,x=.bl k/\Q k H'
def RV{op:CmpOp}{r:R2}(F:OpR X (zaC op) r)(q:PE X a ta)(U:PE X b tb)(hm:zbV op b=ci):PT X (.Compare a [op] [b] pos)<|qae<|tOp r ta tb:=by
 intro pins s σ H Q I h;refine wpAny_isTrue_Compare1 (cP (q pins s σ H _ I h) λv Y ⟨x,H1,N,r1,q1⟩=>cP (U pins Y σ H1 _ N q1) λu s2 ⟨y,H2,W,r2,q2⟩=>
  cP (F pins s2 σ H2 x y v u _ W r1 r2 q2) λc s3 ⟨z,G,J,r3,k,e,q3⟩=>?_) hm
 subst e;cases r3;exact zcF ⟨G,J,q3⟩
def tV:(zai:Nat)<2^63:=by rw[zc8];decide
def CG:OpR X (zaQ .Add) λx y H Q=>∃i j,x=.str i/\y=.str j/\i.length+j.length<=zai/\Q (.str<|i++j) H:=by
 intro pins s σ H x y v u Q I F G h;obtain⟨i,j,rfl,rfl,z,q⟩:=h;obtain⟨t,rfl⟩:=F;obtain⟨t',rfl⟩:=G;exact add_str (λt' tk=>⟨.str<|i++j,H,I.tok _,⟨_,rfl⟩,q⟩) z
def vals1(r:Vals [x] us):∃u,us=[u]/\RelV x u:=by
 cases r with
 |cons r1 r2=>cases r2;exact⟨_,rfl,r1⟩
def vals2(r:Vals [x,y] us):∃u q,us=[u,q]/\RelV x u/\RelV y q:=by
 cases r with
 |cons r1 r2=>
  cases r2 with
  |cons r3 r4=>cases r4;exact⟨_,_,rfl,r1,r3⟩
def JJ(F:X.calm=cf):CallR X (.builtin "max") λxs H Q=>∃i j,xs=[.int i,.int j]/\Q (.int<|if j>i then j else i) H:=by
 intro pins s σ H xs G Q I r h;obtain⟨i,j,rfl,q⟩:=h;obtain⟨u,J,rfl,⟨t,rfl⟩,⟨t',rfl⟩⟩:=vals2 r;refine max_two_ints (I.ok.hd F) λh' tk k=>⟨_,H,I.kept k,?_,q⟩
 by_cases z:j>i
 .rw[ck z,ck z];exact⟨_,rfl⟩
 .rw[cq z,cq z];exact⟨_,rfl⟩
def JL(F:X.calm=cf):CallR X (.builtin "min") λxs H Q=>∃i j,xs=[.int i,.int j]/\Q (.int<|if j<i then j else i) H:=by
 intro pins s σ H xs G Q I r h;obtain⟨i,j,rfl,q⟩:=h;obtain⟨u,J,rfl,⟨t,rfl⟩,⟨t',rfl⟩⟩:=vals2 r;refine min_two_ints (I.ok.hd F) λh' tk k=>⟨_,H,I.kept k,?_,q⟩
 by_cases z:j<i
 .rw[ck z,ck z];exact⟨_,rfl⟩
 .rw[cq z,cq z];exact⟨_,rfl⟩
def JM:CallR X (.type "int") λxs H Q=>(∃i,xs=[.int i]/\Q (.int i) H)\/∃k,xs=[.bl k]/\Q (.int<|if k then 1 else 0) H:=by
 intro pins s σ H xs z Q I r h;rcases h with⟨i,rfl,q⟩|⟨k,rfl,q⟩
 .obtain⟨u,rfl,t,rfl⟩:=vals1 r
  exact call_int_int ⟨.int i,H,I,⟨_,rfl⟩,q⟩
 .obtain⟨u,rfl,r1⟩:=vals1 r
  cases r1;exact call_int_bool ⟨.int<|if k then 1 else 0,H,I.tok _,⟨_,rfl⟩,q⟩
def qcn(K:zae)(x:V)(H:Hp)(n:Nat):Prop:=
 match x with
 |.str y=>y.length<=zai/\n=y.length
 |.byt y=>y.size<=zai/\n=y.size
 |.ref p=>(∃xs,SqL K H p xs/\n=xs.length)\/∃xs,SqT K H p xs/\n=xs.length
 |_=>False
def tK:CallR X (.builtin "len") λxs H Q=>∃x n,xs=[x]/\qcn X.K x H n/\Q (.int n) H:=by
 intro pins s σ H xs us Q I r h;obtain⟨x,n,rfl,e,q⟩:=h;obtain⟨u,rfl,G⟩:=vals1 r;have hl:=tV;have hs:zai=16777216:=zc8;cases x with
 |str y=>
  obtain⟨t,rfl⟩:=G;obtain⟨Y,F⟩:y.length<=zai/\n=y.length:=e;subst F;exact len_str (by lia) ⟨.int _,H,I.tok _,⟨_,rfl⟩,q⟩
 |byt y=>
  obtain⟨t,rfl⟩:=G;obtain⟨Y,F⟩:y.size<=zai/\n=y.size:=e;subst F;exact PySem.W.len_bytes (by lia) ⟨.int _,H,I.tok _,⟨_,rfl⟩,q⟩
 |ref p=>
  cases G;have F:(∃xs,SqL X.K H p xs/\n=xs.length)\/∃xs,SqT X.K H p xs/\n=xs.length:=e;rcases F with⟨xs,hx,F⟩|⟨xs,hx,F⟩
  .subst F
   obtain⟨N,J,U,hz⟩:=I.list hx;have z:=J.length;exact Calls.call_len_list U.isList (by simp only[zaw];lia) ⟨.int xs.length,H,I.tok _,⟨_,by simp only[zaw];rw[z]⟩,q⟩
  .subst F
   obtain⟨N,J,U,hz⟩:=I.tuple hx;have z:=J.length;exact len_tuple U (by simp only[zaw];lia) ⟨.int xs.length,H,I.tok _,⟨_,by simp only[zaw];rw[z]⟩,q⟩
 |_=>exact(show False from e).elim
end
structure ObjM(h:Heap)(x dx C:Addr)(mA:Str->Option Value):Prop where
 obj:h.get? x=bx (zb8 C dx)
 ns:h.Ns1 dx mA
 ne:dx≠x
set_option tactic.hygienic true in
def JD{h:Heap}{dx:Addr}{mA:Str->Option Value}(n:h.Ns1 dx mA):∃od,h.get? dx=bx od/\∀name,PySem.W.lookIn name od=bx (mA name):=by
 obtain⟨o,es,ep,G,hd,N,_,U⟩:=n;refine⟨o,G,λname=>?_⟩;have e:=U name;unfold nsFind findBy at e;rw[<- Array.find?_toList]at e;unfold PySem.W.lookIn;rw[hd];dsimp only;split
 .rename_i y q
  rw[q]at e;exact congrArg bx e
 .rename_i q
  rw[q]at e;have a:es.toList.any (·.refKey)=ci:=by
   rw[List.any_eq_false];intro y J;obtain⟨z,t,F⟩:=N y<|Array.mem_toList_iff.mp J;simp[DictEntry.refKey,F]
  have Y:¬ es.toList.any (·.refKey)=cf:=by rw[a];exact zaB
  rw[cq Y];exact congrArg bx e
def ObjM.look(I:ObjM h x dx C mA):∃od,PySem.W.InstAt h x (zb8 C dx) C (bx od)/\∀name,PySem.W.lookIn name od=bx (mA name):=
 let ⟨od,ho,hl⟩:=JD I.ns
 ⟨od,⟨I.obj,rfl,rfl,ho⟩,hl⟩
section
variable {prog:zah}{w:World}{A:zal}{E:Value->zab->Prop}{s:zab}{K:zae}{x dx C f:Addr}{mA:Str->Option Value}{name:Str}{v:Value}
def T5(X:K.In s.heap)(I:ObjM s.heap x dx C mA)(G:zdv K C name=cf)(U:zdw K C=cf)
  (z:zbg K (.ref C) name=bx cb) (N:mA name=bx v) (q:PySem.W.handedIn v=cf) (h:Q v {s with toks:=s.toks+1}) :
  wpAny (model prog w) A (getAttr (.ref x) name expr) Q E s:=by
 obtain⟨od,J,F⟩:=I.look;exact PySem.W.get_value X J (PySem.W.plainGet_of G).1 (PySem.W.findObj_own U z rfl<|by rw[F,N]) q h
def QS(X:K.In s.heap)(I:ObjM s.heap x dx C mA)
  (hs:zbg K (.ref C) "__setattr__" = bx (bx<|.builtin "object.__setattr__")) (hp:zej K C=cf) (ht:zek K C name=bx cb) (hh:zdw K C=cf)
  (hw:PySem.Within mA ns) (hsz:ns.length<=zai)
  (h:∀h',ObjM h' x dx C (λy=>if y=name then bx v else mA y)->za6 dx s.heap h'->Q () {s with heap:=h',toks:=s.toks+2}) :
  wpAny (model prog w) A (setAttr (.ref x) name v) Q E s:=by
 obtain⟨od,J,hl⟩:=I.look;refine PySem.W.set_plain X J hs<|PySem.W.osa_open (s:={s with toks:=s.toks+1}) (r:=cb) X J hp ht λb=>?_;obtain⟨cd,hc,F⟩:=PySem.W.any_some hh;have hx:s.heap.get? x=bx ⟨.ref C,bx dx,.plain,#[]⟩:=I.obj;refine zaa<|zag<|zaa<|zaa<|wpAny_loadPart hx<|zaa<|PySem.W.Looks.here (s:={s with toks:=s.toks+1}) (PySem.W.looks_clsIn X hc) ?_;rw[F];refine zag (a:=bx dx)<|zaa<|zag<|zaa ?_;refine wpAny_nsSet1 (s:={s with toks:=s.toks+1}) I.ns λh' q z=>?_
 obtain⟨oD,Y,aa,N,G,U⟩:=q.count<|PySem.Within.cons name v hw;refine zaa<|wpAny_lookBehind N (by rw[G];exact pastItsLine_dict<|zaO U<|by rw[zaA];lia) ?_;exact zag<|h _ ⟨(z.2 _<|zaI I.ne).trans I.obj,q,I.ne⟩ z
def M9(X:K.In s.heap)(z:zel K C=cf)
  (hi:zbg K (.ref C) "__init__" = bx (bx<|.ref f)) (q:zdx K (.ref f)=bx (.type "function"))
  (h:zbs (model prog w) (A.under<|.builtin "type.__call__" ⟨.ref C::vs, kw⟩) (.call (.ref f) ⟨.ref (s.heap.objs.size+1)::vs, kw⟩) (PySem.W.InitBack (s.heap.objs.size+1) R)
   {s with heap:=(s.heap.push zbY).push (zb8 C s.heap.objs.size)}) :
  zbs (model prog w) A (.call (.ref C) ⟨vs,kw⟩) R s:=by
 obtain⟨F,g,d,t,os⟩:=s;exact PySem.W.make_core (PySem.W.makes_of X z) (PySem.W.looks_findIn X hi) (λself=>PySem.W.bind_fn X self q) (.inl rfl) h
end
def i4(f:Str)(v:V):List (Str×V)->List (Str×V)
 |[]=>[(f,v)]
 |(g,x)::r=>if g=f then(g,v)::r else(g,x)::i4 f v r
theorem pK(f g:Str)(v:V):∀fs:List (Str×V),(i4 f v fs).lookup g=if g=f then bx v else fs.lookup g
 |[]=>by
  show zco g [(f,v)]=_;by_cases h:g=f
  .have q:(g == f)=cf:=beq_iff_eq.mpr h
   simp only[zco,q,ck h]
  .have q:(g == f)=ci:=beq_eq_false_iff_ne.mpr h
   simp only[zco,q,cq h]
 |(k,x)::r=>by
  have ih:=pK f g v r;rw[show i4 f v ((k,x)::r)=(if k=f then(k,v)::r else(k,x)::i4 f v r)from rfl];by_cases z:k=f
  .rw[ck z]
   by_cases h:g=k
   .have q:(g == k)=cf:=beq_iff_eq.mpr h
    simp only[zco,q,ck<|h.trans z]
   .have q:(g == k)=ci:=beq_eq_false_iff_ne.mpr h
    simp only[zco,q,cq λe:g=f=>h<|e.trans z.symm]
  .rw[cq z]
   by_cases h:g=k
   .have q:(g == k)=cf:=beq_iff_eq.mpr h
    simp only[zco,q,cq λe:g=f=>z<|h.symm.trans e]
   .have q:(g == k)=ci:=beq_eq_false_iff_ne.mpr h
    simp only[zco,q];exact ih
theorem nR(f:Str)(v:V):∀fs:List (Str×V),f∈(i4 f v fs).map (·.1)/\∀g,g∈fs.map (·.1)->g∈(i4 f v fs).map (·.1)
 |[]=>⟨by simp[i4],λg h=>by simp at h⟩
 |(k,x)::r=>by
  obtain⟨F,z⟩:=nR f v r;rw[show i4 f v ((k,x)::r)=(if k=f then(k,v)::r else(k,x)::i4 f v r)from rfl];by_cases q:k=f
  .rw[ck q]
   subst q;exact⟨by simp,λg h=>by simpa using h⟩
  .rw[cq q]
   refine⟨?_,λg h=>?_⟩
   .rw[zan]
    exact zaq _ F
   .rw[zan]at h ⊢
    rcases List.mem_cons.mp h with e|e
    .exact List.mem_cons.mpr<|.inl e
    .exact zaq _<|z g e
theorem oK(f:Str)(v:V):∀fs:List (Str×V),(i4 f v fs).length<=fs.length+1
 |[]=>by simp[i4]
 |(k,x)::r=>by
  have ih:=oK f v r;rw[show i4 f v ((k,x)::r)=(if k=f then(k,v)::r else(k,x)::i4 f v r)from rfl];by_cases q:k=f
  .rw[ck q,zaA,zaA];lia
  .rw[cq q,zaA,zaA];lia
def RelO.some_of(r:RelO (bx v) o):∃u,o=bx u/\RelV v u:=by
 cases o with
 |none=>exact(show False from r).elim
 |some u=>exact⟨u,rfl,r⟩
def KD(r:RelV v u):PySem.W.handedIn u=cf:=by
 cases v with
 |non=>cases(show u=zaS from r);rfl
 |bl b=>cases(show u=zbL b from r);rfl
 |int i=>obtain⟨t,e⟩:=(show ∃t,u=zcC i t from r);cases e;rfl
 |str x=>obtain⟨t,e⟩:=(show ∃t,u=zc1 x t from r);cases e;rfl
 |byt b=>obtain⟨t,e⟩:=(show ∃t,u=Value.bytes b t from r);cases e;rfl
 |flt b=>obtain⟨t,e⟩:=(show ∃t,u=Value.float b t from r);cases e;rfl
 |ref a=>cases(show u=zap a from r);rfl
 |ty n=>cases(show u=Value.type n from r);rfl
section
variable {P:zah}{w:World}{H H':Hp}{h h':Heap}{a C dx:Addr}{fs fs':List (Str×V)}
def xQ(hok:HOk P w H h)(e:H a=bx (.ins C dx fs)):∃mA,ObjM h a dx C mA/\(∀f,RelO (fs.lookup f)<|mA f)/\PySem.Within mA (fs.map (·.1))/\fs.length<=1000/\H dx=bx (.own a):=by
 obtain⟨d,z,F,ob,mA,n,r,q⟩:=(show ObjOk P w H h a (.ins C dx fs)from hok a _ e);exact⟨mA,⟨ob,n,F⟩,r,q,z,d⟩
end
structure Cls(K:zae)(C:Addr):Prop where
 pg:zdv K C Str.empty=cf
 hd:zdw K C=cf
 po:zej K C=cf
 sa:zbg K (.ref C) "__setattr__" = bx (bx<|.builtin "object.__setattr__")
def Cls.get{K:zae}{C:Addr}(c:Cls K C)(f:Str):zdv K C f=cf:=c.pg
def NoAttr(K:zae)(C:Addr)(f:Str):Prop:=zbg K (.ref C) f=bx cb
def NoAttr.taker{K:zae}{C:Addr}{f:Str}(n:NoAttr K C f):zek K C f=bx cb:=by
 unfold zek;rw[show zbg K (.ref C) f=bx cb from n];rfl
section
variable {X:Cx}{pins:List (Addr×Obj)}{σ:St}{H:Hp}{s:zab}{a C dx:Addr}{fs:List (Str×V)}{f:Str}{v:V}{A:zal}{E:Value->zab->Prop}
def DC(I:Inv X pins σ H s)(e:H a=bx (.ins C dx fs))(c:Cls X.K C)(n:NoAttr X.K C f)(l:fs.lookup f=bx v)
  (h:∀u s',Inv X pins σ H s'->RelV v u->Q u s'):wpAny (model X.prog X.w) A (getAttr (.ref a) f b) Q E s:=by
 obtain⟨mA,O,r,_,_,_⟩:=xQ I.hok e;obtain⟨u,z,q⟩:=RelO.some_of (v:=v) (o:=mA f) (by rw[<- l];exact r f);exact T5 I.kIn O (c.get f) c.hd n z (KD q)<|h u _ (I.tok _) q
def DK(I:Inv X pins σ H s)(e:H a=bx (.ins C dx fs))(c:Cls X.K C)(n:NoAttr X.K C f)(W:fs.length<1000)(J:RelV y u)
  (h:∀s',Inv X pins σ (upd H a<|.ins C dx<|i4 f y fs) s'->Q () s'):wpAny (model X.prog X.w) A (setAttr (.ref a) f u) Q E s:=by
 obtain⟨mA,O,r,wi,_,F⟩:=xQ I.hok e;have U:(fs.map (·.1)).length<=zai:=by rw[zak,zc8];lia
 refine QS I.kIn O c.sa c.po n.taker c.hd wi U λh' O' sb=>h _ ?_
 have hd:∃o,h'.get? dx=bx o:=let ⟨o,_,_,e',_⟩:=O'.ns;⟨o,e'⟩;refine I.write (x:=a) (e:=dx) (by rw[e];exact za4) (.inr F) (λb q G z=>(sb.2 b G).trans z) hd ?_;refine⟨by rw[aG O.ne];exact F,?_,O.ne,O'.obj,_,O'.ns,λg=>?_,λg N=>?_⟩
 .have:=oK f y fs;lia
 .show RelO ((i4 f y fs).lookup g) (if g=f then bx u else mA g)
  rw[pK];by_cases q:g=f
  .rw[ck q,ck q];exact J
  .rw[cq q,cq q];exact r g
 .by_cases q:g=f
  .rw[q];exact(nR f y fs).1
  .refine(nR f y fs).2 g (wi g λz=>N ?_)
   show(if g=f then bx u else mA g)=cb;rw[cq q];exact z
def Inv.made(I:Inv X pins σ H s):Inv X pins σ (upd (upd H s.heap.objs.size<|.own<|s.heap.objs.size+1) (s.heap.objs.size+1)<|.ins C s.heap.objs.size [])
  {s with heap:=(s.heap.push zbY).push (zb8 C s.heap.objs.size)}:=by
 have z:(s.heap.push zbY).get? s.heap.objs.size=bx zbY:=zaF s.heap rfl;have U:((s.heap.push zbY).push<|zb8 C s.heap.objs.size).get? (s.heap.objs.size+1)=bx (zb8 C s.heap.objs.size):=by
  have:=zaF (s.heap.push zbY) (o:=zb8 C s.heap.objs.size) rfl
  rwa [zbZ]at this
 have W:(s.heap.push zbY).Ns s.heap.objs.size λ_=>cb:=⟨zbY,#[],_,z,rfl,(λe N=>absurd N<|by simp),λ_=>rfl⟩;have J:=I.laid (a:=s.heap.objs.size) (o:=.own<|s.heap.objs.size+1) (h':=s.heap.push zbY) (t':=s.toks) (λb u q=>zam _ q) (zaj _) ⟨_,z⟩;refine J.laid (a:=s.heap.objs.size+1) (o:=.ins C s.heap.objs.size []) (t':=s.toks) (λb u q=>zam _ q) (zc9<|zbZ _ _) ?_;have F:s.heap.objs.size≠s.heap.objs.size+1:=zaE<|zdy _;refine⟨by rw[aG F,aI],zaM _,F,U,λ_=>cb,(Heap.Ns1.of_empty W).at λo q=>zam _ q,λ_=>za4,λy G=>absurd rfl G⟩
def RZ{prog:zah}{w:World}{env:Env}{e:Expr}{f:Str}{pos:Pos}{s:zab}{Q:Value->zab->Prop}(z:zaW e f env (eval e env)=eval e env)
  (h:wpAny (model prog w) A (eval e env) (λo q=>wpAny (model prog w) A (getAttr o f cf) Q E q) E s):wpAny (model prog w) A (eval (.Attribute e f pos) env) Q E s:=
 Attribute_any_ h (by rw[arm_eval_Attribute,z])
end
def qa2(K:zae)(ta:TE)(f:Str):TE:=λσ H Q=>ta σ H λx H1=>∃a C dx fs v,x=.ref a/\H1 a=bx (.ins C dx fs)/\Cls K C/\NoAttr K C f/\fs.lookup f=bx v/\Q v H1
def qca(K:zae)(ta tv:TE)(f:Str):TS:=λD σ H=>tv σ H λy H1=>ta σ H1 λx H2=>∃a C dx fs,x=.ref a/\H2 a=bx (.ins C dx fs)/\Cls K C/\NoAttr K C f/\fs.length<1000 /\
 D.nx σ (upd H2 a<|.ins C dx<|i4 f y fs)
section
variable {X:Cx}{o e value:Expr}{f:Str}{pos pos' tpos:Pos}{ta tv:TE}
def jW(N:PE X e ta)(F:zaW e f X.env (eval e X.env)=eval e X.env):PE X (.Attribute e f pos)<|qa2 X.K ta f:=by
 intro pins s σ H Q I h;refine RZ F<|cP (N pins s σ H _ I h) λu Y ⟨x,H1,z,G,a,C,dx,fs,v,ex,ea,c,n,l,q⟩=>?_;subst ex;obtain rfl:u=zap a:=G;exact DC z ea c n l λW s2 J U=>⟨v,H1,J,U,q⟩
def uB(z:PE X o ta)(hv:PE X value tv)(hs:zaz value (bx<|.Attribute o f pos') pos.line X.env=pure ci):PS X (.Assign [.Attribute o f pos'] value pos)<|qca X.K ta tv f:=by
 intro pins s σ H D I h;refine plainObj_wpAny_Assign_Attribute (cP (hv pins s σ H _ I h) λu Y ⟨y,H1,J,W,q⟩=>cP (z pins Y σ H1 _ J q) λF s2 ⟨x,H2,N,U,a,C,dx,fs,ex,ea,c,n,l,q2⟩=>?_) hs;subst ex;obtain rfl:F=zap a:=U;exact DK N ea c n l W λs3 G=>⟨σ,_,G,q2⟩
end
section
variable {X:Cx}{pins:List (Addr×Obj)}{σ:St}{H:Hp}{s:zab}{A:zal}{E:Value->zab->Prop}{Q:Value->zab->Prop}{c:Value}{b:Bool}
inductive TyOf(K:zae)(H:Hp):V->Value->Prop where
 | non:TyOf K H .non<|.type "NoneType"
 | bl (x:Bool):TyOf K H (.bl x)<|.type "bool"
 | int (i:Int):TyOf K H (.int i)<|.type "int"
 | str (x:Str):TyOf K H (.str x)<|.type "str"
 | flt (x:UInt64):TyOf K H (.flt x)<|.type "float"
 | lst {a:Addr} {xs:List V} (e:H a=bx (.lst xs)):TyOf K H (.ref a)<|.type "list"
 | frz {a:Addr} {o:Obj} {xs:List V} (e:H a=bx (.frz o<|.lst xs)):TyOf K H (.ref a)<|.type "list"
 | tup {a:Addr} {xs:List V} (e:H a=bx (.tup xs)):TyOf K H (.ref a)<|.type "tuple"
 | dK {a:Addr} {kvs:List (Key×V)} (e:H a=bx (.dK kvs)):TyOf K H (.ref a)<|.type "dict"
 | dT {a:Addr} {kvs:List (List Key×V)} (e:H a=bx (.dT kvs)):TyOf K H (.ref a)<|.type "dict"
 | ins {a C dx:Addr} {fs:List (Str×V)} (e:H a=bx (.ins C dx fs)) (cl:Cls K C) (ha:zbg K (.ref C) "__class__" = bx (bx<|.builtin "object.__class__"))
   (hn:PySem.W.specialIn K (.builtin "object.__class__") "__get__" = bx (bx<|.builtin "getset_descriptor.__get__")) (htk:PySem.W.takesIn K (.builtin "object.__class__")=bx cf)
   (hm:PySem.W.mroIn K C (.type "object")=bx cf):TyOf K H (.ref a)<|.ref C
def KM(I:Inv X pins σ H s)(F:RelV x u)(ty:TyOf X.K H x t)(e:zbp X.K t c=bx b)(h:∀tk,Q (.bool b) {s with toks:=tk}) :
  wpAny (model X.prog X.w) A (call (.builtin "isinstance") [u,c]) Q E s:=by
 cases ty with
 |non=>cases(show u=zaS from F);exact zbh PySem.W.kitx_none I.kIn za4 e (λz=>nomatch z) h
 |bl y=>cases(show u=zbL y from F);exact zbh PySem.W.kitx_bool I.kIn za4 e (λz=>nomatch z) h
 |int i=>obtain⟨t,q⟩:=(show ∃t,u=zcC i t from F);cases q;exact zbh PySem.W.kitx_int I.kIn za4 e (λz=>nomatch z) h
 |str y=>obtain⟨t,q⟩:=(show ∃t,u=zc1 y t from F);cases q;exact zbh PySem.W.kitx_str I.kIn za4 e (λz=>nomatch z) h
 |flt y=>obtain⟨t,q⟩:=(show ∃t,u=Value.float y t from F);cases q;exact zbh PySem.W.kitx_float I.kIn za4 e (λz=>nomatch z) h
 |@lst a xs ea=>
  cases(show u=zap a from F);obtain⟨_,_,n,_,h1⟩:=(show ObjOk X.prog X.w H s.heap a (.lst xs)from I.hok a _ ea);exact zbh PySem.W.kitx_list I.kIn ⟨_,h1,rfl⟩ e (λz=>nomatch z) h
 |@frz a ob xs ea=>
  cases(show u=zap a from F);obtain⟨_,_,_,n,_,h1⟩:=(show ObjOk X.prog X.w H s.heap a (.frz ob<|.lst xs)from I.hok a _ ea);exact zbh PySem.W.kitx_list I.kIn ⟨_,h1,rfl⟩ e (λz=>nomatch z) h
 |@tup a xs ea=>
  cases(show u=zap a from F);obtain⟨_,_,_,p⟩:=(show ObjOk X.prog X.w H s.heap a (.tup xs)from I.hok a _ ea);obtain⟨o,h1,h2,_⟩:=p;exact zbh PySem.W.kitx_tuple I.kIn ⟨o,h1,h2⟩ e (λz=>nomatch z) h
 |@dK a kvs ea=>
  cases(show u=zap a from F);obtain⟨_,_,vs,_,p⟩:=(show ObjOk X.prog X.w H s.heap a (.dK kvs)from I.hok a _ ea);obtain⟨o,es,ep,h1,h2,_⟩:=p;exact zbh zdz I.kIn ⟨o,h1,h2.1⟩ e (λz=>nomatch z) h
 |@dT a kvs ea=>
  cases(show u=zap a from F);obtain⟨_,_,xs,_,o,es,ep,h1,h2,_⟩:=(show ObjOk X.prog X.w H s.heap a (.dT kvs)from I.hok a _ ea);exact zbh zdz I.kIn ⟨o,h1,h2.1⟩ e (λz=>nomatch z) h
 |@ins a C dx fs ea cl ha hn htk hm=>
  cases(show u=zap a from F);obtain⟨mA,O,_⟩:=xQ I.hok ea;obtain⟨od,J,_⟩:=O.look;exact zbh (PySem.W.kitx_own (cl.get _) cl.hd ha hn htk hm) I.kIn J e (λz=>nomatch z) h
end
structure Room(k:Nat)(A:zal):Prop where
 hd:A.handled=cb
 dp:A.depth+3*k+5<recursionLimit
 un:A.units+16*k+200<cLine
def Room.mono(r:Room k A)(h:j<=k):Room j A:=⟨r.hd,by have:=r.dp;lia,by have:=r.un;lia⟩
theorem Room.deeper(r:Room (k+1) A)(env:Env):Room k<|A.deeper env:=
 ⟨r.hd,by have:=r.dp;show A.depth+1+3*k+5<_;lia,by have:=r.un;show A.units+3+16*k+200<_;lia⟩
def DQ{A:zal}{C:Addr}{q:List Value}{kw:List (Str×Value)}:(A.under<|.builtin "type.__call__" ⟨.ref C::q,kw⟩).depth=A.depth+1:=by
 first|rfl|simp[Around.under,Code.weight,Code.isCreation,Code.isGuard,Code.isCaller,Code.frames,Code.isFrame,guardIds]
def C6{A:zal}{C:Addr}{q:List Value}{kw:List (Str×Value)}:(A.under<|.builtin "type.__call__" ⟨.ref C::q,kw⟩).units=A.units+1:=by
 first|rfl|simp[Around.under,Code.cUnits,Code.frames,Code.isFrame]
def Room.make(r:Room (k+1) A)(C:Addr)(q:List Value)(kw:List<|Str×Value):Room k<|A.under<|.builtin "type.__call__" ⟨.ref C::q,kw⟩:=
 ⟨r.hd,by have:=r.dp;rw[DQ];lia,by have:=r.un;rw[C6];lia⟩
theorem Room.depth(r:Room k A):A.depth<recursionLimit:=by have:=r.dp;lia
theorem Room.units(r:Room k A):A.units+64<cLine:=by have:=r.un;lia
def Room.units0(r:Room k A):A.units<cLine:=by have:=r.un;lia
def UY:TA:=λ_ H Q=>Q [] H
def wQ(ta:TE)(q:TA):TA:=λσ H Q=>ta σ H λx H1=>q σ H1 λxs H2=>Q (x::xs) H2
section
variable {X:Cx}{e:Expr}{es:List Expr}{te:TE}{t:TA}{pos:Pos}
def eK:PA X [] UY:=λ_ _ _ _ H Q I h=>Calls.spliced_nil ⟨[],H,I,.nil,h⟩
def bX(q:PE X e te)(N:PA X es t)(hs:zaf (e::es) X.env=(ci,eval e X.env)::zaf es X.env:=by rfl):PA X (e::es)<|wQ te t:=by
 intro pos pins s σ H Q I h;rw[hs];show wpAny _ _ (spliced<|(ci,eval e X.env)::zaG pos (zaf es X.env)) _ _ s;refine Calls.spliced_cons<|cP (q pins s σ H _ I h) λu G ⟨x,H1,z,r1,U⟩=>?_;exact cP (N pos pins G σ H1 _ z U) λY W ⟨xs,H2,F,r2,J⟩=>⟨x::xs,H2,F,.cons r1 r2,J⟩
def qcg(t:TA):TE:=λσ H Q=>t σ H λxs H1=>xs.length<=zai/\∀p,H1 p=cb->Q (.ref p) (upd H1 p<|.tup xs)
def qbR(t:TA):TE:=λσ H Q=>t σ H λxs H1=>xs.length<=zai/\∀p,H1 p=cb->Q (.ref p) (upd H1 p<|.lst xs)
def OC{x1}(h:PA X es t):PE X (.Tuple es x1 pos)<|qcg t:=by
 intro pins s σ H Q I J;refine wpAny_Tuple_spliced<|cP (h pos pins s σ H _ I J) λU F ⟨xs,H1,G,r,z,q⟩=>⟨by rw[<- r.length];exact z,?_⟩;have N:H1 F.heap.objs.size=cb:=G.hok.fresh<|zaj _;refine⟨.ref F.heap.objs.size,upd H1 F.heap.objs.size<|.tup xs,G.laid (t':=F.toks) (λb u e=>zam _ e) (zaj _) ?_,rfl,q _ N⟩;exact⟨z,U,r,⟨_,zaF _ rfl,rfl,_,rfl,rfl⟩⟩
def PY(h:PA X es t):PE X (.List es pos)<|qbR t:=by
 intro pins s σ H Q I J;refine wpAny_List_spliced<|cP (h pos pins s σ H _ I J) λU F ⟨xs,H1,G,r,z,q⟩=>⟨by rw[<- r.length];exact z,?_⟩;have N:H1 F.heap.objs.size=cb:=G.hok.fresh<|zaj _;refine⟨.ref F.heap.objs.size,upd H1 F.heap.objs.size<|.lst xs,G.laid (t':=F.toks) (λb u e=>zam _ e) (zaj _) ?_,rfl,q _ N⟩;exact⟨z,U,0,r,zaF _ rfl⟩
end
abbrev Sp:=List V->Hp->VK->XK->Prop
abbrev II:=List Env->Hp->zab->XK->Value->zab->Prop
structure Env0(P:zah)(w:World)(K:zae)(mg:Str->Option Value)(base:Heap)(A:zal)(outer:List Env)(s:zab)(H:Hp):Prop where
 frames:A.frames=bx outer
 mod:Mod K mg base
 bs:∀b o,base.get? b=bx o->s.heap.get? b=bx o/\H b=cb
 bsz:base.objs.size<=s.heap.objs.size
 funs:s.heap.FunFrames base outer
 frf:∀b∈frs outer,H b=cb
 hok:HOk P w H s.heap
 bare:zbN s.gens
def CE(outer:List Env)(P:zah)(w:World)(H:Hp)(s:zab)(Q:VK)(u:Value)(s':zab):Prop:=
 ∃v H',s'.os=s.os/\zbN s'.gens/\Un (frs outer) [] H H' s.heap s'.heap/\HOk P w H' s'.heap/\RelV v u/\Q v H'
def CR(CX:II)(outer:List Env)(P:zah)(w:World)(H:Hp)(s:zab)(Q:VK)(E:XK)(r:Result)(s':zab):Prop:=
 match r with
 |.ok (.ret u)=>CE outer P w H s Q u s'
 |.ok _=>False
 |.error e=>CX outer H s E e s'
structure FnOk(P:zah)(w:World)(K:zae)(mg:Str->Option Value)(base:Heap)(CX:II)(k:Nat)(f:Addr)(fd:zbd)(ps:List Str)(sp:Sp):Prop where
 len:∀vs H Q E,sp vs H Q E->vs.length=ps.length
 run:∀(A:zal) (outer:List Env) (s:zab) (H:Hp) (args:Args) (us:List Value) (vs:List V) (Q:VK) (E:XK),Room k A->Env0 P w K mg base A outer s H->BindsTo s fd args (ps.zip us)->Vals vs us->sp vs H Q E->
  zbs (model P w) A (.call (.ref f) args) (CR CX outer P w H s Q E) s
def FnOk.imp{P:zah}{w:World}{K:zae}{mg:Str->Option Value}{base:Heap}{CX:II}{k:Nat}{f:Addr}{fd:zbd}{ps:List Str}{sp sp':Sp}(F:FnOk P w K mg base CX k f fd ps sp)
  (h:∀vs H Q E,sp' vs H Q E->sp vs H Q E):FnOk P w K mg base CX k f fd ps sp':=
 ⟨λvs H Q E q=>F.len vs H Q E<|h _ _ _ _ q,λA outer s H args U vs Q E J G z N hs=>F.run A outer s H args U vs Q E J G z N<|h _ _ _ _ hs⟩
def Env0.make{P:zah}{w:World}{K:zae}{mg:Str->Option Value}{base:Heap}{A:zal}{outer:List Env}{s:zab}{H:Hp}(e:Env0 P w K mg base A outer s H)(C:Addr)(q:List Value)(kw:List<|Str×Value) :
  Env0 P w K mg base (A.under<|.builtin "type.__call__" ⟨.ref C::q,kw⟩) outer s H:=⟨by first|exact e.frames|(simpa[Around.under,Code.envs,Code.isFrame,pushEnvs]using e.frames),e.mod,e.bs,e.bsz,e.funs,e.frf,e.hok,e.bare⟩
section
variable {X:Cx}{pins:List (Addr×Obj)}{σ:St}{H:Hp}{s s':zab}
def Inv.env0(I:Inv X pins σ H s):Env0 X.prog X.w X.K X.mg X.base X.A X.stack s H:=
 ⟨I.ok.frames,I.ok.mod,I.bs,zaO I.ok.bsz I.sz,I.stack,I.stkFree,I.hok,I.bare⟩
def Inv.after(I:Inv X pins σ H s)(h:CE X.stack X.prog X.w H s Q u s'):EP X pins σ Q u s':=by
 obtain⟨v,H',os,F,un,hok,r,q⟩:=h;obtain⟨J,g,d,t,G⟩:=s';obtain rfl:G=s.os:=os;exact⟨v,H',I.call (h':=J) (g':=g) (d':=d) (t':=t) (ch:=[]) un hok F λb z=>absurd z<|by simp,r,q⟩
end
def qx(sp:Sp)(dvs:List V)(E:XK)(t:TA):TE:=λσ H Q=>t σ H λvs H1=>sp (vs++dvs) H1 Q E
def qau(C:Addr)(sp:Sp)(dvs:List V)(E:XK)(t:TA):TE:=λσ H Q=>t σ H λvs H1=>∀x dx,H1 x=cb->H1 dx=cb->dx≠x->
 sp (.ref x::(vs++dvs)) (upd (upd H1 dx<|.own x) x<|.ins C dx []) (λv H2=>v=.non/\Q (.ref x) H2) E
def Binds(K:zae)(fd:zbd)(ps:List Str)(ds:List Value):Prop:=
 ∀(s:zab) (us:List Value),K.In s.heap->(us++ds).length=ps.length->BindsTo s fd ⟨us,[]⟩ (ps.zip<|us++ds)
def Binds.all{K:zae}{fd:zbd}{ps:List Str}(h:∀q:List Value,q.length=ps.length->bindArgs fd ⟨q,[]⟩=pure (ps.zip q)):Binds K fd ps []:=λs q _ z=>by
 rw[zbi]at z ⊢;exact .of_eq<|h q z
def t9(CX:II)(X:Cx)(E:XK):Prop:=∀(pins:List<|Addr×Obj) (σ:St) (H:Hp) (s:zab) (e:Value) (s':zab),Inv X pins σ H s->CX X.stack H s E e s'->X.xe e s'
section
variable {X:Cx}{CX:II}{k:Nat}{f C:Addr}{fd:zbd}{ps:List Str}{sp:Sp}{dvs:List V}{ds:List Value}{E:XK}{x m:Str}{p pos apos:Pos}{e o:Expr}{es:List Expr}{ta:TE}{t:TA}
def YX(F:FnOk X.prog X.w X.K X.mg X.base CX k f fd ps sp)(z:Room k X.A)(G:Binds X.K fd ps ds)(hd:Vals dvs ds)(hx:t9 CX X E)
  (I:Inv X pins σ H s) (r:Vals vs us) (h:sp (vs++dvs) H Q E):wpAny (model X.prog X.w) X.A (call (.ref f) us) (EP X pins σ Q) X.xe s:=by
 have r2:Vals (vs++dvs)<|us++ds:=r.append hd;have J:(us++ds).length=ps.length:=by rw[<- r2.length];exact F.len _ _ _ _ h
 refine zda<|zcp (F.run X.A X.stack s H ⟨us,[]⟩ (us++ds) (vs++dvs) Q E z I.env0 (G s us I.kIn J) r2 h) λr s' q=>?_;cases r with
 |error e=>exact hx pins σ H s e s' I q
 |ok fl=>
  cases fl with
  |ret u=>exact I.after q
  |next=>exact zaP q
  |brk=>exact zaP q
  |cont=>exact zaP q
def xZ(F:FnOk X.prog X.w X.K X.mg X.base CX k f fd ps sp)(hr:Room k X.A)(hg:Gl X x)(hm:X.mg x=bx (.ref f))(W:zbC X.K (.ref f)=cf)(U:Binds X.K fd ps ds)(hd:Vals dvs ds)(hx:t9 CX X E)
  (N:PA X (e::es) t) (z:(x == ("__debug__" : Str))=ci:=by decide) (Y:zaf (e::es) X.env=(ci,eval e X.env)::zaf es X.env:=by rfl) (G:(zaG pos<|zaf es X.env).any (·.1)=ci:=by rfl) :
  PE X (.Call (.Name x p) (e::es) [] pos) (qx sp dvs E t):=by
 intro pins s σ H Q I h;refine zcJ<|iU I hg hm ?_ z;refine zdA (h₀:=X.base) I.ok.mod.kin W (cP (N pos pins s σ H _ I h) λus s1 ⟨vs,H1,J,r,q⟩=>⟨J.kIn,?_⟩) Y G;exact YX F hr U hd hx J r q
structure Mk(K:zae)(C f:Addr):Prop where
 makes:zel K C=cf
 init:zbg K (.ref C) "__init__" = bx (bx<|.ref f)
 fn:PySem.W.isFn K (.ref f)=cf
 kp:zbC K (.ref C)=cf
def MC(M:Mk X.K C f)(F:FnOk X.prog X.w X.K X.mg X.base CX k f fd ps sp)(Y:Room (k+1) X.A)(N:Binds X.K fd ps ds)(hd:Vals dvs ds)
  (hx:t9 CX X E) (I:Inv X pins σ H s) (r:Vals vs us)
  (h:∀x dx,H x=cb->H dx=cb->dx≠x->sp (.ref x::(vs++dvs)) (upd (upd H dx<|.own x) x<|.ins C dx []) (λv H2=>v=.non/\Q (.ref x) H2) E) :
  wpAny (model X.prog X.w) X.A (call (.ref C) us) (EP X pins σ Q) X.xe s:=by
 have G:=h (s.heap.objs.size+1) s.heap.objs.size (I.hok.fresh<|Nat.le_succ _) (I.hok.fresh<|zaj _)<|zaE<|zdy _;have z:=Inv.made (C:=C) I;have r2:Vals (V.ref (s.heap.objs.size+1)::(vs++dvs))<|zap (s.heap.objs.size+1)::(us++ds):=.cons rfl<|r.append hd;have U:(zap (s.heap.objs.size+1)::us++ds).length=ps.length:=by
  have e:=r2.length;rw[F.len _ _ _ _ G]at e;exact e.symm
 refine zda (M9 (f:=f) I.kIn M.makes M.init (beq_iff_eq.mp M.fn)<|zcp (F.run _ X.stack _ _ ⟨zap (s.heap.objs.size+1)::us,[]⟩ (zap (s.heap.objs.size+1)::(us++ds)) _ _ E (Y.make C us [])
  (z.env0.make C us []) (N _ (zap (s.heap.objs.size+1)::us) z.kIn U) r2 G) λr s' q=>?_)
 cases r with
 |error e=>exact hx pins σ _ _ e s' z q
 |ok fl=>
  cases fl with
  |ret u=>
   obtain⟨v,H',J,W,ev,q3⟩:=z.after q;subst ev;exact⟨W,⟨V.ref<|s.heap.objs.size+1,H',J,rfl,q3⟩⟩
  |next=>exact zaP q
  |brk=>exact zaP q
  |cont=>exact zaP q
def T2(M:Mk X.K C f)(F:FnOk X.prog X.w X.K X.mg X.base CX k f fd ps sp)(hr:Room (k+1) X.A)(Y:Gl X x)(hm:X.mg x=bx (.ref C))(U:Binds X.K fd ps ds)(hd:Vals dvs ds)(hx:t9 CX X E)
  (N:PA X (e::es) t) (z:(x == ("__debug__" : Str))=ci:=by decide) (W:zaf (e::es) X.env=(ci,eval e X.env)::zaf es X.env:=by rfl) (G:(zaG pos<|zaf es X.env).any (·.1)=ci:=by rfl) :
  PE X (.Call (.Name x p) (e::es) [] pos) (qau C sp dvs E t):=by
 intro pins s σ H Q I h;refine zcJ<|iU I Y hm ?_ z;refine zdA (h₀:=X.base) I.ok.mod.kin M.kp (cP (N pos pins s σ H _ I h) λus s1 ⟨vs,H1,J,r,q⟩=>⟨J.kIn,?_⟩) W G;exact MC M F hr U hd hx J r q
end
structure FnScope(N P:List Str)(sc:Scope):Prop where
 kind:sc.kind=.function
 co:sc.isCoroutine=ci
 gen:sc.isGenerator=ci
 nd:N.Nodup
 pre:N.take P.length=P
 par:∀x∈P,sc.names.lookup x=bx .local\/sc.names.lookup x=bx .cell
 nofree:∀y∈sc.names,y.2≠.free
theorem vJ{zbj:Str->Option zbO}:∀ {binds:List (Str×Value)} {m:Str->Option Value},(∀v,(x,v)∉binds)->bindL zbj binds m x=m x
 |[],_,_=>rfl
 |(n,v)::r,m,h=>by
  unfold bindL;rw[vJ λw hw=>h w<|zaq _ hw];split
  .have:x≠n:=by rintro rfl;exact h v zar
   simp[this]
  .rfl
theorem wB{zbj:Str->Option zbO}:∀ {binds:List (Str×Value)} {m:Str->Option Value},(∀v,(x,v)∉binds)->bindC zbj binds m x=m x
 |[],_,_=>rfl
 |(n,v)::r,m,h=>by
  unfold bindC;rw[wB λw hw=>h w<|zaq _ hw];split
  .rfl
  .have:x≠n:=by rintro rfl;exact h v zar
   simp[this]
theorem vS{zbj:Str->Option zbO}{x:Str}{v:Value}:∀ {P:List Str} {vs:List Value} {i:Nat} {m:Str->Option Value},P.Nodup->P[i]?=bx x->vs[i]?=bx v->zbj x=bx .local->
  bindL zbj (P.zip vs) m x=bx v
 |[],_,_,_,_,h,_,_=>by simp at h
 |_::_,[],_,_,_,_,h,_=>by simp at h
 |p::P,w::vs,0,m,nd,h1,h2,hk=>by
  simp at h1 h2;subst h1;subst h2;show bindL zbj ((p,w)::P.zip vs) m p=_;unfold bindL;rw[vJ λv q=>(List.nodup_cons.mp nd).1 (zem q).1,ck hk];simp
 |p::P,w::vs,i+1,m,nd,h1,h2,hk=>by
  show bindL zbj ((p,w)::P.zip vs) m x=_;unfold bindL;exact vS (i:=i) (List.nodup_cons.mp nd).2 (by simpa using h1) (by simpa using h2) hk
theorem vT{zbj:Str->Option zbO}{x:Str}{v:Value}:∀ {P:List Str} {vs:List Value} {i:Nat} {m:Str->Option Value},P.Nodup->P[i]?=bx x->vs[i]?=bx v->zbj x≠bx .local->
  bindC zbj (P.zip vs) m x=bx v
 |[],_,_,_,_,h,_,_=>by simp at h
 |_::_,[],_,_,_,_,h,_=>by simp at h
 |p::P,w::vs,0,m,nd,h1,h2,hk=>by
  simp at h1 h2;subst h1;subst h2;show bindC zbj ((p,w)::P.zip vs) m p=_;unfold bindC;rw[wB λv q=>(List.nodup_cons.mp nd).1 (zem q).1,cq hk];simp
 |p::P,w::vs,i+1,m,nd,h1,h2,hk=>by
  show bindC zbj ((p,w)::P.zip vs) m x=_;unfold bindC;exact vT (i:=i) (List.nodup_cons.mp nd).2 (by simpa using h1) (by simpa using h2) hk
def start(N:List Str)(vs:List V):St:=vs.map bx++zb0 (N.length-vs.length) cb
def dC(CX:II)(P:zah)(w:World)(K:zae)(mg:Str->Option Value)(base:Heap)(N:List Str)(q:Str)(scope:Scope)(f:Addr)(F:Value)(A:zal)(outer:List Env)(s:zab)(H:Hp)(E:XK):Cx where
 prog:=P
 w:=w
 K:=K
 mg:=mg
 base:=base
 A:=A.deeper<|zaH q scope s.heap.objs.size f F
 N:=N
 s₀:=s
 H₀:=H
 env:=zaH q scope s.heap.objs.size f F
 outer:=outer
 stack:=zaH q scope s.heap.objs.size f F::outer
 ex:=[]
 calm:=cf
 fn:=λ_=>cf
 pn:=[]
 xe:=λe s'=>wpAny (model P w) (A.deeper<|zaH q scope s.heap.objs.size f F) (zcq (zaH q scope s.heap.objs.size f F) e) (λ_ z=>CX outer H s E e z) (λG z=>CX outer H s E G z) s'
def mS{sc:Scope}{n:Nat}{x:Str}(h:sc.names.lookup x=bx .cell):∃c,(zcc n sc.names []).lookup x=bx c:=by
 have q:=PySem.W.cellsFrom_some sc.names n []<|.inl h;exact Option.isSome_iff_exists.mp q
def IW{CX:II}{P:zah}{w:World}{K:zae}{mg:Str->Option Value}{base:Heap}{N ps:List Str}{F:Str}{scope:Scope}{f:Addr}{cd:Value}{A:zal}{outer:List Env}{s s1:zab}{H:Hp}{E:XK}{us:List Value}{vs:List V}
  (S:FnScope N ps scope) (hd:A.handled=cb) (G:Env0 P w K mg base A outer s H) (hl:vs.length=ps.length) (r:Vals vs us)
  (x:InCallC s s.heap.objs.size (bindL (zaH F scope s.heap.objs.size f cd).kindOf (ps.zip us) λ_=>cb) (zcc (s.heap.objs.size+1) scope.names []) (bindC (zaH F scope s.heap.objs.size f cd).kindOf (ps.zip us) λ_=>cb) s1) :
  Inv (dC CX P w K mg base N F scope f cd A outer s H E) [] (start N vs) H s1:=by
 have ah:ps.length<=N.length:=by have:=congrArg zbt S.pre;rw[zcd]at this;lia
 obtain⟨h1,tk,rfl,hk⟩:=x.done;have J:∀b:Addr,b∉(dC CX P w K mg base N F scope f cd A outer s H E).ex:=λb z=>absurd (show b∈([]:List Addr)from z)<|by simp
 refine⟨⟨G.mod,S.kind,rfl,rfl,zaj _,λy z c h1 h2=>?_,λy U=>?_,λy c _ h=>?_,λ_=>hd,Around.frames_deeper G.frames,.inr ⟨rfl,rfl⟩,λb z=>absurd z<|J b,G.bs,G.bsz,λb _ _=>J b,λb z=>absurd z<|J b,G.funs,G.frf⟩,
  rfl,G.bare,Un.kept hk,⟨_,x.toInCall.ns,λi y v h1 h2 h3=>?_⟩,λy c h=>⟨_,x.cell y c h⟩,G.hok.fresh<|zaj _,λy c h=>?_,λp Y=>absurd (show p∈([]:List<|Addr×Obj)from Y)<|by simp,G.hok.kept hk,?_⟩
 .exact name_of_addr x.apart (zcK h1)<|zcK h2
 .have U:scope.names.lookup y=bx .cell\/scope.names.lookup y=bx .free:=U
  rcases U with U|U
  .exact mS U
  .exact absurd rfl<|S.nofree _<|zcK U
 .exact Nat.le_of_lt<|x.above y c<|zcK h
 .have hi:i<vs.length:=by
   unfold start at h2;by_cases hi:i<vs.length
   .exact hi
   .rw[zdB<|by simpa using hi]at h2
    rw[List.getElem?_replicate]at h2;split at h2 <;> cases h2
  have ha:vs[i]?=bx v:=by
   unfold start at h2;rw[zen (by simpa using hi),zaD]at h2;cases e:vs[i]? with
   |none=>rw[e]at h2;cases h2
   |some a=>rw[e]at h2;cases h2;rfl
  obtain⟨u,hu,rv⟩:=r.get ha;have Y:ps[i]?=bx y:=by
   rw[<- S.pre,List.getElem?_take_of_lt<|by lia];exact h1
  have W:ps.Nodup:=by rw[<- S.pre];exact S.nd.sublist<|zdC _ _
  refine⟨u,rv,?_⟩;rcases S.par y (zax Y)with k|k
  .exact .inl ⟨k,vS W Y hu k⟩
  .obtain⟨c,e⟩:=mS (n:=s.heap.objs.size+1) k
   refine .inr ⟨.inl k,c,e,?_⟩;have q:=x.cell y c e;rw[vT W Y hu<|by show scope.names.lookup y≠_;rw[k];decide]at q;exact q
 .exact G.hok.fresh<|Nat.le_of_lt<|x.above y c<|zcK h
 .unfold start
  show _=N.length;rw[zbk,zak,List.length_replicate]
  lia
def V5{CX:II}{P:zah}{w:World}{K:zae}{mg:Str->Option Value}{base:Heap}{k:Nat}{f:Addr}{name z:Str}{G:Arguments}{U:List Stmt}{scope:Scope}{dV kV ac pm F ct oc:Value}{an od:Option Addr}
  {af:Array (Option Value)} {N ps:List Str} {sp:Sp} (lk:K.lookup f=bx ⟨oc,od,.func<|zbl name z G U scope dV kV ac pm an F ct,af⟩) (ag:zcr K F z=cf) (S:FnScope N ps scope)
  (ae:∀vs H Q E,sp vs H Q E->vs.length=ps.length)
  (ab:∀(A:zal) (outer:List Env) (s:zab) (H:Hp) (vs:List V) (Q:VK) (E:XK), Room k (A.deeper<|zaH z scope s.heap.objs.size f F) -> sp vs H Q E ->
   ∃t,PSs (dC CX P w K mg base N z scope f F A outer s H E) U t/\t {nx:=λ_ H'=>Q .non H',rt:=Q} (start N vs) H) :
  FnOk P w K mg base CX (k+1) f (zbl name z G U scope dV kV ac pm an F ct) ps sp:=by
 refine⟨ae,λA outer s H args us vs Q E hr e0 hb r hsp=>?_⟩;have hl:=ae _ _ _ _ hsp;have KX:K.In s.heap:=e0.mod.kin.keeps λb o e=>(e0.bs b o e).1
 have ah:s.heap.NoLimit:=e0.mod.nolimit.keeps λb o e=>(e0.bs b o e).1
 have aa:∀y∈ps.zip us,scope.names.lookup y.1=bx .local\/(scope.names.lookup y.1=bx .cell/\((zcc (s.heap.objs.size+1) scope.names []).lookup y.1).isSome=cf):=by
  rintro⟨n,v⟩ hy;rcases S.par n (zem hy).1 with q|q
  .exact .inl q
  .exact .inr ⟨q,PySem.W.cellsFrom_some _ _ _<|.inl q⟩
 refine codeAny_call_function hr.depth (KX _ _ lk) rfl S.co S.gen rfl (PySem.W.codeRec_of KX ag)<|hb _ _ _ _ ?_;refine wpAny_newFunctionEnv_cells S.kind aa λenv he s1 x=>?_
 subst he;refine⟨ah.keeps x.toInCall.keep,codeAny_func ?_⟩;obtain⟨t,ht,hq⟩:=ab A outer s H vs Q E (hr.deeper _) hsp;have I:Inv (dC CX P w K mg base N z scope f F A outer s H E) [] (start N vs) H s1:=IW S hr.hd e0 hl r x;refine zaJ (ht [] s1 (start N vs) H _ I hq) (λfl s' hs=>?_) λe s' hs=>hs
 have fin:∀ {Y:St} {H':Hp} {v:V} {u:Value},Inv (dC CX P w K mg base N z scope f F A outer s H E) [] Y H' s'->RelV v u->Q v H'->CE outer P w H s Q u s':=
  λ{Y H' v u} J rv q=>⟨v,H',J.os,J.bare,J.base,J.hok,rv,q⟩
 cases fl with
 |ret u=>
  obtain⟨v,Y,H',J,rv,q⟩:=hs;exact fin J rv q
 |next=>
  obtain⟨Y,H',J,q⟩:=hs;exact fin (v:=V.non) (u:=zaS) J rfl q
 |brk=>
  obtain⟨_,_,_,q⟩:=hs;exact zaP q
 |cont=>
  obtain⟨_,_,_,q⟩:=hs;exact zaP q
section
variable {X:Cx}{x:Str}{p pos:Pos}{e:Expr}{es:List Expr}{t:TA}{id T:String}{r:List V->Hp->VK->Prop}
def tCB(r:List V->Hp->VK->Prop)(t:TA):TE:=λσ H Q=>t σ H λvs H1=>r vs H1 Q
def mZ(hc:CallR X (.builtin id) r)(W:Gl X x)(hm:X.mg x=cb)(Y:zaL x=bx (.builtin id))(F:PA X (e::es) t)(N:x ≠ "__name__" := by decide)(q:(x == ("__debug__" : Str))=ci:=by decide)
  (U:zaf (e::es) X.env=(ci,eval e X.env)::zaf es X.env:=by rfl) (z:(zaG pos<|zaf es X.env).any (·.1)=ci:=by rfl):PE X (.Call (.Name x p) (e::es) [] pos)<|tCB r t:=by
 intro pins s σ H Q I h;refine zcJ<|lS I W hm Y ?_ N q;exact PyProof.Rows.callWith_builtin1 (cP (F pos pins s σ H _ I h) λus J ⟨vs,H1,G,r1,q1⟩=>hc pins J σ H1 vs us Q G r1 q1) U z
def kE(hc:CallR X (.type T) r)(W:Gl X x)(hm:X.mg x=cb)(Y:zaL x=bx (.type T))(F:PA X (e::es) t)(N:x ≠ "__name__" := by decide)(q:(x == ("__debug__" : Str))=ci:=by decide)
  (U:zaf (e::es) X.env=(ci,eval e X.env)::zaf es X.env:=by rfl) (z:(zaG pos<|zaf es X.env).any (·.1)=ci:=by rfl):PE X (.Call (.Name x p) (e::es) [] pos)<|tCB r t:=by
 intro pins s σ H Q I h;refine zcJ<|lS I W hm Y ?_ N q;exact zc7 (cP (F pos pins s σ H _ I h) λus J ⟨vs,H1,G,r1,q1⟩=>hc pins J σ H1 vs us Q G r1 q1) U z
end
end L2
namespace HT
open PySem PyProof.Rows
def lexLt:List Int->List Int->Bool
 |[],[]=>ci
 |[],_::_=>cf
 |_::_,[]=>ci
 |x::xs,y::ys=>if x=y then lexLt xs ys else decide (x<y)
def DV(x y:Int)(xs ys:List Int):lexLt (x::xs) (y::ys)=if x=y then lexLt xs ys else decide (x<y):=rfl
def uX:lexLt [] []=ci:=rfl
def qJ(y:Int)(ys:List Int):lexLt [] (y::ys)=cf:=rfl
def qK(x:Int)(xs:List Int):lexLt (x::xs) []=ci:=rfl
def L8(A:zal)(s:zab)(a:Int)(t:Tok)(c:Int)(u:Tok):∃e,SeqAt.EqAt A s (.int a t) (.int c u) e/\(e=cf↔a=c):=
 ⟨(a == c),SeqAt.EqAt.int_int a t c u,by simp⟩
def LJ(A:zal)(s:zab)(a:Int)(t:Tok)(c:Int)(u:Tok)(prog:zah)(w:World)(E:Value->zab->Prop)(Q:Value->zab->Prop)(h:Q (.bool<|decide (a<c)) s) :
  wpAny (model prog w) A (richCompare .Lt (.int a t)<|.int c u) Q E s:=
 (PyProof.Rows.lt_int h:wpAny (model prog w) A (zaC .Lt (.int a t)<|.int c u) Q E s)
section
open PySem.SeqAt
open PySem.AutoSeq1 (wpAny_loadPart')
open PySem.MeetsSeq PySem.MeetsSeq2 PySem.MeetsSeq3
def uZ(l b:Addr)(items z:Array Value)(n n2:Nat)(dd ag:Option Addr)(sl ae:Array<|Option Value)(ns ms:List Int)(hi:zbm items.toList ns)(hj:zbm z.toList ms) :
  Meets (zbz.«tuple.__lt__» ⟨[.ref l,.ref b],[]⟩)
   (λ_ R s => s.heap.get? l = bx {cls := .type "tuple", dict:=dd, data := .seq items n, slots:=sl} /\ s.heap.get? b = bx {cls := .type "tuple", dict:=ag, data := .seq z n2, slots:=ae} /\
    R (.ok<|.ret<|.bool<|lexLt ns ms) s):=
 .of_wp λprog w A R s h=>by
  obtain⟨hp,g,d,tk,os⟩:=s;obtain⟨hl,hb,h⟩:=h;have f2:=AutoSeq1.sub_tuple_tuple;have z1:items.size=ns.length:=by rw[<- hi.length];simp
  have z2:z.size=ms.length:=by rw[<- hj.length];simp
  wp_walk using zb1 hl,zb1 hb,zc4 _ (λrest b s'=>b.1=cb/\s'=⟨hp,g,d,tk,os⟩/\∃(vs ws:List Value) (G J:List Int),rest=vs.zip ws /\
   zbm vs G/\zbm ws J/\G.length+z.size=J.length+items.size/\R (.ok<|.ret<|.bool<|lexLt G J) ⟨hp,g,d,tk,os⟩) _
  case turn=>
   rintro⟨y,x⟩ rest b s' ⟨ab,rfl,vs,ws,G,J,U,aa,N,F,Y⟩;cases aa with
   |nil=>rw[List.zip_nil_left]at U;cases U
   |cons a t hvi'=>
    cases N with
    |nil=>rw[List.zip_nil_right]at U;cases U
    |cons c u hwi'=>
     rw[zeo]at U;injection U with hyx hrest
     injection hyx with hy hx
     subst hy hx;rw[DV]at Y;simp only[zaA]at F;obtain⟨e,he,W⟩:=L8 A.in1 ⟨hp,g,d,tk,os⟩ a t c u;refine zaa<|he prog w _ _ ?_;cases e with
     |true=>
      rw[ck<|W.mp rfl]at Y
      wp_walk
      exact⟨rfl,rfl,_,_,_,_,hrest,hvi',hwi',by lia,Y⟩
     |false=>
      rw[cq λq=>absurd (W.mpr q) zaB]at Y;have af:=LJ A.in1 ⟨hp,g,d,tk,os⟩ a t c u prog w
      wp_walk using af
      exact⟨_,rfl,by simpa using Y⟩
  case fin=>
   rintro⟨b1,b2⟩ s' ⟨ab,rfl,vs,ws,G,J,U,aa,N,F,Y⟩;simp only at ab;subst ab;have hv:lexLt G J=decide (items.size<z.size):=by
    cases aa with
    |nil=>
     cases N with
     |nil=>
      simp only[zbP]at F;rw[uX];exact(decide_eq_false<|by lia).symm
     |cons c u hw=>
      simp only[zbP,zaA]at F;rw[qJ];exact(decide_eq_true<|by lia).symm
    |cons a t hv=>
     cases N with
     |nil=>
      simp only[zbP,zaA]at F;rw[qK];exact(decide_eq_false<|by lia).symm
     |cons c u hw=>
      rw[zeo]at U;cases U
   rw[hv]at Y
   wp_walk
   exact⟨_,rfl,by simpa[Builtin.Tuple.tupleCompareSizes]using Y⟩
  case h=>
   exact⟨rfl,rfl,items.toList,z.toList,ns,ms,rfl,hi,hj,by lia,h⟩
end
section
variable {prog:zah}{w:World}{A:zal}{E:Value->zab->Prop}{s:zab}
def CV(hl:IsTup s.heap l items)(hb:IsTup s.heap b items2)(hi:zbm items.toList ns)(hj:zbm items2.toList ms)
  (hu:A.units<cLine) (h:Q (.bool<|lexLt ns ms) s):wpAny (model prog w) A (zaC .Lt (.ref l)<|.ref b) Q E s:=by
 obtain⟨⟨cls,dd,data,sl⟩,W,hc,n,hd⟩:=id hl;obtain⟨⟨Y,N,U,J⟩,z,G,n2,q⟩:=id hb;simp only at hc hd G q;subst hc hd G q;exact richCompare_meets_room (op:=.Lt) ⟨_,W,rfl⟩ ⟨_,z,rfl⟩ PySem.F.slot_tuple_lt PySem.F.entry_tuple_lt (PySem.F.args_tuple_lt_2 _ _) (uZ l b items items2 n n2 dd N sl J ns ms hi hj)
  ⟨W,z,show zbL (lexLt ns ms)≠Value.notImplemented/\Q (.bool<|lexLt ns ms) s from⟨(λx=>nomatch x),h⟩⟩ hu
def R8(ht:IsTup s.heap t vs.toArray)(hb:IsTup s.heap b ws.toArray)(hv:vs≠[])
  (h1:ws=[]->Q (.ref t) s) (h2:ws≠[]->Q (.ref s.heap.objs.size) {s with heap:=s.heap.push {cls:=.type "tuple",data:=.seq (vs++ws).toArray} })
  (hsz:vs.length+ws.length<=zai):wpAny (model prog w) A (zaQ .Add (.ref t)<|.ref b) Q E s:=by
 obtain⟨⟨cls,dd,data,sl⟩,N,hc,n,hd⟩:=id ht;obtain⟨⟨W,F,U,z⟩,q,J,Y,G⟩:=id hb;simp only at hc hd J G;subst hc hd J G;have e:vs.toArray++ws.toArray=(vs++ws).toArray:=by simp
 by_cases hw:ws=[]
 .exact concat_meets ⟨_,N,rfl⟩ ⟨_,q,rfl⟩ zep seq_tuple_add zeq zer (zes _ _)
   (tuple_addW1 t b vs.toArray ws.toArray n Y dd F sl z (by simpa using hv)<|by simp[hw]) ⟨N,q,h1 hw⟩
 .refine concat_meets ⟨_,N,rfl⟩ ⟨_,q,rfl⟩ zep seq_tuple_add zeq zer (zes _ _)
   (tuple_addW2 t b vs.toArray ws.toArray n Y dd F sl z (by simpa using hv) (by simpa using hw)<|by rw[zaw,zaw];exact hsz) ⟨N,q,?_⟩
  rw[e];exact h2 hw
def sIx(n d:Nat):Option Int->Nat
 |none=>d
 |some v=>if v<0 then(v+(n:Int)).toNat else min v.toNat n
def YK(n d:Nat)(hd:d<=n)(o:Option Int):sIx n d o<=n:=by
 cases o with
 |none=>exact hd
 |some v=>
  show(if v<0 then(v+(n:Int)).toNat else min v.toNat n)<=n;by_cases q:v<0
  .rw[ck q];lia
  .rw[cq q];exact Nat.min_le_right _ _
def GS(v:Int)(n d:Nat):(if v<0 then max (v+(n:Int)) 0 else min v (n:Int))=((sIx n d<|bx v:Nat):Int):=by
 show(if v<0 then max (v+(n:Int)) 0 else min v (n:Int))=(((if v<0 then(v+(n:Int)).toNat else min v.toNat n):Nat):Int);by_cases q:v<0
 .simp only[ck q];lia
 .simp only[cq q];lia
def C7(lo hi:Option Int)(n:Nat):zet lo hi 1 (n:Int)=(((sIx n 0 lo:Nat):Int),((sIx n n hi:Nat):Int)):=by
 have h1:¬ ((1:Int)<0):=by lia
 unfold zet;simp only[h1,if_false];refine Prod.ext ?_ ?_
 .cases lo with
  |none=>rfl
  |some v=>exact GS v n 0
 .cases hi with
  |none=>rfl
  |some v=>exact GS v n n
def CT(i j:Nat):zdD (i:Int) (j:Int) 1=j-i:=by
 unfold zdD;have h1:(1:Int)>0:=by lia
 simp only[h1,if_true,Int.ediv_one];split <;> lia
def rB(p:zbQ v o)(h:Q o s):wpAny (model prog w) A (Builtin.Slice.slicePartIndex v) Q E s:=by
 cases p with
 |none=>exact slicePart_none h
 |int i t=>exact slicePart_int h
def gW{J:Addr}{G F:Value}{lo hi:Option Int}{n:Nat}{Q:Int×Int×Nat->zab->Prop}(hs:s.heap.IsSliceOf J G F .none)(W:zbQ G lo)(N:zbQ F hi)
  (h:Q (((sIx n 0 lo:Nat):Int),1,sIx n n hi-sIx n 0 lo) s):wpAny (model prog w) A (Builtin.Slice.sliceApplied (.ref J)<|pure (n:Int)) Q E s:=by
 obtain⟨os,z,U,q⟩:=id hs;unfold Builtin.Slice.sliceApplied Builtin.Slice.sliceFields;refine zaa<|zaa<|zaN z q (x:=G) rfl<|zaa<|zaN z q (x:=F) rfl<|zaa<|zaN z q (x:=.none) rfl<|zag ?_;refine zaa<|slicePart_none ?_;show wpAny _ _ (if((1:Int) == 0)=cf then _ else _) _ _ s;rw[cq<|by decide];refine zaa<|rB W<|zaa<|rB N<|zaa<|zag ?_;show wpAny _ _ (match zet lo hi 1 (n:Int)with|(lo,hi)=>pure (lo,(1:Int),zdD lo hi 1)) _ _ s;rw[C7 lo hi n];show wpAny _ _ (pure (((sIx n 0 lo:Nat):Int),(1:Int),zdD ((sIx n 0 lo:Nat):Int) ((sIx n n hi:Nat):Int) 1)) _ _ s;rw[CT];exact zag h
def N0(xs:Array Value)(i k:Nat):((zas k).filterMap λ(m:Nat)=>xs[((i:Int)+(m:Int)*1).toNat]?).toArray=((xs.toList.drop i).take k).toArray:=by
 have e:(λ(m:Nat)=>xs[((i:Int)+(m:Int)*1).toNat]?)=λm=>xs[i+m]?:=by
  funext m;have:((i:Int)+(m:Int)*1).toNat=i+m:=by lia
  rw[this]
 rw[e];have:=pick_run xs i k;rw[List.filterMap_map]at this;have q:((λx=>xs[x]?) ∘ λx=>i+x)=λm=>xs[i+m]?:=rfl
 rw[q]at this;rw[this]
def lY{t G:Addr}{items:Array Value}{vl Y:Value}{lo hi:Option Int}{Q:Value->zab->Prop}(F:IsTup s.heap t items)(hs:s.heap.IsSliceOf G vl Y .none)(pl:zbQ vl lo)(pu:zbQ Y hi)
  (hw:¬ (sIx items.size 0 lo=0/\sIx items.size items.size hi=items.size))
  (h:Q (.ref s.heap.objs.size) {s with heap:=s.heap.push {cls:=.type "tuple",data:=.seq ((items.toList.drop<|sIx items.size 0 lo).take<|sIx items.size items.size hi-sIx items.size 0 lo).toArray} })
  (hsz:items.size<=zai):wpAny (model prog w) A (zbD (.ref t)<|.ref G) Q E s:=by
 have z:sizeOk<|.seq ((items.toList.drop<|sIx items.size 0 lo).take<|sIx items.size items.size hi-sIx items.size 0 lo).toArray:=by
  show((items.toList.drop<|sIx items.size 0 lo).take<|sIx items.size items.size hi-sIx items.size 0 lo).toArray.size<=zai;rw[zaw,zcd,zeu,zbW]
  lia
 have hj:sIx items.size items.size hi<=items.size:=YK _ _ (zaj _) hi;obtain⟨os,J,N,ac⟩:=id hs;have W:s.TypeIs (.ref G) "slice" := ⟨os,J,N⟩;unfold zbD
 try with_reducible refine zbM ?_
 first|refine zaa (zag ?_)|skip
 refine zaa<|wpAny_sequenceKey F.typeIs (by decide) ?_;refine zaa (zbR (name:=zbn "__getitem__") F.typeIs zdE
  (zbo zdE F.typeIs entry_tuple_getitem ?_<|args_tuple_getitem _ _))
 show wpAny _ _ (zeb (.ref t) >>= _) _ _ s;refine zaa<|tupleItemsOf_ F ?_;refine zaa<|zcL W ?_;rw[ck<|by decide];refine zaa<|gW hs pl pu ?_;have U:¬ ((((sIx items.size 0 lo:Nat):Int) == 0 && (1:Int) == 1 && (sIx items.size items.size hi-sIx items.size 0 lo) == items.size)=cf):=by
  intro q;rw[zaV,zaV]at q;have q1:((sIx items.size 0 lo:Nat):Int)=0:=zc6 q.1.1;have q2:sIx items.size items.size hi-sIx items.size 0 lo=items.size:=zc6 q.2;exact hw ⟨by lia,by lia⟩
 show wpAny _ _ (if(((sIx items.size 0 lo:Nat):Int) == 0 && (1:Int) == 1 && (sIx items.size items.size hi-sIx items.size 0 lo) == items.size)=cf then _ else _) _ _ s;rw[cq U,N0]
 first
  | exact zaa (m:=zdF _)<|zbE (zag ⟨_,rfl,zag h⟩) z
  | exact zaa (m:=zdF _)<|zbE (zaa<|zag<|zag ⟨_,rfl,zag h⟩) z
  | exact zaa<|zaa (m:=zdF _)<|zbE (zag<|zag ⟨_,rfl,zag h⟩) z
  | exact zaa<|zaa (m:=zdF _)<|zbE (zag ⟨_,rfl,zag h⟩) z
end
end HT
namespace L2
open PySem PySem.Spec PyProof.Rows
abbrev TO:=St->Hp->(Option Int->Hp->Prop)->Prop
def PO(X:Cx)(e:Option Expr)(t:TO):Prop:=
 ∀(pins:List<|Addr×Obj) (s:zab) (σ:St) (H:Hp) (Q:Option Int->Hp->Prop),Inv X pins σ H s->t σ H Q->
  wpAny (model X.prog X.w) X.A (evalPart e X.env) (λu s'=>∃o H',Inv X pins σ H' s'/\zbQ u o/\Q o H') X.xe s
def UP:TO:=λ_ H Q=>Q cb H
def qaV(t:TE):TO:=λσ H Q=>t σ H λx H1=>∃i,x=.int i/\Q (bx i) H1
def intsAre_of:∀ {q:List Value},Vals (ns.map V.int) q->zbm q ns:=by
 induction ns with
 |nil=>intro q r;rw[zcM]at r;cases r;exact .nil
 |cons n ns ih=>
  intro q r;rw[zan]at r;cases r with
  |cons r1 r2=>
   obtain⟨t,e⟩:=r1;subst e;exact .cons n t<|ih r2
section
variable {X:Cx}{e:Expr}{te:TE}{lo hi:Option Expr}{tl th:TO}{pos p2:Pos}
def QU:PO X cb UP:=by
 intro pins s σ H Q I h;rw[evalPart_none];exact zag ⟨cb,H,I,.none,h⟩
def S0(h:PE X e te):PO X (bx e)<|qaV te:=by
 intro pins s σ H Q I hw;rw[evalPart_some];refine cP (h pins s σ H _ I hw) λu G ⟨x,H1,z,r1,F⟩=>?_
 obtain⟨i,rfl,q⟩:=F;obtain⟨t,rfl⟩:=r1;exact⟨bx i,H1,z,.int i t,q⟩
def SlR(X:Cx)(r:V->Option Int->Option Int->Hp->VK->Prop):Prop:=
 ∀(pins:List<|Addr×Obj) (s:zab) (σ:St) (H:Hp) (x:V) (v vl vu:Value) (lo hi:Option Int) (sl:Addr) (Q:VK),Inv X pins σ H s->RelV x v->s.heap.IsSliceOf sl vl vu .none->zbQ vl lo->zbQ vu hi->r x lo hi H Q->
  ∃T id,typeLookup (.type T) "__getitem__" = pure (bx<|.builtin id)/\s.TypeIs v T/\wpAny (model X.prog X.w) X.A (zbD v<|.ref sl) (EP X pins σ Q) X.xe s
def SlR.or(h:SlR X r)(h':SlR X r'):SlR X λx lo hi H Q=>r x lo hi H Q\/r' x lo hi H Q:=by
 intro pins s σ H x v J z lo hi U Q I G hs N F q;rcases q with q|q
 .exact h pins s σ H x v J z lo hi U Q I G hs N F q
 .exact h' pins s σ H x v J z lo hi U Q I G hs N F q
def tSl(r:V->Option Int->Option Int->Hp->VK->Prop)(te:TE)(tl th:TO):TE:=λσ H Q=>te σ H λx H1=>tl σ H1 λl H2=>th σ H2 λu q=>r x l u q Q
def M4(hr:SlR X r)(W:PE X e te)(hl:PO X lo tl)(hu:PO X hi th):PE X (.Subscript e (.Slice lo hi cb p2) pos)<|tSl r te tl th:=by
 intro pins s σ H Q I h;refine Subscript_<|cP (W pins s σ H _ I h) λv Y ⟨x,H1,N,r1,q1⟩=>?_;refine wpAny_Slice<|cP (hl pins Y σ H1 _ N q1) λF s2 ⟨l,H2,I2,pl,q2⟩=>cP (hu pins s2 σ H2 _ I2 q2) λG z ⟨u,J,I3,pu,q3⟩=>?_;rw[evalPart_none];refine zag ?_;have U:Inv X pins σ J {z with heap:=z.heap.push {cls:=.type "slice",data:=.fields #[F,G,.none]} }:=I3.kept (t':=z.toks) λb ob q=>zam _ q
 obtain⟨T,id,hT,ht,hg⟩:=hr pins {z with heap:=z.heap.push {cls:=.type "slice",data:=.fields #[F,G,.none]} } σ J x v F G l u z.heap.objs.size Q U r1 (Heap.IsSliceOf.new ..) pl pu q3;show wpAny (model X.prog X.w) X.A (subscriptTail e (.Slice lo hi cb p2) v<|.ref z.heap.objs.size) (EP X pins σ Q) X.xe {z with heap:=z.heap.push {cls:=.type "slice",data:=.fields #[F,G,.none]} };exact tail_any (ops:=[.ref z.heap.objs.size,v]) ht hT hg<|by with_unfolding_all rfl
def u6(xs:List V)(lo hi:Option Int):List V:=(xs.drop<|HT.sIx xs.length 0 lo).take<|HT.sIx xs.length xs.length hi-HT.sIx xs.length 0 lo
def oG(xs:List V)(lo hi:Option Int):(u6 xs lo hi).length<=xs.length:=by
 unfold u6;rw[zcd,zeu]
 lia
def qbg(K:zae):V->Option Int->Option Int->Hp->VK->Prop:=λx lo hi H Q=>∃a xs,x=.ref a/\SqT K H a xs /\
 ¬ (HT.sIx xs.length 0 lo=0/\HT.sIx xs.length xs.length hi=xs.length)/\∀p,H p=cb->Q (.ref p) (upd H p<|.tup<|u6 xs lo hi)
def Y4:SlR X<|qbg X.K:=by
 intro pins s σ H x v vl Y lo hi sl Q I U hs W N h;obtain⟨a,xs,rfl,hx,hw,q⟩:=h;cases U;obtain⟨F,r,J,G⟩:=I.tuple hx;have z:F.toArray.size=xs.length:=by rw[zaw];exact r.length.symm
 refine⟨"tuple",_,PyProof.Rows.slot_tuple_getitem.lookup,J.typeIs,?_⟩;refine HT.lY J hs W N (by rw[z];exact hw) ?_ (by rw[z];exact G);rw[z];refine⟨.ref s.heap.objs.size,_,I.laid (t':=s.toks) (o:=.tup<|u6 xs lo hi) (λb ob q=>zam _ q) (zaj _) ?_,rfl,q _<|I.hok.fresh<|zaj _⟩;exact⟨zaO (oG xs lo hi) G,_,(r.drop<|HT.sIx xs.length 0 lo).take<|HT.sIx xs.length xs.length hi-HT.sIx xs.length 0 lo,IsTupN.new _ _⟩
def qch(K:zae):R2:=λx y H Q=>∃a b ns ms,x=.ref a/\y=.ref b/\SqT K H a (ns.map V.int)/\SqT K H b (ms.map V.int)/\Q (.bl<|HT.lexLt ns ms) H
def Y9(hu:X.A.units<cLine):OpR X (zaC .Lt)<|qch X.K:=by
 intro pins s σ H x y v u Q I W Y h;obtain⟨a,b,ns,ms,rfl,rfl,J,U,q⟩:=h;cases W;cases Y;obtain⟨F,r1,N,_⟩:=I.tuple J;obtain⟨z,r2,p2,_⟩:=I.tuple U;have G:zbm F.toArray.toList ns:=intsAre_of r1;have i2:zbm z.toArray.toList ms:=intsAre_of r2;exact HT.CV N p2 G i2 hu ⟨.bl<|HT.lexLt ns ms,H,I,rfl,q⟩
def qw(K:zae):R2:=λx y H Q=>∃a b xs ys,x=.ref a/\y=.ref b/\SqT K H a xs/\SqT K H b ys/\xs≠[]/\xs.length+ys.length<=zai /\
 (ys=[]->Q (.ref a) H)/\(ys≠[]->∀p,H p=cb->Q (.ref p) (upd H p<|.tup<|xs++ys))
def Vals.nil_iff(r:Vals xs us):us=[]↔xs=[]:=by
 cases r with
 |nil=>simp
 |cons _ _=>simp
def S8:OpR X (zaQ .Add)<|qw X.K:=by
 intro pins s σ H x y v u Q I W Y h;obtain⟨a,b,xs,ys,rfl,rfl,J,U,hx,G,q1,q2⟩:=h;cases W;cases Y;obtain⟨ab,r1,N,_⟩:=I.tuple J;obtain⟨F,r2,p2,_⟩:=I.tuple U;refine HT.R8 N p2 (λz=>hx<|r1.nil_iff.mp z) (λz=>⟨.ref a,H,I,rfl,q1<|r2.nil_iff.mp z⟩) (λz=>?_) (by rw[<- r1.length,<- r2.length];exact G);refine⟨.ref s.heap.objs.size,_,I.laid (t':=s.toks) (o:=.tup<|xs++ys) (λb ob q=>zam _ q) (zaj _) ?_,rfl,q2 (λw=>z<|r2.nil_iff.mpr w) _<|I.hok.fresh<|zaj _⟩;exact⟨by rw[zbk];exact G,_,r1.append r2,IsTupN.new _ _⟩
end
def K8(n:Nat)(i:Int):Option Nat:=if 0<=i then(if i<n then bx i.toNat else cb)else if -(n:Int)<=i then bx (i+n).toNat else cb
def gC{α:Type}(xs:List α)(i:Int):Option α:=(K8 xs.length i).bind λj=>xs[j]?
def HE(h:K8 n i=bx j):seqIndex? i n=bx j/\j<n/\-(n:Int)<=i/\i<n:=by
 unfold K8 at h;by_cases h0:0<=i
 .rw[ck h0]at h
  by_cases h1:i<n
  .rw[ck h1]at h
   have e:i.toNat=j:=zay h;exact⟨by rw[seqIndex_of h0 h1,e],by lia,by lia,h1⟩
  .rw[cq h1]at h;cases h
 .rw[cq h0]at h
  by_cases h1:-(n:Int)<=i
  .rw[ck h1]at h
   have e:(i+n).toNat=j:=zay h;exact⟨by rw[seqIndex_neg (by lia) h1,e],by lia,h1,by lia⟩
  .rw[cq h1]at h;cases h
def yD{q:Type}{xs:List q}{i:Int}{v:q}(h:gC xs i=bx v):∃j,seqIndex? i xs.length=bx j/\xs[j]?=bx v/\j<xs.length/\-(xs.length:Int)<=i/\i<xs.length:=by
 unfold gC at h;cases e:K8 xs.length i with
 |none=>rw[e]at h;cases h
 |some j=>
  rw[e]at h;obtain⟨h1,h2,z,F⟩:=HE e;exact⟨j,h1,h,h2,z,F⟩
def bS{q:Type}{xs:List q}{j:Nat}{v:q}(h:xs[j]?=bx v):gC xs (j:Int)=bx v:=by
 have z:j<xs.length:=(List.getElem?_eq_some_iff.mp h).1;have e:K8 xs.length (j:Int)=bx j:=by
  unfold K8;rw[ck<|by lia,ck<|by lia];simp
 unfold gC;rw[e];exact h
def xX(b:Expr):Prop:=∀o i,zdG b ci o i=operate [o,i] (zbD o i)
def IxR(X:Cx)(r:R2):Prop:=
 ∀(value slice:Expr) (pins:List<|Addr×Obj) (s:zab) (σ:St) (H:Hp) (x y:V) (v u:Value) (Q:VK),Inv X pins σ H s->RelV x v->RelV y u->r x y H Q->
  zdG slice ci v u=operate [v,u] (zbD v u)->wpAny (model X.prog X.w) X.A (subscriptTail value slice v u) (EP X pins σ Q) X.xe s
def MtR(X:Cx)(id:String)(r:V->List V->Hp->VK->Prop):Prop:=
 ∀(pins:List<|Addr×Obj) (s:zab) (σ:St) (H:Hp) (x:V) (xs:List V) (v:Value) (us:List Value) (Q:VK),Inv X pins σ H s->RelV x v->Vals xs us->r x xs H Q->
  wpAny (model X.prog X.w) X.A (call (.builtin id)<|v::us) (EP X pins σ Q) X.xe s
section
variable {X:Cx}{a b:Expr}{ta tb:TE}{pos:Pos}
def IxR.or(h:IxR X r)(h':IxR X r'):IxR X λx y H Q=>r x y H Q\/r' x y H Q:=by
 intro value z pins s σ H x y v u Q I F G q hs;rcases q with q|q
 .exact h value z pins s σ H x y v u Q I F G q hs
 .exact h' value z pins s σ H x y v u Q I F G q hs
def qaj(U:IxR X r)(z:PE X a ta)(F:PE X b tb)(hs:xX b):PE X (.Subscript a b pos)<|tOp r ta tb:=by
 intro pins s σ H Q I h;exact Subscript_<|ZU z F I h λv u W x y H2 G N J q=>U a b pins W σ H2 x y v u Q G N J q<|hs _ _
def qa3(K:zae):R2:=λx y H Q=>∃p xs i v,x=.ref p/\y=.int i/\SqL K H p xs/\gC xs i=bx v/\Q v H
def qa9(K:zae):R2:=λx y H Q=>∃p xs i v,x=.ref p/\y=.int i/\SqT K H p xs/\gC xs i=bx v/\Q v H
def qbb:R2:=λx y H Q=>∃z i c,x=.str z/\y=.int i/\z.length<=zai/\gC z.cps.toList i=bx c/\Q (.str ⟨#[c]⟩) H
def S3:IxR X<|qa3 X.K:=by
 intro value U pins s σ H x y v u Q I rx ry h hs;obtain⟨p,xs,i,z,rfl,rfl,Y,he,q⟩:=h;cases rx;obtain⟨t,rfl⟩:=ry;obtain⟨J,r,N,hz⟩:=I.list Y;obtain⟨j,h1,h2,h3,h4,h5⟩:=yD he;obtain⟨w,W,G⟩:=r.get h2;have hl:=r.length;have hn:=tV;have fin:EP X pins σ Q w s:=⟨z,H,I,G,q⟩;by_cases h0:0<=i
 .have F:i.toNat=j:=by
   rw[seqIndex_of h0 h5]at h1;exact zay h1
  exact item_listR N.isList h0 (by lia) (by rw[F];simpa using W) fin hs
 .have F:(i+(J.toArray.size:Int)).toNat=j:=by
   rw[seqIndex_neg (by lia) h4]at h1;rw[zaw,<- hl];exact zay h1
  exact subscriptTail_builtinR (x:=w) N.isList.typeIs slot_list_getitem.lookup
   (wpAny_getItem_list_neg (Q:=λr s'=>r=w/\EP X pins σ Q r s') N.isList (by lia) (by rw[zaw] <;> lia) (by lia) (by rw[F];simpa using W) ⟨rfl,fin⟩) hs
def Y3:IxR X<|qa9 X.K:=by
 intro value G pins s σ H x y v u Q I U W h hs;obtain⟨p,xs,i,z,rfl,rfl,N,he,q⟩:=h;cases U;obtain⟨t,rfl⟩:=W;obtain⟨ab,r,J,hz⟩:=I.tuple N;obtain⟨j,h1,h2,h3,h4,h5⟩:=yD he;obtain⟨w,ew,F⟩:=r.get h2;have Y:=r.length;have hn:=tV;have fin:EP X pins σ Q w s:=⟨z,H,I,F,q⟩;exact subscriptTail_builtinR (x:=w) J.typeIs slot_tuple_getitem.lookup
  (getItem_tuple (j:=j) (Q:=λr s'=>r=w/\EP X pins σ Q r s') J (by lia) (by lia) (by rw[zaw,<- Y];exact h1) (by simpa using ew) ⟨rfl,fin⟩) hs
def W9:IxR X qbb:=by
 intro value F pins s σ H x y v u Q I J U h hs;obtain⟨z,i,c,rfl,rfl,hz,W,q⟩:=h;obtain⟨t,rfl⟩:=J;obtain⟨t',rfl⟩:=U;obtain⟨j,h1,h2,h3,h4,Y⟩:=yD W;have N:z.cps.toList.length=z.length:=by simp[Str.length]
 rw[N]at h1 h4 Y;have hn:=tV;exact tail_any (typeIs_str s z t) slot_str_getitem.lookup (getItem_str (c:=c) (by
  have G:decide (i < -(2^63:Int))=ci:=decide_eq_false (by lia);have e2:decide (i ≥ 2^63)=ci:=decide_eq_false (by lia);rw[G,e2,Bool.or_false]) (by rw[h1];simpa using h2) ⟨.str ⟨#[c]⟩,H,I.tok _,⟨_,rfl⟩,q⟩) hs
def rIx(K:zae):R2:=λx y H Q=>qa3 K x y H Q\/qa9 K x y H Q\/qbb x y H Q
def W6:IxR X<|rIx X.K:=S3.or<|Y3.or W9
def DF(q:List Value)(n j:Nat)(u:Value):zdb (·.setIfInBounds j u) {cls:=.type "list",data:=.seq q.toArray n}={cls:=.type "list",data:=.seq (q.set j u).toArray n}:=by
 simp[zdb]
theorem Inv.lst{pins:List (Addr×Obj)}{σ:St}{H:Hp}{s:zab}{p:Addr}{xs:List V}(I:Inv X pins σ H s)(h:H p=bx (.lst xs)) :
  ∃(q:List Value) (n:Nat),Vals xs q/\s.heap.get? p=bx {cls:=.type "list",data:=.seq q.toArray n}/\xs.length<=zai:=by
 obtain⟨z,q,n,r,e⟩:=I.hok p _ h;exact⟨q,n,r,e,z⟩
def Inv.lstUpd{pins:List (Addr×Obj)}{xs ys:List V}{z its':List Value}{n F:Nat}{f:Obj->Obj}(I:Inv X pins σ H s)(h:H p=bx (.lst xs))
  (J:s.heap.get? p=bx {cls:=.type "list",data:=.seq z.toArray n}) (G:f {cls:=.type "list",data:=.seq z.toArray n}={cls:=.type "list",data:=.seq its'.toArray F}) (r:Vals ys its') (U:ys.length<=zai) (t:Nat) :
  Inv X pins σ (upd H p<|.lst ys) {s with heap:=s.heap.update p f,toks:=t}:=by
 have e:(s.heap.update p f).get? p=bx {cls:=.type "list",data:=.seq its'.toArray F}:=by
  rw[zdc f J (by rw[G] <;> rfl),G]
 refine I.write (x:=p) (e:=p) (by rw[h];trivial) (.inl rfl) (λb u N q=>(zcN _ _<|zaI N).trans q) ⟨_,e⟩ ?_;exact⟨U,its',F,r,e⟩
def qai:V->V->V->Hp->(Hp->Prop)->Prop:=λo i v H Q=>∃p xs k j,o=.ref p/\i=.int k/\H p=bx (.lst xs)/\K8 xs.length k=bx j/\Q (upd H p<|.lst<|xs.set j v)
def set_list:U0 X qai:=by
 intro pins s σ H o i v ov iv u Q I ro ri rv h;obtain⟨p,xs,k,j,rfl,rfl,U,hj,q⟩:=h;cases ro;obtain⟨t,rfl⟩:=ri;obtain⟨z,n,r,F,hz⟩:=I.lst U;obtain⟨h1,h2,Y,h4⟩:=HE hj;have J:=r.length;have hn:=tV;have N:Inv X pins σ (upd H p<|.lst<|xs.set j v) {s with heap:=s.heap.update p (zdb (·.setIfInBounds j u))}:=
  I.lstUpd U F (DF z n j u) (r.set rv j) (by rw[zce];exact hz) s.toks
 by_cases h0:0<=k
 .have G:k.toNat=j:=by
   rw[seqIndex_of h0 h4]at h1;exact zay h1
  exact PySem.W.ki_setAt F h0 (by lia) (by rw[zaw,<- J];exact h4)<|by rw[G];exact⟨_,N,q⟩
 .have G:(k+(z.toArray.size:Int)).toNat=j:=by
   rw[seqIndex_neg (by lia) Y]at h1;rw[zaw,<- J];exact zay h1
  exact PySem.W.ki_setBack F (by lia) (by rw[zaw,<- J];exact Y) (by lia)<|by rw[G];exact⟨_,N,q⟩
def wZ(lo hi:Option Int)(n:Nat):(zbS lo hi cb n).1=((HT.sIx n 0 lo:Nat):Int)/\(zbS lo hi cb n).2.1=((HT.sIx n n hi:Nat):Int)/\(zbS lo hi cb n).2.2=1:=by
 refine⟨?_,?_,rfl⟩
 .cases lo with
  |none=>simp[zbS,HT.sIx]
  |some i=>
   simp only[zbS,HT.sIx,Option.getD_none,show(1:Int)>0 by decide,if_true];by_cases h:i<0
   .simp only[h,if_true] <;> lia
   .simp only[h,if_false] <;> lia
 .cases hi with
  |none=>simp[zbS,HT.sIx]
  |some i=>
   simp only[zbS,HT.sIx,Option.getD_none,show(1:Int)>0 by decide,if_true];by_cases h:i<0
   .simp only[h,if_true] <;> lia
   .simp only[h,if_false] <;> lia
def u4(q:List Value)(lo hi:Option Int):slicePick q.toArray lo hi cb=((q.drop<|HT.sIx q.length 0 lo).take<|HT.sIx q.length q.length hi-HT.sIx q.length 0 lo).toArray:=by
 obtain⟨h1,h2,z⟩:=wZ lo hi q.toArray.size;unfold slicePick;rw[h1,h2,z];simp only[sliceRange_one,pick_run,zaw] <;> rfl
def qcu(K:zae):V->Option Int->Option Int->Hp->VK->Prop:=λx lo hi H Q=>∃a xs,x=.ref a/\SqL K H a xs/\∀p,H p=cb->Q (.ref p) (upd H p<|.lst<|u6 xs lo hi)
def Q1:SlR X<|qcu X.K:=by
 intro pins s σ H x v vl Y lo hi sl Q I J hs W G h;obtain⟨a,xs,rfl,hx,q⟩:=h;cases J;obtain⟨U,r,F,N⟩:=I.list hx;have z:=r.length;refine⟨"list",_,slot_list_getitem.lookup,F.isList.typeIs,?_⟩;refine wpAny_getItem_list_slice F.isList hs W G .none (by simp) ?_ (by rw[zaw] <;> lia);rw[u4,<- z];refine⟨.ref s.heap.objs.size,_,I.laid (t':=s.toks) (o:=.lst<|u6 xs lo hi) (λb ob q=>zam _ q) (zaj _) ?_,rfl,q _<|I.hok.fresh<|zaj _⟩;exact⟨zaO (oG xs lo hi) N,_,0,(r.drop<|HT.sIx xs.length 0 lo).take<|HT.sIx xs.length xs.length hi-HT.sIx xs.length 0 lo,zaF _ rfl⟩
def w4:OpR X (zaC .NotIn) λx y H Q=>∃i j,x=.str i/\y=.str j/\Q (.bl<|!(!(Builtin.Str.occurrences j i 0 j.length 1).isEmpty)) H:=by
 intro pins s σ H x y v u Q I z F h;obtain⟨i,j,rfl,rfl,q⟩:=h;obtain⟨t,rfl⟩:=z;obtain⟨t',rfl⟩:=F;exact notIn_str ⟨.bl _,H,I,rfl,q⟩
def xA:CallR X (.type "list") λxs H Q=>∃p ys,xs=[.ref p]/\(SqL X.K H p ys\/SqT X.K H p ys)/\∀l,H l=cb->Q (.ref l) (upd H l<|.lst ys):=by
 intro pins s σ H xs us Q I r h;obtain⟨p,ys,rfl,J,q⟩:=h;obtain⟨u,rfl,rx⟩:=vals1 r;cases rx;have fin:∀(z:List Value),Vals ys z->ys.length<=zai->∀(h':Heap) (F:Nat),(∀b o',s.heap.get? b=bx o'->h'.get? b=bx o')->
   h'.get? s.heap.objs.size=bx {cls:=.type "list",dict:=cb,data:=.seq z.toArray F,slots:=#[]}->EP X pins σ Q (.ref s.heap.objs.size) {s with heap:=h'}:=λz G N h' F U e=>
  ⟨.ref s.heap.objs.size,_,I.laid (t':=s.toks) U (zaj _)<|show ObjOk X.prog X.w _ h' _ (.lst ys)from⟨N,z,F,G,e⟩,rfl,q _<|I.hok.fresh<|zaj _⟩
 rcases J with J|J
 .obtain⟨z,G,pl,N⟩:=I.list J
  have W:=G.length;obtain⟨o,Y,hc,n,hd⟩:=pl.isList;exact call_list_seq p (.inl rfl) Y hc hd (λh' F U e=>fin z G N h' F U e)<|by simp only[zaw] <;> lia
 .obtain⟨z,G,pl,N⟩:=I.tuple J
  have W:=G.length;obtain⟨o,Y,hc,n,hd⟩:=pl;exact call_list_seq p (.inr rfl) Y hc hd (λh' F U e=>fin z G N h' F U e)<|by simp only[zaw] <;> lia
def uW:CallR X (.type "tuple") λxs H Q=>∃p ys,xs=[.ref p]/\((SqL X.K H p ys/\∀l,H l=cb->Q (.ref l) (upd H l<|.tup ys))\/(SqT X.K H p ys/\Q (.ref p) H)):=by
 intro pins s σ H xs us Q I r h;obtain⟨p,ys,rfl,h⟩:=h;obtain⟨u,rfl,rx⟩:=vals1 r;cases rx;rcases h with⟨F,q⟩|⟨F,q⟩
 .obtain⟨z,G,J,U⟩:=I.list F
  have W:=G.length;refine call_tuple_list J.isList (λh' kp=>?_) (by simp only[zaw] <;> lia);have N:Inv X pins σ H {s with heap:=h'}:=I.kept (t':=s.toks) kp;have Y:Inv X pins σ (upd H h'.objs.size<|.tup ys) {s with heap:=h'.push {cls:=.type "tuple",data:=.seq z.toArray} }:=
   N.laid (t':=s.toks) (λb o e=>zam _ e) (zaj _) (show ObjOk X.prog X.w _ _ _ (.tup ys)from⟨U,z,G,IsTupN.new _ _⟩)
  exact⟨.ref h'.objs.size,_,Y,rfl,q _<|N.hok.fresh<|zaj _⟩
 .obtain⟨z,G,J,U⟩:=I.tuple F
  exact call_tuple_same J ⟨.ref p,H,I,rfl,q⟩
def tyV(K:zae)(T:String)(x:V)(H:Hp):Prop:=match x with
 |.str _=>T = "str"
 |.int _=>T = "int"
 |.ref p=>(T = "list" /\ ∃xs,SqL K H p xs)\/(T = "tuple" /\ ∃o,K.lookup p=bx o/\o.cls=.type "tuple" /\ o.dict=cb) \/
   (T = "dict" /\ ((∃kvs,H p=bx (.dK kvs))\/∃kvs,H p=bx (.dT kvs)))\/(T = "set" /\ ∃S n,H p=bx (.set S n))
 |_=>False
def Y8(I:Inv X pins σ H s)(r:RelV x v)(ty:tyV X.K T x H) :
  s.TypeIs v T/\∀a,v=.ref a->∃ob,s.heap.get? a=bx ob/\ob.dict=cb:=by
 cases x with
 |str z=>
  obtain⟨t,rfl⟩:=r;cases(show T = "str" from ty);exact⟨typeIs_str s z t,λ_ e=>nomatch e⟩
 |int i=>
  obtain⟨t,rfl⟩:=r;cases(show T = "int" from ty);exact⟨typeIs_int s i t,λ_ e=>nomatch e⟩
 |ref p=>
  cases r;rcases ty with⟨rfl,xs,J⟩|⟨rfl,o,q,U,hd⟩|⟨rfl,q⟩|⟨rfl,S,n,q⟩
  .obtain⟨N,_,G,_⟩:=I.list J
   refine⟨G.isList.typeIs,λa e=>?_⟩;cases e;obtain⟨o,n,e,c,hd,_⟩:=G;exact⟨o,e,hd⟩
  .refine⟨⟨o,I.kIn p o q,U⟩,λa e=>?_⟩
   cases e;exact⟨o,I.kIn _ o q,hd⟩
  .have z:∃o,s.heap.get? p=bx o/\o.ExactDict:=by
    rcases q with⟨kvs,q⟩|⟨kvs,q⟩
    .obtain⟨_,_,_,_,o,_,_,e,ex,_⟩:=I.hok p _ q
     exact⟨o,e,ex⟩
    .obtain⟨_,_,_,_,o,_,_,e,ex,_⟩:=I.hok p _ q
     exact⟨o,e,ex⟩
   obtain⟨o,e,ex⟩:=z;refine⟨⟨o,e,ex.1⟩,λa F=>?_⟩;cases F;exact⟨o,e,ex.2.1⟩
  .obtain⟨o,_,_,_,e,ex,_⟩:=I.hok p _ q
   refine⟨⟨o,e,ex.1⟩,λa F=>?_⟩;cases F;exact⟨o,e,ex.2.1⟩
 |_=>exact zaP ty
def tBM(K:zae)(T:String)(r:V->List V->Hp->VK->Prop)(to:TE)(t:TA):TE:=λσ H Q=>to σ H λx H1=>tyV K T x H1/\t σ H1 λxs H2=>r x xs H2 Q
variable {o e:Expr}{es:List Expr}{to:TE}{t:TA}{name:Str}{apos cpos:Pos}{T id:String}{r:V->List V->Hp->VK->Prop}
def B0(pa:PlainAttrs T)(J:Slot T name id)(N:typeOf (.builtin id)=pure (.type "method_descriptor"))(hm:MtR X id r)(ho:PE X o to)(Y:PA X (e::es) t)
  (z:zaW o name X.env (eval o X.env)=eval o X.env:=by rfl)
  (G:((zaG cpos<|zaf (e::es) X.env).all (λx => !x.1) && (backToKw cpos<|keywordEach [] X.env).all (λx => x.1.isSome)
   && decide ((e::es).length+([]:List Keyword).length+(if([]:List Keyword).isEmpty then 0 else 1)<30))=cf:=by rfl)
  (F:(apos.endLine == cpos.line)=cf:=by rfl) (hs:zaf (e::es) X.env=(ci,eval e X.env)::zaf es X.env:=by rfl) (q:(zaG cpos<|zaf es X.env).any (·.1)=ci:=by rfl) :
  PE X (.Call (.Attribute o name apos) (e::es) [] cpos) (tBM X.K T r to t):=by
 intro pins s σ H Q I h;refine wpAny_Call_method_late z G F rfl<|cP (ho pins s σ H _ I h) λv s1 ⟨x,H1,U,r1,ty,q1⟩=>?_;obtain⟨h1,h2⟩:=Y8 U r1 ty;refine⟨T,id,pa,J,N,h1,h2,?_⟩;have W:=Y cpos pins s1 σ H1 _ U q1;rw[hs]at W ⊢;refine Calls.callWith_builtin (by show(ci || (zaG cpos<|zaf es X.env).any (·.1))=ci;rw[q] <;> rfl)<|Calls.evalArgs_plain ?_;exact cP W λus s2 ⟨vs,H2,I2,r2,q2⟩=>hm pins s2 σ H2 x vs v us Q I2 r1 r2 q2
end
def MtM(X:Cx)(id:String)(r:V->List V->Hp->VK->Prop):Prop:=
 ∀(pins:List<|Addr×Obj) (s:zab) (σ:St) (H:Hp) (x:V) (xs:List V) (v:Value) (us:List Value) (Q:VK),Inv X pins σ H s->RelV x v->Vals xs us->r x xs H Q->
  wpAny (model X.prog X.w) X.A (call (.builtin id)<|v::us) (EP X pins σ Q) X.xe s
def Vals.one:∀ {x:V} {us:List Value},Vals [x] us->∃u,us=[u]/\RelV x u
 |_,_,.cons r .nil=>⟨_,rfl,r⟩
section
variable {X:Cx}{pins:List (Addr×Obj)}{σ:St}{H:Hp}{s:zab}{l b:Addr}{xs ys zs:List V}
def Inv.lset{z its':List Value}{n:Nat}{f:Array Value->Array Value}{t':Nat}(I:Inv X pins σ H s)(J:H l=bx (.lst xs))
  (e:s.heap.get? l=bx {cls:=.type "list",data:=.seq z.toArray n}) (G:f z.toArray=its'.toArray) (W:Vals ys its') (N:ys.length<=zai) :
  Inv X pins σ (upd H l<|.lst ys) {s with heap:=s.heap.update l<|zdb f,toks:=t'}:=by
 have q:=PySem.IsL.update e f;rw[G]at q;refine I.write (x:=l) (e:=l) (by rw[J];exact trivial) (.inl rfl) (λY u F U=>(zcN s.heap (zdb f)<|zaI F).trans U) ⟨_,q⟩ ?_;exact⟨N,its',_,W,q⟩
def Inv.lnew(I:Inv X pins σ H s)(F:Vals ys its)(z:ys.length<=zai) :
  Inv X pins σ (upd H s.heap.objs.size<|.lst ys) {s with heap:=s.heap.push {cls:=.type "list",data:=.seq its.toArray},toks:=t'}:=
 I.laid (λ_ _ q=>zam _ q) (zaj _) ⟨z,its,0,F,zaF _ rfl⟩
theorem Inv.fresh(I:Inv X pins σ H s):H s.heap.objs.size=cb:=I.hok.fresh<|zaj _
def Inv.lstM(I:Inv X pins σ H s)(F:H l=bx (.lst xs)):xs.length<=zai/\∃(q:List Value) (n:Nat),Vals xs q/\xs.length=q.length/\s.heap.get? l=bx {cls:=.type "list",data:=.seq q.toArray n}:=by
 obtain⟨z,q,n,r,e⟩:=I.hok l _ F;exact⟨z,q,n,r,r.length,e⟩
def MS(h:n<=zai):zex n=ci:=by
 unfold zex;exact decide_eq_false<|by lia
end
section
variable {X:Cx}
def FJ:V->List V->Hp->VK->Prop:=λx vs H Q=>∃l xs y,x=.ref l/\vs=[y]/\H l=bx (.lst xs)/\xs.length<zai/\Q .non (upd H l<|.lst<|xs++[y])
def wA:MtM X "list.append" FJ:=by
 intro pins s σ H x vs v us Q I N U h;obtain⟨l,xs,y,rfl,rfl,J,hz,q⟩:=h;cases N;obtain⟨u,rfl,W⟩:=U.one;obtain⟨z,G,n,r,Y,e⟩:=I.lstM J;refine zdd F.slot_list_append ⟨_,e,rfl⟩ F.entry_list_append (F.args_list_append_2 _ _) (PySem.list_append l G.toArray n u<|by rw[zaw];lia) ⟨e,?_⟩;refine⟨.non,_,I.lset (its':=G++[u]) J e (by simp) (r.append<|.cons W .nil) ?_,rfl,q⟩;rw[zbk,List.length_singleton]
 lia
end
section
variable {κ:Type}[DecidableEq κ]
def nK(kvs:List<|κ×V)(k:κ):Option V:=(kvs.find? λq=>decide (q.1=k)).map (·.2)
def putK(kvs:List<|κ×V)(k:κ)(v:V):List<|κ×V:=
 if(kvs.any λq=>decide (q.1=k))=cf then kvs.map (λq=>if q.1=k then(q.1,v)else q)else kvs++[(k,v)]
def mW{p:κ×V}{r:List (κ×V)}{k:κ}(e:p.1=k):nK (p::r) k=bx p.2:=by simp[nK,zbF,e]
def mU{p:κ×V}{r:List (κ×V)}{k:κ}(e:¬ p.1=k):nK (p::r) k=nK r k:=by simp[nK,zbF,e]
theorem AN(k:κ):∀kvs:List (κ×V),(kvs.any λq=>decide (q.1=k))=(nK kvs k).isSome
 |[]=>rfl
 |p::r=>by
  rw[zcf];by_cases e:p.1=k
  .simp only[mW e,decide_eq_true e,Bool.true_or,Option.isSome_some]
  .rw[mU e,decide_eq_false e,Bool.false_or];exact AN k r
def fJ(kvs:List<|κ×V)(k:κ)(v:V):(putK kvs k v).length<=kvs.length+1:=by
 unfold putK;split
 .rw[zak];lia
 .rw[zbk,zaA,zbP];lia
def RelO.isSome_eq(r:RelO o u):o.isSome=u.isSome:=by
 cases o with
 |none=>cases u with
  |none=>rfl
  |some _=>exact(show False from r).elim
 |some _=>cases u with
  |none=>exact(show False from r).elim
  |some _=>rfl
def KV.val(r:KV kvs vs)(k:κ):RelO (nK kvs k)<|zcs vs k:=by
 unfold KV at r;induction r with
 |nil=>exact za4
 |@cons p q ps qs h t ih=>
  obtain⟨h1,h2⟩:=h;by_cases e:p.1=k
  .have F:q.1=k:=h1.symm.trans e
   have b:zcs (q::qs) k=bx q.2:=by simp[zcs,zbF,F]
   rw[mW e,b];exact h2
  .have F:¬ q.1=k:=λz=>e (h1.trans z)
   have b:zcs (q::qs) k=zcs qs k:=by simp[zcs,zbF,F]
   rw[mU e,b];exact ih
theorem KV.any(r:KV kvs vs)(k:κ):(kvs.any λq=>decide (q.1=k))=vs.any λq=>decide (q.1=k):=by
 unfold KV at r;induction r with
 |nil=>rfl
 |cons h t ih=>rw[zcf,zcf,ih,h.1]
def KV.repl(r:KV kvs vs)(k:κ)(G:RelV y u) :
  KV (kvs.map λF=>if F.1=k then(F.1,y)else F) (vs.map λF=>if F.1=k then(F.1,u)else F):=by
 unfold KV at r ⊢;induction r with
 |nil=>exact .nil
 |@cons p q ps qs h t ih=>
  rw[zan,zan];refine .cons ?_ ih;obtain⟨h1,h2⟩:=h;by_cases e:p.1=k
  .rw[ck e,ck<|h1.symm.trans e];exact⟨h1,G⟩
  .rw[cq e,cq λz=>e<|h1.trans z];exact⟨h1,h2⟩
def KV.put(r:KV kvs vs)(k:κ)(q:RelV y u):KV (putK kvs k y)<|stored vs k u:=by
 unfold putK stored;rw[r.any k];by_cases e:(vs.any λz=>decide (z.1=k))=cf
 .rw[ck e,ck e];exact r.repl k q
 .rw[cq e,cq e];exact Paired.snoc r ⟨rfl,q⟩
theorem KV.length(r:KV kvs vs):kvs.length=vs.length:=zc2 r
end
def wR(r:RelV (kV k) u):(bA P w).is k u=cf:=by
 cases k with
 |inl i=>obtain⟨t,e⟩:=(show ∃t,u=zcC i t from r);subst e;exact zU P w i t
 |inr x=>obtain⟨t,e⟩:=(show ∃t,u=zc1 x t from r);subst e;exact zT P w x t
theorem vH:∀ {ks:List Key} {us:List Value},Vals (ks.map kV) us->ItemsAre (bA P w) ks us
 |[],_,r=>by rw[zcM]at r;cases r;exact .nil
 |k::ks,_,r=>by
  rw[zan]at r;cases r with
  |cons h t=>exact .cons (wR h)<|vH t
abbrev KT(H:Hp):List (List Key×V)->List (List Key×Addr×Value)->Prop:=Paired λp q=>p.1=q.1/\H q.2.1=bx (.tup<|p.1.map kV)/\RelV p.2 q.2.2
def KT.val(r:KT H kvs xs)(k:List Key):RelO (nK kvs k)<|(atKey xs k).map (·.2):=by
 induction r with
 |nil=>exact za4
 |@cons p q ps qs h t ih=>
  obtain⟨h1,_,h2⟩:=h;by_cases e:p.1=k
  .have F:q.1=k:=h1.symm.trans e
   have b:atKey (q::qs) k=bx q.2:=by simp[atKey,zbF,F]
   rw[mW e,b];exact h2
  .have F:¬ q.1=k:=λz=>e (h1.trans z)
   have b:atKey (q::qs) k=atKey qs k:=by simp[atKey,zbF,F]
   rw[mU e,b];exact ih
def KT.repl(r:KT H kvs xs)(k:List Key)(G:RelV y u) :
  KT H (kvs.map λF=>if F.1=k then(F.1,y)else F) (xs.map<|putAt k u):=by
 induction r with
 |nil=>exact .nil
 |@cons p q ps qs h t ih=>
  rw[zan,zan];refine .cons ?_ ih;obtain⟨h1,h2,J⟩:=h;unfold putAt;by_cases e:p.1=k
  .rw[ck e,ck<|h1.symm.trans e];exact⟨h1,h2,G⟩
  .rw[cq e,cq λz=>e<|h1.trans z];exact⟨h1,h2,J⟩
def KT.put(r:KT H kvs xs)(k:List Key)(F:H b=bx (.tup<|k.map kV))(z:RelV y u) :
  KT H (putK kvs k y) (storedH xs k b u):=by
 have e:(kvs.any λG=>decide (G.1=k))=(atKey xs k).isSome:=by
  rw[AN,(r.val k).isSome_eq,Option.isSome_map]
 unfold putK storedH;rw[e];by_cases q:(atKey xs k).isSome=cf
 .rw[ck q,ck q];exact r.repl k z
 .rw[cq q,cq q];exact Paired.snoc r ⟨rfl,F,z⟩
def KT.keeps(r:KT H kvs xs)(q:∀b ys,H b=bx (.tup ys)->H' b=bx (.tup ys)):KT H' kvs xs:=
 Paired.mapP r λ_ _ z=>⟨z.1,q _ _ z.2.1,z.2.2⟩
section
variable {P:zah}{w:World}{H:Hp}{h:Heap}{a:Addr}
def VJ(ok:HOk P w H h)(e:Rd H a u):ObjOk P w H h a u:=e.ok ok
def wM(ok:HOk P w H h)(e:Rd H a<|.dK kvs):kvs.length<=zai/\(a == zbb)=ci/\∃vs,KV kvs vs/\h.DictOf (bA P w) a vs:=
 show ObjOk P w H h a (.dK kvs)from VJ ok e
def V3(ok:HOk P w H h)(e:H a=bx (.dK kvs)):kvs.length<=zai/\(a == zbb)=ci/\∃vs,KV kvs vs/\h.DictOf (bA P w) a vs:=wM ok<|.inl e
def nX(ok:HOk P w H h)(e:H a=bx (.tup<|ks.map kV)):(zb7<|bA P w).is h ks a:=by
 obtain⟨_,q,r,o,h1,h2,n,z⟩:=(show ObjOk P w H h a (.tup<|ks.map kV)from ok a _ e);exact⟨o,q.toArray,n,h1,h2,z.1,by simpa using vH r⟩
def HJ(ok:HOk P w H h)(e:Rd H a<|.dT kvs):kvs.length<=zai/\(a == zbb)=ci /\
  ∃xs,KT H kvs xs/\h.DictOfH (zb7<|bA P w) a xs:=by
 obtain⟨z,y,xs,r,o,es,ep,h1,h2,F,G,J⟩:=(show ObjOk P w H h a (.dT kvs)from VJ ok e);refine⟨z,y,xs,r,o,es,ep,h1,h2,F,G,λx hx=>?_,J⟩;have all:∀ {l:List (List Key×V)} {m:List (List Key×Addr×Value)},KT H l m->∀x∈m,(zb7<|bA P w).is h x.1 x.2.1:=by
  intro l m q;induction q with
  |nil=>intro x hx;exact nomatch hx
  |@cons p q ps qs hq t ih=>
   intro x hx;rcases List.mem_cons.mp hx with e|hx
   .subst e
    exact nX ok<|by rw[<- hq.1];exact hq.2.1
   .exact ih x hx
 exact all r x hx
def V1(ok:HOk P w H h)(e:H a=bx (.dT kvs)):kvs.length<=zai/\(a == zbb)=ci /\
  ∃xs,KT H kvs xs/\h.DictOfH (zb7<|bA P w) a xs:=HJ ok<|.inl e
end
def DGet(H:Hp)(a:Addr)(y:V)(r:Option V):Prop:=
 (∃kvs k,Rd H a (.dK kvs)/\y=kV k/\r=nK kvs k)\/∃kvs k b,Rd H a (.dT kvs)/\y=.ref b/\H b=bx (.tup<|k.map kV)/\r=nK kvs k
def DPut(H:Hp)(a:Addr)(y v:V)(H':Hp):Prop:=
 (∃kvs k,H a=bx (.dK kvs)/\y=kV k/\kvs.length<zai/\H'=upd H a (.dK<|putK kvs k v)) \/
 ∃kvs k b,H a=bx (.dT kvs)/\y=.ref b/\H b=bx (.tup<|k.map kV)/\kvs.length<zai/\H'=upd H a (.dT<|putK kvs k v)
def DPut.k{H:Hp}{a:Addr}{kvs:List (Key×V)}{k:Key}{v:V}(e:H a=bx (.dK kvs))(q:kvs.length<zai):DPut H a (kV k) v<|upd H a<|.dK<|putK kvs k v:=.inl ⟨kvs,k,e,rfl,q,rfl⟩
def DPut.t{H:Hp}{a b:Addr}{kvs:List (List Key×V)}{k:List Key}{v:V}(e:H a=bx (.dT kvs))(z:H b=bx (.tup<|k.map kV))(q:kvs.length<zai) :
  DPut H a (.ref b) v (upd H a<|.dT<|putK kvs k v):=.inr ⟨kvs,k,b,e,rfl,z,q,rfl⟩
section
variable {X:Cx}{pins:List (Addr×Obj)}{σ:St}{H:Hp}{s:zab}{a:Addr}{y v:V}{u r:Value}{o:Option V}{A:zal}{E:Value->zab->Prop}
def Inv.big(I:Inv X pins σ H s):zbb<s.heap.objs.size:=by
 have h:zaK<s.heap.objs.size:=(I.mod.glob.keeps I.bk).lt;exact Nat.lt_trans (by decide) h
def JG(Y:A.units+1<cLine)(I:Inv X pins σ H s)(g:DGet H a y<|bx v)(U:RelV y u)(h:∀G s',Inv X pins σ H s'->RelV v G->Q G s') :
  wpAny (model X.prog X.w) A (zbD (.ref a) u) Q E s:=by
 rcases g with⟨kvs,k,e,N,l⟩|⟨kvs,k,b,e,N,W,l⟩
 .subst N
  obtain⟨z,hd,vs,F,dd⟩:=wM I.hok e;obtain⟨G,hw,q⟩:=RelO.some_of (v:=v) (o:=zcs vs k) (by rw[l];exact F.val k);exact wpAny_getItem_of (wR U) dd.mapOf hw<|h G _ (I.tok _) q
 .subst N
  cases(show u=zap b from U);obtain⟨z,hd,xs,F,dd⟩:=HJ I.hok e;obtain⟨G,hw,q⟩:=RelO.some_of (v:=v) (o:=(atKey xs k).map (·.2)) (by rw[l];exact F.val k);obtain⟨p,hp,J⟩:=Option.map_eq_some_iff.mp hw;refine wpAny_getItem_heap (zey Y) (nX I.hok W) dd hp ?_;rw[J];exact h G _ (I.tok _) q
def RN(U:A.units+1<cLine)(I:Inv X pins σ H s)(g:DGet H a y o)(J:RelV y u)(h:∀s',Inv X pins σ H s'->Q (.bool<|!o.isSome) s') :
  wpAny (model X.prog X.w) A (zaC .NotIn u<|.ref a) Q E s:=by
 rcases g with⟨kvs,k,e,G,l⟩|⟨kvs,k,b,e,G,N,l⟩
 .subst G
  obtain⟨z,hd,vs,F,dd⟩:=wM I.hok e;refine wpAny_notIn_of (wR J) hd dd.mapOf ?_;rw[<- (F.val k).isSome_eq,<- l];exact h _<|I.tok _
 .subst G
  cases(show u=zap b from J);obtain⟨z,hd,xs,F,dd⟩:=HJ I.hok e;refine wpAny_notIn_heap (zey U) (nX I.hok N) hd dd ?_;have q:=(F.val k).isSome_eq;rw[Option.isSome_map]at q;rw[<- q,<- l];exact h _<|I.tok _
def nC(I:Inv X pins σ H s)(J:Mut<|H a)(hs:za6 a s.heap h')(G:∃q,h'.get? a=bx q)(new:ObjOk X.prog X.w (upd H a ob) h' a ob) :
  Inv X pins σ (upd H a ob) {s with heap:=h',toks:=t'}:=
 I.write (x:=a) (e:=a) J (.inl rfl) (λb q F z=>(hs.2 b F).trans z) G new
def PU(z:kvs.length<=zai)(hd:(a == zbb)=ci)(q:KV kvs vs)(dd:h'.DictOf (bA P w) a vs) :
  ObjOk P w H' h' a (.dK kvs):=⟨z,hd,vs,q,dd⟩
def IL(hu:A.units+1<cLine)(I:Inv X pins σ H s)(g:DPut H a y v H')(ry:RelV y u)(rv:RelV v r)(h:∀s',Inv X pins σ H' s'->Q () s') :
  wpAny (model X.prog X.w) A (setItem (.ref a) u r) Q E s:=by
 rcases g with⟨kvs,k,e,W,l,Y⟩|⟨kvs,k,b,e,W,eb,l,Y⟩
 .subst W Y
  obtain⟨z,hd,vs,F,dd⟩:=V3 I.hok e;have U:vs.length<=zai:=by rw[<- F.length];exact z
  have N:(putK kvs k v).length<=zai:=by have:=fJ kvs k v;lia
  refine wpAny_setItem_pairs (hsz:=U) (wR ry) dd λh' G hs=>h _ ?_
  have he:∃q,h'.get? a=bx q:=let ⟨q,_,_,J,_⟩:=G;⟨q,J⟩;exact nC I (by rw[e];exact za4) hs he<|PU N hd (F.put k rv) G
 .subst W Y
  cases(show u=zap b from ry);obtain⟨z,hd,xs,F,dd⟩:=V1 I.hok e;have U:xs.length<=zai:=by rw[<- zc2 F];exact z
  have N:(putK kvs k v).length<=zai:=by have:=fJ kvs k v;lia
  refine wpAny_setItem_heap (hsz:=U) (zey hu) (nX I.hok eb) dd λh' G hs=>h _ ?_
  obtain⟨q,es,ep,J,h2,h3,h4,_,h5⟩:=G;refine nC I (by rw[e];exact za4) hs ⟨q,J⟩ ⟨N,hd,_,(F.put k eb rv).keeps λc ys ec=>?_,q,es,ep,J,h2,h3,h4,h5⟩;rw[aG<|uH ec e λz=>nomatch z];exact ec
end
section
variable {X:Cx}{pins:List (Addr×Obj)}{σ:St}{H:Hp}{s:zab}{a:Addr}{kvs:List (Key×V)}{k:Key}{u:Value}{A:zal}{E:Value->zab->Prop}
def qao(I:Inv X pins σ H s)(e:Rd H a<|.dK kvs)(h:∀t s',Inv X pins σ H s'->Q (.int kvs.length t) s'):wpAny (model X.prog X.w) A (call (.builtin "len") [.ref a]) Q E s:=by
 obtain⟨z,hd,vs,q,dd⟩:=wM I.hok e;refine call_len_dict hd dd (by rw[<- q.length];rw[zc8]at z;lia) ?_;rw[<- q.length];exact h _ _<|I.tok _
end
def K4(i:Expr):Prop:=∀q z,zdG i ci q z=operate [q,z] (zbD q z)
def GC{E:Value->zab->Prop}{T id:String}{Q:Value->zab->Prop}
  (U:typeLookup (.type T) "__getitem__" = pure (bx<|.builtin id)) (hs:K4 slice)
  (h:wpAny (model prog w) A (eval value env) (λo G=>wpAny (model prog w) A (eval slice env) (λi q=>q.TypeIs o T/\wpAny (model prog w) A (zbD o i) Q E q) E G) E s) :
  wpAny (model prog w) A (eval (.Subscript value slice pos) env) Q E s:=by
 refine Subscript_<|zaJ h (λo G N=>zaJ N (λi q z=>?_) λ_ _ x=>x) λ_ _ x=>x;obtain⟨hT,z⟩:=z;unfold subscriptTail;refine zaa ?_;rw[getitemInPython_of_ne hT.not_modules];refine zaa<|zc3 hT U ?_;have fin:wpAny (model prog w) A (zdG slice ci o i) (λr F=>wpAny (model prog w) A (letTemporaryGo value o r >>= λ_=>pure r) Q E F) E q:=by
  rw[hs o i];exact wpAny_operating<|zaJ z (λr F J=>zaa<|wpAny_letTemporaryGo<|zag J) λ_ _ x=>x
 first
  | exact zag<|zaa fin
  | exact zaa<|zag<|zaa fin
  | exact zaa fin
def zQ(I:Inv X pins σ H s)(g:DGet H a y o):s.TypeIs (.ref a) "dict" := by
 rcases g with⟨kvs,k,e,_,_⟩|⟨kvs,k,b,e,_,_,_⟩
 .obtain⟨_,_,vs,_,dd⟩:=wM I.hok e
  exact dd.typeIs
 .obtain⟨_,_,xs,_,dd⟩:=HJ I.hok e
  exact dd.typeIs
def VD(td ty:TE):TE:=λσ H Q=>td σ H λx H1=>ty σ H1 λy H2=>∃a v,x=.ref a/\DGet H2 a y (bx v)/\Q v H2
def qak(td ty tv:TE):TS:=λD σ H=>tv σ H λv H1=>td σ H1 λx H2=>ty σ H2 λy z=>∃a q,x=.ref a/\DPut z a y v q/\D.nx σ q
section
variable {X:Cx}{o i e value:Expr}{pos pos' tpos:Pos}{td ty tv:TE}
def FN(hu:X.A.units+1<cLine)(G:PE X o td)(hi:PE X i ty)(hs:K4 i):PE X (.Subscript o i pos)<|VD td ty:=by
 intro pins s σ H Q I h;refine GC PySem.F.slot_dict_getitem.lookup hs<|cP (G pins s σ H _ I h) λu Y ⟨x,H1,N,U,q1⟩=>cP (hi pins Y σ H1 _ N q1) λiv s2 ⟨y,H2,z,W,a,v,ex,g,q2⟩=>?_;subst ex;obtain rfl:u=zap a:=U;exact⟨zQ z g,JG hu z g W λw' s3 J q=>⟨v,H2,J,q,q2⟩⟩
def yG(N:X.A.units+1<cLine)(W:PE X o td)(hi:PE X i ty)(hv:PE X value tv)(hs:zaz value (bx<|.Subscript o i pos') pos.line X.env=pure ci) :
  PS X (.Assign [.Subscript o i pos'] value pos) (qak td ty tv):=by
 intro pins s σ H D I h;refine wpAny_Assign_Subscript (cP (hv pins s σ H _ I h) λr G ⟨v,H1,q,rv,q1⟩=>cP (W pins G σ H1 _ q q1) λu U ⟨x,H2,I2,rx,J⟩=>cP (hi pins U σ H2 _ I2 J) λiv s3 ⟨y,H3,I3,Y,a,F,ex,g,q3⟩=>?_) hs;subst ex;obtain rfl:u=zap a:=rx;exact IL N I3 g Y rv λs4 z=>⟨σ,F,z,q3⟩
end
def L6(h:Heap)(q:zbb<h.objs.size):ObjOk P w H (h.push {cls:=.type "dict",data:=.dict #[]}) h.objs.size<|.dK []:=
 ⟨zaM _,beq_eq_false_iff_ne.mpr<|zaI<|zaE q,[],.nil,Heap.DictOf.new h⟩
def A7(h:Heap)(q:zbb<h.objs.size):ObjOk P w H (h.push {cls:=.type "dict",data:=.dict #[]}) h.objs.size<|.dT []:=
 ⟨zaM _,beq_eq_false_iff_ne.mpr<|zaI<|zaE q,[],.nil,_,#[],0,zaF _ rfl,⟨rfl,rfl,rfl⟩,rfl,rfl,List.nodup_nil⟩
def WO:TE:=λ_ H Q=>∀p,H p=cb->Q (.ref p) (upd H p<|.dT [])
section
variable {X:Cx}{pos:Pos}
def AE:PE X (.Dict [] [] pos) WO:=λpins s σ H Q I h=>
 wpAny_Dict_empty ⟨.ref s.heap.objs.size,_,I.laid (a:=s.heap.objs.size) (o:=.dT []) (t':=s.toks) (λ_ _ q=>zam _ q) (zaj _)<|A7 s.heap I.big,rfl,h _<|I.hok.fresh<|zaj _⟩
end
def IsD(H:Hp)(a:Addr):Prop:=(∃kvs,Rd H a<|.dK kvs)\/∃kvs,Rd H a<|.dT kvs
end L2
namespace Att
open PySem PySem.W PySem.Calls PyProof.Rows
def pT:∀(ns:List Int) (vs:List Value),WellAll P h vs (ns.map WData.int)->zbm vs ns:=by
 intro ns;induction ns with
 |nil=>
  intro vs w;rw[zcM]at w;cases w;exact .nil
 |cons n ns ih=>
  intro vs w;rw[zan]at w;cases w with
  |cons a b=>
   cases a;exact .cons _ _<|ih _ b
def KJ{l:OpenLaw}{n:Nat}(hn:l.most=bx n){P:Params}{h:Heap}{args:List WData}{z:List Value}
  (F:l.row.toRowW.claim.pre args=cf) (W:WellAll P h z args) :
  ∃a vs ns,z=[zap a]/\args=[WData.list<|ns.map WData.int]/\h.get? a=bx {cls:=.type "list",data:=.seq vs.toArray}/\zbm vs ns/\ns.length<=n:=by
 have U:WShape.hasAll [] args [.list .int]=cf:=(pre_splitW F).1;have Y:l.pre.holds [] {args:=args}=cf:=(pre_splitW F).2;obtain⟨d,r,rfl,h1,h2⟩:=hasAllW_cons U;obtain rfl:=hasAllW_nil h2;obtain⟨xs,rfl,h3⟩:=hasW_list h1;obtain⟨ns,rfl⟩:=items_int h3;have G:ns.length<=n:=by
  unfold OpenLaw.pre at Y;have N:(WTm.not<|.lt (.lit<|.int (n:Int))<|.len<|.arg 0).holds [] {args:=[.list<|ns.map .int]}=cf:=by
   have N:=(holds_andW Y).1;rw[hn]at N;exact N
  have J:=condW_of N<|w_not<|w_lt w_lit<|w_len_list<|w_arg rfl;rw[zak]at J;refine Nat.le_of_not_lt λq=>?_
  have q':(n:Int)<((ns.length:Nat):Int):=by lia
  first
   | (rw[decide_eq_true q']at J;exact absurd J<|by decide)
   | (simp at J;lia)
 cases W with
 |cons w1 w2=>
  cases w2;cases w1 with
  |list ho hall=>exact⟨_,_,ns,rfl,rfl,ho,pT ns _ hall,G⟩
def JR(l:OpenLaw)(args:List WData):l.row.toRowW.claim.post args (.bool cf) args=cf:=
 postW_of (r:=l.row.toRowW) (X:=(cf == cf))
  (show WShape.has [] (.bool cf) .bool=cf by first|rfl|decide|simp[WShape.has,WShape.arms,WShape.armsAll])
  (show(WTm.eq .res<|.lit<|.bool cf).value [] {args:=args,res:=bx<|.bool cf,after:=args}=bx (.bool<|cf == cf)from w_eq_bool (w_res rfl) w_lit) rfl
def zG{l:OpenLaw}{n:Nat}{q:zah}{J:List Str}{XP:(Str->Option Value)->Heap->Prop}{YP:World->Heap->Prop}{d:DefRec}
  (hn:l.most=bx n) (aj:d.params.defaults=[])
  (call:∀(w:World) (F z:zab) (mg mb:Str -> Option Value) (fa:Addr) (o:Obj) (pm cd U:Value) (a:Addr) (vs:List Value) (ns:List Int),
   Ground q J [] XP w F mg mb z.heap->YP w z.heap->
   z.heap.get? fa=bx o->o.data=.func (docDef d.name d.params d.body d.scope pm cd U)->z.heap.CodeRec cd d.name->mg d.name=bx (.ref fa)->
   z.heap.get? a=bx {cls:=.type "list",data:=.seq vs.toArray}->zbm vs ns->ns.length<=n->z.gens=#[]->
   zbs (model l.prog w) zct (.call (.ref fa) ⟨[.ref a],[]⟩) (λr s'=>r=.ok (.ret<|.bool cf)/\OldK z.heap s'.heap/\s'.os=z.os/\zbN s'.gens) z) :
  WalkO q J XP YP l.row.toRowW d [] (λf vs=>PySem.call f vs):=by
 intro w F z mg mb G Y fa o pm cd U dV kV ho hd ai hD ae hg args ak as W an az af ax;obtain rfl:dV=.none:=Dflts.none hD aj;obtain rfl:kV=.none:=Dflts.noKw hD;obtain⟨a,vs,ns,rfl,rfl,aa,N,ac⟩:=KJ hn W af;refine enter_call<|zcp (call w F z mg mb fa o pm cd U a vs ns G Y ho (fd_plain hd) ai ae aa N ac hg) λr s' hq=>?_;obtain⟨rfl,h2,h3,h4⟩:=hq;exact⟨.inl ⟨.bool cf,.bool cf,[],rfl,λ_=>rfl,.bool cf,JR l _,λ_=>⟨zdJ,λ_ hm=>(nomatch hm)⟩⟩,h2,h3,h4⟩
end Att
namespace L2
open PySem PySem.Spec PyProof.Rows
theorem wG:∀ {vs:List Value} {ns:List Int},zbm vs ns->Vals (ns.map V.int) vs
 |_,_,.nil=>.nil
 |_,_,.cons n t h=>.cons ⟨t,rfl⟩<|wG h
def Only(H:Hp):Prop:=∀b,H b=cb\/∃o xs,H b=bx (.frz o<|.lst xs)
def NB{P:zah}{w:World}{K:zae}{mg mb:Str->Option Value}{CX:II}{k:Nat}{fa a:Addr}{fd:zbd}{x:Str}{sp:Sp}{G:zab}{vs:List Value}{ns:List Int}
  (KX:K.In G.heap) (ag:G.heap.Ns zaK mg) (N:G.heap.Ns builtinsNs mb) (al:∀x:Str,x ≠ "__name__" -> mb x=zaL x) (ab:G.heap.NoLimit) (hg:G.gens=#[])
  (ha:G.heap.get? a=bx {cls:=.type "list",data:=.seq vs.toArray}) (hi:zbm vs ns) (hl:ns.length<=zai) (hr:Room k zct)
  (F:∀base:Heap,K.In base->base.Ns zaK mg->FnOk P w K mg base CX k fa fd [x] sp) (Y:∀(s:zab) (u:Value),BindsTo s fd ⟨[u],[]⟩ [(x,u)])
  (hsp:∀H:Hp,Only H->SqL K H a (ns.map V.int)->sp [.ref a] H (λv _=>v=.bl cf) λ_ _ _=>False)
  (ai:∀H e s',CX [] H G (λ_ _ _=>False) e s'->False) :
  zbs (model P w) zct (.call (.ref fa) ⟨[.ref a],[]⟩) (λr s'=>r=.ok (.ret<|.bool cf)/\OldK G.heap s'.heap/\s'.os=G.os/\zbN s'.gens) G:=by
 have rv:=wG hi;have ac:=hi.length
 -- from an abstract heap in which nothing but the script may be tracked
 have W:∀H:Hp,Only H->SqL K H a (ns.map V.int)->HOk P w H G.heap->(∀b,H b≠cb->b=a)->(H a≠cb->K.lookup a=cb)->
   zbs (model P w) zct (.call (.ref fa) ⟨[.ref a],[]⟩) (λr s'=>r=.ok (.ret<|.bool cf)/\OldK G.heap s'.heap/\s'.os=G.os/\zbN s'.gens) G:=by
  intro H hO hS hok hA hK;have J:∀ {b:Addr} {o:Obj},G.heap.get? b=bx o->H b=cb->(y6 G.heap H).get? b=bx o:=λe n=>LX e n
  have ak:∀ {b:Addr} {o:Obj} {es:Array zcu} {ep:Nat},G.heap.get? b=bx o->o.data=.dict es ep->H b=cb:=λ{b o es ep} e d=>by
   cases q:H b with
   |none=>rfl
   |some u=>
    have e':b=a:=hA b (by rw[q];simp);subst e';rw[ha]at e;cases e;have d':Data.seq vs.toArray _=Data.dict es ep:=d;cases d'
  have U:∀ {b:Addr} {m:Str->Option Value},G.heap.Ns b m->(y6 G.heap H).Ns b m:=λ{b m} ⟨o,es,ep,e,d,r⟩=>⟨o,es,ep,J e<|ak e d,d,r⟩
  have ad:K.In<|y6 G.heap H:=λb o e=>J (KX b o e) (by
   cases q:H b with
   |none=>rfl
   |some u=>
    have e':b=a:=hA b (by rw[q];simp);subst e';rw[hK<|by rw[q];simp]at e;cases e)
  have hM:Mod K mg<|y6 G.heap H:=⟨ad,U ag,⟨mb,U N,al⟩,let ⟨mc,h1,h2⟩:=ab;⟨mc,U h1,h2⟩⟩;have e0:Env0 P w K mg (y6 G.heap H) zct [] G H:=⟨rfl,hM,λb o e=>RX e,zc9<|JF _ _,trivial,λb N=>absurd (show b∈([]:List Addr)from N)<|by simp,hok,.of_eq hg⟩;refine zcp ((F _ ad<|U ag).run zct [] G H ⟨[.ref a],[]⟩ [.ref a] [.ref a] _ _ hr e0 (Y G<|.ref a) (.cons rfl .nil)<|hsp H hO hS) λr s' h=>?_
  cases r with
  |error e=>exact(ai H e s' h).elim
  |ok fl=>
   cases fl with
   |next=>exact zaP h
   |brk=>exact zaP h
   |cont=>exact zaP h
   |ret u=>
    obtain⟨v,H',os,aa,un,af,r',q⟩:=h;have q':v=.bl cf:=q;subst q';obtain rfl:u=zbL cf:=r';refine⟨rfl,OldK.of_keep λb o e=>?_,os,aa⟩;cases q:H b with
    |none=>exact un.keep b o e q (by intro z;exact absurd (show b∈([]:List Addr)from z)<|by simp)<|by simp
    |some u=>
     rcases hO b with z|⟨ob,xs,z⟩
     .rw[q]at z;cases z
     .have z2:=un.frzs b ob _ z
      obtain⟨e1,_⟩:=hok b _ z;obtain⟨e2,_⟩:=af b _ z2;rw[e]at e1;cases e1;exact e2
 cases hk:K.lookup a with
 |some o=>
  -- the script is one of the module's own objects
  have e:=KX a o hk;rw[ha]at e;cases e;refine W (λ_=>cb) (λ_=>.inl rfl) (.inr ⟨_,vs.toArray,_,hk,rfl,rfl,rfl,by rw[zaw,ac];exact hl,by simpa using rv⟩) (λb u z=>by have z':(cb:Option HO)=bx u:=z;cases z') (λb z=>absurd rfl z) λz=>absurd rfl z
 |none=>
  refine W (λb=>if b=a then bx (.frz {cls:=.type "list",data:=.seq vs.toArray}<|.lst<|ns.map V.int)else cb) (λb=>?_) (.inl<|.inr ⟨{cls:=.type "list",data:=.seq vs.toArray},ck rfl⟩) (λb u z=>?_) (λb z=>?_) λ_=>hk
  .by_cases N:b=a
   .exact .inr ⟨_,_,ck N⟩
   .exact .inl<|cq N
  .by_cases N:b=a
   .have z':=(ck N).symm.trans z
    cases z';subst N;exact⟨ha,by rw[zak];exact hl,vs,_,rv,ha⟩
   .have z':=(cq N).symm.trans z
    cases z'
  .by_cases N:b=a
   .exact N
   .exact absurd (cq N) z
def T8{l:zez}{n k:Nat}{q:zah}{N:List Str}{XP:(Str->Option Value)->Heap->Prop}{YP:World->Heap->Prop}{d:DefRec}{K:Params->zae}{CX:World->II}{sp:World->Sp}{x:Str}
  (hn:l.most=bx n) (ae:n<=zai) (af:d.params.defaults=[]) (hr:Room k zct)
  (hY:∀(w:World) (h:Heap),YP w h->(K w.params).In h)
  (F:∀(w:World) (mg:Str -> Option Value) (fa:Addr) (h:Heap), (K w.params).In h -> h.Ns zaK mg -> mg d.name = bx (.ref fa) ->
   ∃fd:zbd,(∀(s:zab) (u:Value),BindsTo s fd ⟨[u],[]⟩ [(x,u)]) /\
    ∀base:Heap,(K w.params).In base->base.Ns zaK mg->FnOk l.prog w (K w.params) mg base (CX w) k fa fd [x] (sp w))
  (hsp:∀(w:World) (H:Hp) (a:Addr) (ns:List Int),ns.length<=n->Only H->SqL (K w.params) H a (ns.map V.int)->sp w [.ref a] H (λv _=>v=.bl cf) λ_ _ _=>False)
  (ad:∀(w:World) (H:Hp) (s:zab) (e:Value) (s':zab),CX w [] H s (λ_ _ _=>False) e s'->False) :
  PySem.W.WalkO q N XP YP l.row.toRowW d [] (λf vs=>PySem.call f vs):=by
 refine Att.zG hn af λw ag U mg mb fa o pm cd al a vs ns G Y ho hd an ac aa J z hg=>?_
 have KX:=hY w _ Y;obtain⟨fd,hb,hF⟩:=F w mg fa _ KX G.T.g ac;exact NB KX G.T.g G.T.b G.T.builtins G.T.nolimit hg aa J (zaO z ae) hr hF hb (λH hO hS=>hsp w H a ns z hO hS) λH e s'=>ad w H U e s'
def inClass(s:Stmt)(j:Nat):Stmt:=match s with
 |.ClassDef _ _ _ body _ _ _ _ _ _ _=>body.getD j<|.Pass ⟨0,0,0,0⟩
 |_=>.Pass ⟨0,0,0,0⟩
def eA(s:Stmt):Arguments:=match s with
 |.FunctionDef _ a _ _ _ _ _ _ _ _=>a
 |_=>{posonlyargs:=[],args:=[],vararg:=cb,kwonlyargs:=[],kw_defaults:=[],kwarg:=cb,defaults:=[]}
def bF(s:Stmt):List Stmt:=match s with
 |.FunctionDef _ _ b _ _ _ _ _ _ _=>b
 |_=>[]
def aF(s:Stmt):Scope:=match s with
 |.FunctionDef _ _ _ _ _ _ sc _ _ _=>sc
 |_=>{kind:=.function,names:=[],isGenerator:=ci,isCoroutine:=ci}
abbrev uS:II:=λ_ _ _ _ _ _=>False
abbrev E0:XK:=λ_ _ _=>False
def HP:t9 uS X E0:=λ_ _ _ _ _ _ _ h=>h.elim
structure Fun(K:zae)(x qual:Str)(st:Stmt)(f:Addr)(fd:zbd):Prop where
 ex:∃(oc:Value) (od:Option Addr) (kV doc pm:Value) (an:Option Addr) (cdv ct:Value) (osl:Array<|Option Value),
  fd=zbl x qual (eA st) (bF st) (aF st) .none kV doc pm an cdv ct/\K.lookup f=bx ⟨oc,od,.func fd,osl⟩/\zcr K cdv qual=cf
 kp:zbC K (.ref f)=cf
section
variable {P:zah}{w:World}{K:zae}{mg:Str->Option Value}{base:Heap}
def Fun.ok{x z:Str}{st:Stmt}{f:Addr}{fd:zbd}{N ps:List Str}{k:Nat}{sp:Sp}(F:Fun K x z st f fd)(S:FnScope N ps<|aF st)(W:∀vs H Q E,sp vs H Q E->vs.length=ps.length)
  (J:∀(G:Value) (A:zal) (outer:List Env) (s:zab) (H:Hp) (vs:List V) (Q:VK) (E:XK), Room k (A.deeper<|zaH z (aF st) s.heap.objs.size f G) -> sp vs H Q E ->
   ∃t,PSs (dC uS P w K mg base N z (aF st) f G A outer s H E).nox (bF st) t/\t {nx:=λ_ H'=>Q .non H',rt:=Q} (start N vs) H):FnOk P w K mg base uS (k+1) f fd ps sp:=by
 obtain⟨oc,od,kV,aa,pm,an,G,ct,ab,rfl,lk,U⟩:=F.ex;refine V5 lk U S W λA outer s H vs Q E Y hsp=>?_
 obtain⟨t,h,q⟩:=J G A outer s H vs Q E Y hsp;exact⟨t,h.nox,q⟩
def Fun.binds{x q:Str}{st:Stmt}{f:Addr}{fd:zbd}{ps:List Str}(F:Fun K x q st f fd)
  (h:∀(kV z J:Value) (N:Option Addr) (G ct:Value) (us:List Value),us.length=ps.length->bindArgs (zbl x q (eA st) (bF st) (aF st) .none kV z J N G ct) ⟨us,[]⟩=pure (ps.zip us)):Binds K fd ps []:=by
 obtain⟨Y,od,kV,z,J,N,G,ct,W,rfl,lk,U⟩:=F.ex;exact .all<|h kV z J N G ct
def D6{x q:Str}{st:Stmt}{f:Addr}{U:Value}{od N:Option Addr}{G:Array (Option Value)}{kV F J z ct:Value}(l:K.lookup f=bx ⟨U,od,.func<|zbl x q (eA st) (bF st) (aF st) .none kV F J N z ct,G⟩)
  (c:zcr K z q=cf) (k:zbC K (.ref f)=cf):Fun K x q st f<|zbl x q (eA st) (bF st) (aF st) .none kV F J N z ct:=⟨⟨U,od,kV,F,J,N,z,ct,G,rfl,l,c⟩,k⟩
end
def hJ(q:Room k A):A.units+1<cLine:=zdK (Nat.add_le_add_left (by decide:1<=64) _) q.units
section
variable {X:Cx}
def pv(i:Nat)(z:X.N[i]?=bx x:=by rfl)(F:QO X.env.scope x:=by first|exact zaZ rfl|exact zbT (zaZ rfl)|exact zbT<|zbT rfl)(hd:(x == ("__debug__" : Str))=ci:=by decide)
  (q:(x == ("__classdict__" : Str))=ci:=by decide):PE X (.Name x pos)<|cN i:=D9 z F hd q
end
def qbY{A B:Prop}(h:B):if ci=cf then A else B:=by
 rw[cq zaB];exact h
def qb8{A B:Prop}(h:A):if cf=cf then A else B:=by
 rw[ck rfl];exact h
def Same(H H':Hp):Prop:=∀b o,H b=bx o->H' b=bx o
end L2
set_option maxHeartbeats 4000000
open PySem PySem.Spec PyProof.Rows L2
namespace My
def EU(i j:Int):Prop:=(-(10^250)<i/\i<10^250)/\-(10^250)<j/\j<10^250
def zZ(h1:-(10^250)<i)(h2:i<10^250):Builtin.Int.intBits i<=2^20:=by
 have h:i.natAbs<10^250:=by lia
 have e:(10:Nat)^250<=2^(4*250):=by
  rw[Nat.pow_mul];exact Nat.pow_le_pow_left (by decide) 250
 exact zaO (PyProof.Rows.intBits_le<|zaY h e)<|by decide
section
variable {X:Cx}
def QV:OpR X (zaQ .Mult)<|rI EU λi j=>.int<|i*j:=opI λ_ _ _ _ _ _ _ z q=>mul_int q<|IntMulOk.of_bits (zZ z.1.1 z.1.2)<|zZ z.2.1 z.2.2
def qb7(K:zae):List V->Hp->VK->Prop:=λxs H Q=>∃x n t b,xs=[x,.ty n]/\TyOf K H x t/\zbp K t (.type n)=bx b/\Q (.bl b) H
def LG:CallR X (.builtin "isinstance")<|qb7 X.K:=by
 intro pins s σ H xs z Q I r h;obtain⟨x,n,t,b,rfl,ty,e,q⟩:=h;obtain⟨u,F,rfl,r1,r2⟩:=vals2 r;cases r2;exact KM I r1 ty e λtk=>⟨.bl b,H,I.tok tk,rfl,q⟩
end
structure Ok(P:zah)(w:World)(K:zae)(mg:Str->Option Value)(base:Heap)(x:Str)(k:Nat)(ps:List Str)(sp:Sp):Prop where
 ex:∃f fd,zbC K (.ref f)=cf/\Binds K fd ps []/\mg x=bx (.ref f)/\FnOk P w K mg base uS k f fd ps sp
structure DefAt(K:zae)(mg:Str->Option Value)(x:Str)(st:Stmt)(ps:List Str):Prop where
 ex:∃f fd,Fun K x x st f fd/\Binds K fd ps []/\mg x=bx (.ref f)
def ZH(sp:Sp)(t:TA):TE:=λσ H Q=>t σ H λvs H1=>sp vs H1 Q E0
section
variable {X:Cx}{x:Str}{k:Nat}{ps:List Str}{sp:Sp}{e:Expr}{es:List Expr}{t:TA}{p pos:Pos}
def A3(O:Ok X.prog X.w X.K X.mg X.base x k ps sp)(Y:Room k X.A)(W:Gl X x)(G:PA X (e::es) t)(q:(x == ("__debug__" : Str))=ci:=by decide)
  (U:zaf (e::es) X.env=(ci,eval e X.env)::zaf es X.env:=by rfl) (z:(zaG pos<|zaf es X.env).any (·.1)=ci:=by rfl) :
  PE X (.Call (.Name x p) (e::es) [] pos) (ZH sp t):=by
 obtain⟨f,fd,N,J,hm,F⟩:=O.ex;have h:=xZ (p:=p) (pos:=pos) F Y W hm N J .nil HP G q U z;intro pins s σ H Q I hw;refine h pins s σ H Q I ?_;have e:(λ(vs:List V) (H1:Hp)=>sp (vs++[]) H1 Q E0)=λvs H1=>sp vs H1 Q E0:=by
  funext vs H1;rw[zbi]
 show t σ H λvs H1=>sp (vs++[]) H1 Q E0
 rw[e];exact hw
end
section
variable {P:zah}{w:World}{K:zae}{mg:Str->Option Value}{base:Heap}
def BodyOk(P:zah)(w:World)(K:zae)(mg:Str->Option Value)(base:Heap)(x:Str)(st:Stmt)(N:List Str)(k:Nat)(sp:Sp):Prop:=
 ∀(f:Addr) (cdv:Value) (A:zal) (outer:List Env) (s:zab) (H:Hp) (vs:List V) (Q:VK) (E:XK),Room k (A.deeper<|zaH x (aF st) s.heap.objs.size f cdv)->sp vs H Q E->
   ∃t,PSs (dC uS P w K mg base N x (aF st) f cdv A outer s H E).nox (bF st) t/\t {nx:=λ_ H'=>Q .non H',rt:=Q} (start N vs) H
def BodyOk.fn{x:Str}{st:Stmt}{N ps:List Str}{k:Nat}{sp:Sp}{f:Addr}{fd:zbd}(q:BodyOk P w K mg base x st N k sp)(F:Fun K x x st f fd)(S:FnScope N ps<|aF st)(z:∀vs H Q E,sp vs H Q E->vs.length=ps.length) :
  FnOk P w K mg base uS (k+1) f fd ps sp:=F.ok S z λG A outer s H vs Q E J h=>q f G A outer s H vs Q E J h
def BodyOk.ok{x:Str}{st:Stmt}{N ps:List Str}{k:Nat}{sp:Sp}(q:BodyOk P w K mg base x st N k sp)(D:DefAt K mg x st ps)(S:FnScope N ps<|aF st)(z:∀vs H Q E,sp vs H Q E->vs.length=ps.length) :
  Ok P w K mg base x (k+1) ps sp:=by
 obtain⟨f,fd,F,B,G⟩:=D.ex;exact⟨f,fd,F.kp,B,G,q.fn F S z⟩
end
def BU(K:zae):Sp:=λvs H Q _=>∃(a:Addr) (ns:List Int),vs=[.ref a]/\SqL K H a (ns.map V.int)/\ns.length<=63/\∀H',Q (.bl cf) H'
def walk{l:zez}{q:zah}{G:List Str}{U:(Str->Option Value)->Heap->Prop}{N:World->Heap->Prop}{d:DefRec}{K:Params->zae}{k:Nat}(Y:k<=100)(hn:l.most=bx 63)(J:d.params.defaults=[])
  (hY:∀(w:World) (h:Heap),N w h->(K w.params).In h)
  (F:∀(w:World) (mg:Str -> Option Value) (fa:Addr) (h:Heap), (K w.params).In h -> h.Ns zaK mg -> mg d.name = bx (.ref fa) ->
   ∃fd:zbd,(∀(s:zab) (u:Value),BindsTo s fd ⟨[u],[]⟩ [("script",u)])/\∀base:Heap,(K w.params).In base->base.Ns zaK mg->FnOk l.prog w (K w.params) mg base uS k fa fd ["script"] (BU<|K w.params)) :
  PySem.W.WalkO q G U N l.row.toRowW d [] (λf vs=>PySem.call f vs):=
 L2.T8 (n:=63) (k:=k) (x := "script") (CX:=λ_=>uS) (sp:=λw=>BU<|K w.params) hn (by decide) J (Room.mono (k:=100) ⟨rfl,by decide,by decide⟩ Y) hY F (λ_ _ a ns hl _ hS=>⟨a,ns,rfl,hS,hl,λ_=>rfl⟩) λ_ _ _ _ _ z=>z
def MZ(h:H p=cb):Same H<|upd H p o:=λb u e=>by
 rw[aG<|bG e h];exact e
def num(c:Int):Int:=if c%3=0 then c/3%21-10 else c/3%(2*10^60-1)-(10^60-1)
def boot_len:zaL "len" = bx (.builtin "len"):=by decide +kernel
def boot_max:zaL "max" = bx (.builtin "max"):=by decide +kernel
def boot_min:zaL "min" = bx (.builtin "min"):=by decide +kernel
def boot_isinstance:zaL "isinstance" = bx (.builtin "isinstance"):=by decide +kernel
def boot_int:zaL "int" = bx (.type "int"):=by decide +kernel
def boot_bool:zaL "bool" = bx (.type "bool"):=by decide +kernel
def boot_tuple:zaL "tuple" = bx (.type "tuple"):=by decide +kernel
def boot_list:zaL "list" = bx (.type "list"):=by decide +kernel
def boot_dict:zaL "dict" = bx (.type "dict"):=by decide +kernel
def boot_range:zaL "range" = bx (.type "range"):=by decide +kernel
def boot_zip:zaL "zip" = bx (.type "zip"):=by decide +kernel
def boot_sum:zaL "sum" = bx (.builtin "sum"):=by decide +kernel
end My
namespace My
open PySem.SeqAt
inductive Dx where
 | non|bl (b:Bool)|int (i:Int)|str (x:Str)|tup (l:List Dx)|lst (l:List Dx)
mutual
def Rep(K:zae)(H:Hp):Dx->V->Prop
 |.non,v=>v=.non
 |.bl b,v=>v=.bl b
 |.int i,v=>v=.int i
 |.str x,v=>v=.str x
 |.tup l,v=>∃a xs,v=.ref a/\SqT K H a xs/\RepL K H l xs
 |.lst l,v=>∃a xs,v=.ref a/\SqL K H a xs/\RepL K H l xs
def RepL(K:zae)(H:Hp):List Dx->List V->Prop
 |[],vs=>vs=[]
 |d::ds,vs=>∃x xs,vs=x::xs/\Rep K H d x/\RepL K H ds xs
end
section
variable {K:zae}{H H':Hp}
def RepL.cons(h1:Rep K H d v)(h2:RepL K H ds vs):RepL K H (d::ds)<|v::vs:=by
 rw[RepL];exact⟨v,vs,rfl,h1,h2⟩
theorem RepL.length:∀ {ds:List Dx} {vs:List V},RepL K H ds vs->vs.length=ds.length
 |[],vs,h=>by rw[RepL]at h;rw[h];rfl
 |d::ds,vs,h=>by
  rw[RepL]at h;obtain⟨x,xs,rfl,_,h2⟩:=h;rw[zaA,zaA,RepL.length h2]
theorem RepL.get':∀ {ds:List Dx} {vs:List V} {i:Nat} {d:Dx},RepL K H ds vs->ds[i]?=bx d->∃v,vs[i]?=bx v/\Rep K H d v
 |[],vs,i,d,h,e=>by simp at e
 |d'::ds,vs,i,d,h,e=>by
  rw[RepL]at h;obtain⟨x,xs,rfl,h1,h2⟩:=h;cases i with
  |zero=>simp at e;subst e;exact⟨x,rfl,h1⟩
  |succ i=>exact RepL.get' (i:=i) (ds:=ds) h2<|by simpa using e
theorem RepL.append:∀ {ds es:List Dx} {vs us:List V},RepL K H ds vs->RepL K H es us->RepL K H (ds++es) (vs++us)
 |[],es,vs,us,h,h'=>by rw[RepL]at h;rw[h];exact h'
 |d::ds,es,vs,us,h,h'=>by
  rw[RepL]at h;obtain⟨x,xs,rfl,h1,h2⟩:=h;exact RepL.cons h1<|RepL.append h2 h'
mutual
def Dx.dep:Dx->Nat
 |.tup l=>uN l+1
 |.lst l=>uN l+1
 |.non=>0
 |.bl _=>0
 |.int _=>0
 |.str _=>0
def uN:List Dx->Nat
 |[]=>0
 |d::ds=>max d.dep<|uN ds
end
mutual
def Dx.nb:Dx->Bool
 |.bl _=>ci
 |.tup l=>QM l
 |.lst l=>QM l
 |.non=>cf
 |.int _=>cf
 |.str _=>cf
def QM:List Dx->Bool
 |[]=>cf
 |d::ds=>d.nb && QM ds
end
theorem FS:∀ {ds:List Dx} {i:Nat} {d:Dx},ds[i]?=bx d->d.dep<=uN ds
 |[],i,d,e=>by simp at e
 |d'::ds,0,d,e=>by simp at e;subst e;rw[uN];lia
 |d'::ds,i+1,d,e=>by
  have:=FS (ds:=ds) (i:=i) (by simpa using e);rw[uN];lia
theorem D8:∀ {ds:List Dx} {i:Nat} {d:Dx},QM ds=cf->ds[i]?=bx d->d.nb=cf
 |[],i,d,_,e=>by simp at e
 |d'::ds,0,d,h,e=>by simp at e;subst e;rw[QM,zaV]at h;exact h.1
 |d'::ds,i+1,d,h,e=>by
  rw[QM,zaV]at h;exact D8 h.2<|by simpa using e
end
section
variable {X:Cx}{pins:List (Addr×Obj)}{σ:L2.St}{H:Hp}{s:zab}
def HG(I:Inv X pins σ H s)(h1:SqL X.K H a xs)(h2:SqT X.K H a ys):False:=by
 obtain⟨F,_,⟨o,n,e,c,_⟩,_⟩:=I.list h1;obtain⟨its',_,⟨o',q,z,_⟩,_⟩:=I.tuple h2;rw[e]at q;cases q;rw[c]at z;exact absurd z<|by decide
mutual
theorem Rep.inj(I:Inv X pins σ H s):∀(d e:Dx) (v:V),Rep X.K H d v->Rep X.K H e v->d=e
 |.non,e,v,h,h'=>by
  rw[Rep]at h;subst h;cases e <;> (rw[Rep]at h') <;> first|rfl|(cases h';done)|(obtain⟨_,_,z,_⟩:=h';cases z)
 |.bl b,e,v,h,h'=>by
  rw[Rep]at h;subst h;cases e <;> (rw[Rep]at h') <;> first|(cases h';rfl)|(cases h';done)|(obtain⟨_,_,z,_⟩:=h';cases z)
 |.int i,e,v,h,h'=>by
  rw[Rep]at h;subst h;cases e <;> (rw[Rep]at h') <;> first|(cases h';rfl)|(cases h';done)|(obtain⟨_,_,z,_⟩:=h';cases z)
 |.str x,e,v,h,h'=>by
  rw[Rep]at h;subst h;cases e <;> (rw[Rep]at h') <;> first|(cases h';rfl)|(cases h';done)|(obtain⟨_,_,z,_⟩:=h';cases z)
 |.tup l,e,v,h,h'=>by
  rw[Rep]at h;obtain⟨a,xs,rfl,h1,h2⟩:=h;cases e with
  |tup m=>
   rw[Rep]at h';obtain⟨b,ys,q,F,G⟩:=h';cases q;have J:=I.tuple_inj h1 F;subst J;rw[RepL.inj I l m xs h2 G]
  |lst m=>
   rw[Rep]at h';obtain⟨b,ys,q,F,G⟩:=h';cases q;exact(HG I F h1).elim
  |non=>rw[Rep]at h';cases h'
  |bl b=>rw[Rep]at h';cases h'
  |int i=>rw[Rep]at h';cases h'
  |str x=>rw[Rep]at h';cases h'
 |.lst l,e,v,h,h'=>by
  rw[Rep]at h;obtain⟨a,xs,rfl,h1,h2⟩:=h;cases e with
  |lst m=>
   rw[Rep]at h';obtain⟨b,ys,q,F,G⟩:=h';cases q;have J:=I.list_inj h1 F;subst J;rw[RepL.inj I l m xs h2 G]
  |tup m=>
   rw[Rep]at h';obtain⟨b,ys,q,F,G⟩:=h';cases q;exact(HG I h1 F).elim
  |non=>rw[Rep]at h';cases h'
  |bl b=>rw[Rep]at h';cases h'
  |int i=>rw[Rep]at h';cases h'
  |str x=>rw[Rep]at h';cases h'
theorem RepL.inj(I:Inv X pins σ H s):∀(ds es:List Dx) (vs:List V),RepL X.K H ds vs->RepL X.K H es vs->ds=es
 |[],es,vs,h,h'=>by
  rw[RepL]at h;subst h;cases es with
  |nil=>rfl
  |cons e es=>rw[RepL]at h';obtain⟨_,_,z,_⟩:=h';cases z
 |d::ds,es,vs,h,h'=>by
  rw[RepL]at h;obtain⟨x,xs,rfl,h1,h2⟩:=h;cases es with
  |nil=>rw[RepL]at h';cases h'
  |cons e es=>
   rw[RepL]at h';obtain⟨_,_,z,q,F⟩:=h';cases z;rw[Rep.inj I d e x h1 q,RepL.inj I ds es xs h2 F]
end
end
open Classical in
def xI:∀(ds es:List Dx),((zas<|min ds.length es.length).all (λj=>decide (ds.getD j .non=es.getD j .non)) && ds.length == es.length)=decide (ds=es):=by
 intro ds es;by_cases h:ds=es
 .subst h
  simp
 .rw[decide_eq_false h]
  by_cases q:ds.length=es.length
  .simp only[q,Nat.min_self,beq_self_eq_true,Bool.and_true]
   rw[Bool.eq_false_iff];intro z;rw[List.all_eq_true]at z;refine h<|List.ext_getElem q λi h1 h2=>?_;have:=of_decide_eq_true<|z i<|List.mem_range.mpr h2;simpa[zcP,h1,h2]using this
  .have:(ds.length == es.length)=ci:=by simpa using q
   rw[this,Bool.and_false]
open Classical in
def AX(ds es:List Dx)(h:ds.length=es.length):((zas ds.length).all λj=>decide (ds.getD j .non=es.getD j .non))=decide (ds=es):=by
 have:=xI ds es;rw[h,Nat.min_self,beq_self_eq_true,Bool.and_true]at this;rw[h];exact this
section
variable {X:Cx}{pins:List (Addr×Obj)}{σ:L2.St}{H:Hp}{s:zab}
def EqAt.to(h:EqAt A s u v b)(e:b=c):EqAt A s u v c:=e ▸ h
open Classical in
def mP(I:Inv X pins σ H s){n:Nat}(ih:∀(A:zal) (d e:Dx) (x y:V) (u v:Value),d.dep<=n->A.units+n<cLine->d.nb=cf->e.nb=cf->Rep X.K H d x->Rep X.K H e y->RelV x u->RelV y v->EqAt A s u v (decide (d=e)))
  {A:zal} {ds es:List Dx} {xs ys:List V} {q vs:List Value} (hd:uN ds<=n) (hu:A.units+(n+1)<cLine) (h1:QM ds=cf) (h2:QM es=cf) (r1:RepL X.K H ds xs) (r2:RepL X.K H es ys) (G:Vals xs q) (J:Vals ys vs) :
  ∀j (h1:j<q.toArray.size) (h2:j<vs.toArray.size),EqAt A.in1 s q.toArray[j] vs.toArray[j]<|decide (ds.getD j .non=es.getD j .non):=by
 intro j Y W;have l1:=r1.length;have l2:=r2.length;have l3:=G.length;have l4:=J.length;have k1:j<q.length:=by simpa using Y
 have k2:j<vs.length:=by simpa using W
 have z:ds[j]?=bx (ds.getD j .non):=by simp[zcP,show j<ds.length by lia]
 have N:es[j]?=bx (es.getD j .non):=by simp[zcP,show j<es.length by lia]
 obtain⟨x,ex,rx⟩:=r1.get' z;obtain⟨y,U,ry⟩:=r2.get' N;obtain⟨u,F,ru⟩:=G.get ex;obtain⟨v,ev,rv⟩:=J.get U;have b1:q.toArray[j]=u:=by
  rw[za0 k1]at F;simpa using zay F
 have b2:vs.toArray[j]=v:=by
  rw[za0 k2]at ev;simpa using zay ev
 rw[b1,b2];exact ih A.in1 _ _ x y u v (zaO (FS z) hd) (by show A.units+1+n<cLine;lia) (D8 h1 z) (D8 h2 N) rx ry ru rv
end
section
variable {X:Cx}{pins:List (Addr×Obj)}{σ:L2.St}{H:Hp}{s:zab}
def PlainL.isList(p:PlainL h a its):h.IsList a its:=by
 obtain⟨o,n,e,c,_,d⟩:=p;exact⟨o,e,c,n,d⟩
open Classical in
def xT(I:Inv X pins σ H s) :
  ∀(n:Nat) (A:zal) (d e:Dx) (x y:V) (u v:Value),d.dep<=n->A.units+n<cLine->d.nb=cf->e.nb=cf->Rep X.K H d x->Rep X.K H e y->RelV x u->RelV y v->EqAt A s u v (decide (d=e)):=by
 intro n;induction n with
 |zero=>
  intro A d e x y u v hd hu Y N r1 r2 ru F;have q:A.units<cLine:=by lia
  cases d with
  |bl b=>rw[Dx.nb]at Y;cases Y
  |tup l=>rw[Dx.dep]at hd;lia
  |lst l=>rw[Dx.dep]at hd;lia
  |non=>
   rw[Rep]at r1;subst r1;cases ru;cases e with
   |bl b=>rw[Dx.nb]at N;cases N
   |non=>rw[Rep]at r2;subst r2;cases F;exact EqAt.to (EqAt.same _)<|by simp
   |int i=>rw[Rep]at r2;subst r2;obtain⟨t,rfl⟩:=F;exact EqAt.to (EqAt.none_int _ _)<|by simp
   |str i=>rw[Rep]at r2;subst r2;obtain⟨t,rfl⟩:=F;exact EqAt.to (EqAt.none_str _ _)<|by simp
   |tup l=>
    rw[Rep]at r2;obtain⟨a,xs,rfl,h1,_⟩:=r2;cases F;obtain⟨J,_,G,_⟩:=I.tuple h1;exact EqAt.to (EqAt.none_tuple G q)<|by simp
   |lst l=>
    rw[Rep]at r2;obtain⟨a,xs,rfl,h1,_⟩:=r2;cases F;obtain⟨J,_,G,_⟩:=I.list h1;exact EqAt.to (EqAt.none_list G.isList q)<|by simp
  |int i=>
   rw[Rep]at r1;subst r1;obtain⟨t,rfl⟩:=ru;cases e with
   |bl b=>rw[Dx.nb]at N;cases N
   |non=>rw[Rep]at r2;subst r2;cases F;exact EqAt.to (EqAt.int_none _ _)<|by simp
   |int j=>rw[Rep]at r2;subst r2;obtain⟨t',rfl⟩:=F;exact EqAt.to (EqAt.int_int _ _ _ _)<|by simp[Bool.beq_eq_decide_eq]
   |str j=>rw[Rep]at r2;subst r2;obtain⟨t',rfl⟩:=F;exact EqAt.to (EqAt.int_str _ _ _ _)<|by simp
   |tup l=>
    rw[Rep]at r2;obtain⟨a,xs,rfl,h1,_⟩:=r2;cases F;obtain⟨J,_,G,_⟩:=I.tuple h1;exact EqAt.to (EqAt.int_tuple _ _ G q)<|by simp
   |lst l=>
    rw[Rep]at r2;obtain⟨a,xs,rfl,h1,_⟩:=r2;cases F;obtain⟨J,_,G,_⟩:=I.list h1;exact EqAt.to (EqAt.int_list _ _ G.isList q)<|by simp
  |str i=>
   rw[Rep]at r1;subst r1;obtain⟨t,rfl⟩:=ru;cases e with
   |bl b=>rw[Dx.nb]at N;cases N
   |non=>rw[Rep]at r2;subst r2;cases F;exact EqAt.to (EqAt.str_none _ _)<|by simp
   |int j=>rw[Rep]at r2;subst r2;obtain⟨t',rfl⟩:=F;exact EqAt.to (EqAt.str_int _ _ _ _)<|by simp
   |str j=>rw[Rep]at r2;subst r2;obtain⟨t',rfl⟩:=F;exact EqAt.to (EqAt.str_str _ _ _ _)<|by simp[Bool.beq_eq_decide_eq]
   |tup l=>
    rw[Rep]at r2;obtain⟨a,xs,rfl,h1,_⟩:=r2;cases F;obtain⟨J,_,G,_⟩:=I.tuple h1;exact EqAt.to (EqAt.str_tuple _ _ G q)<|by simp
   |lst l=>
    rw[Rep]at r2;obtain⟨a,xs,rfl,h1,_⟩:=r2;cases F;obtain⟨J,_,G,_⟩:=I.list h1;exact EqAt.to (EqAt.str_list _ _ G.isList q)<|by simp
 |succ n ih=>
  intro A d e x y u v hd hu Y N r1 r2 ru F;have q:A.units<cLine:=by lia
  cases d with
  |bl b=>rw[Dx.nb]at Y;cases Y
  |non=>exact ih A _ e x y u v (by rw[Dx.dep];lia) (by lia) Y N r1 r2 ru F
  |int i=>exact ih A _ e x y u v (by rw[Dx.dep];lia) (by lia) Y N r1 r2 ru F
  |str i=>exact ih A _ e x y u v (by rw[Dx.dep];lia) (by lia) Y N r1 r2 ru F
  |tup l=>
   have ab:=r1;rw[Rep]at r1;obtain⟨a,xs,rfl,h1,q1⟩:=r1;cases ru;obtain⟨J,v1,G,_⟩:=I.tuple h1;cases e with
   |bl b=>rw[Dx.nb]at N;cases N
   |non=>rw[Rep]at r2;subst r2;cases F;exact EqAt.to (EqAt.tuple_none G q)<|by simp
   |int j=>rw[Rep]at r2;subst r2;obtain⟨t',rfl⟩:=F;exact EqAt.to (EqAt.tuple_int _ _ G q)<|by simp
   |str j=>rw[Rep]at r2;subst r2;obtain⟨t',rfl⟩:=F;exact EqAt.to (EqAt.tuple_str _ _ G q)<|by simp
   |lst m=>
    rw[Rep]at r2;obtain⟨b,ys,rfl,h2,q2⟩:=r2;cases F;obtain⟨U,v2,W,_⟩:=I.list h2;exact EqAt.to (EqAt.tuple_list G W.isList q)<|by simp
   |tup m=>
    by_cases hv:v=zap a
    .subst hv
     obtain rfl:y=V.ref a:=RelV.inj F rfl;have:=Rep.inj I _ _ _ ab r2;rw[this];exact EqAt.to (EqAt.same _)<|by simp
    .rw[Rep]at r2;obtain⟨b,ys,rfl,h2,q2⟩:=r2;cases F
     obtain⟨U,v2,W,_⟩:=I.tuple h2;rw[Dx.dep]at hd;rw[Dx.nb]at Y N;refine EqAt.to (EqAt.of_refs (λz=>hv<|by rw[z])<|RcAt.tuples G W q<|mP I ih (by lia) hu Y N q1 q2 v1 v2) ?_;have e1:J.toArray.size=l.length:=by rw[zaw,<- v1.length,q1.length]
     have e2:U.toArray.size=m.length:=by rw[zaw,<- v2.length,q2.length]
     rw[e1,e2,xI];simp
  |lst l=>
   have ab:=r1;rw[Rep]at r1;obtain⟨a,xs,rfl,h1,q1⟩:=r1;cases ru;obtain⟨J,v1,G,_⟩:=I.list h1;cases e with
   |bl b=>rw[Dx.nb]at N;cases N
   |non=>rw[Rep]at r2;subst r2;cases F;exact EqAt.to (EqAt.list_none G.isList q)<|by simp
   |int j=>rw[Rep]at r2;subst r2;obtain⟨t',rfl⟩:=F;exact EqAt.to (EqAt.list_int _ _ G.isList q)<|by simp
   |str j=>rw[Rep]at r2;subst r2;obtain⟨t',rfl⟩:=F;exact EqAt.to (EqAt.list_str _ _ G.isList q)<|by simp
   |tup m=>
    rw[Rep]at r2;obtain⟨b,ys,rfl,h2,q2⟩:=r2;cases F;obtain⟨U,v2,W,_⟩:=I.tuple h2;exact EqAt.to (EqAt.list_tuple G.isList W q)<|by simp
   |lst m=>
    by_cases hv:v=zap a
    .subst hv
     obtain rfl:y=V.ref a:=RelV.inj F rfl;have:=Rep.inj I _ _ _ ab r2;rw[this];exact EqAt.to (EqAt.same _)<|by simp
    .rw[Rep]at r2;obtain⟨b,ys,rfl,h2,q2⟩:=r2;cases F
     obtain⟨U,v2,W,_⟩:=I.list h2;rw[Dx.dep]at hd;rw[Dx.nb]at Y N;have e1:J.toArray.size=l.length:=by rw[zaw,<- v1.length,q1.length]
     have e2:U.toArray.size=m.length:=by rw[zaw,<- v2.length,q2.length]
     by_cases hl:l.length=m.length
     .refine EqAt.to (EqAt.of_refs (λz=>hv<|by rw[z])<|RcAt.lists G.isList W.isList (by rw[e1,e2,hl]) q<|mP I ih (by lia) hu Y N q1 q2 v1 v2) ?_
      rw[e1,AX _ _ hl];simp
     .refine EqAt.to (EqAt.of_refs (λz=>hv<|by rw[z])<|RcAt.lists_lengths G.isList W.isList (by rw[e1,e2];simpa using hl) q) ?_
      rw[decide_eq_false];intro z;cases z;exact hl rfl
end
def Dx.seq:Dx->Bool
 |.tup _=>cf | .lst _=>cf | .non=>ci | .bl _=>ci | .int _=>ci | .str _=>ci
open Classical in
def qa0(K:zae)(neg:Bool):R2:=λx y H Q=>∃d e,Rep K H d x/\Rep K H e y/\d.seq=cf/\e.seq=cf/\d.nb=cf/\e.nb=cf/\d.dep<=60/\Q (.bl<|if neg then !decide (d=e)else decide (d=e)) H
section
variable {X:Cx}{pins:List (Addr×Obj)}{σ:L2.St}{H:Hp}{s:zab}
open Classical in
def VP(I:Inv X pins σ H s)(hu:X.A.units+64<cLine)(r1:Rep X.K H d x)(r2:Rep X.K H e y)(q1:d.seq=cf)(N:e.seq=cf)(n1:d.nb=cf)(n2:e.nb=cf)(hd:d.dep<=60)(ru:RelV x u)(rv:RelV y v) :
  RcAt X.A s u v (decide (d=e))/\RcNeAt X.A s u v (!decide (d=e)):=by
 have F:X.A.units<cLine:=by lia
 cases d with
 |bl b=>cases q1
 |non=>cases q1
 |int b=>cases q1
 |str b=>cases q1
 |tup l=>
  rw[Rep]at r1;obtain⟨a,xs,rfl,h1,k1⟩:=r1;cases ru;obtain⟨Y,v1,J,_⟩:=I.tuple h1;have W:Y.toArray.size=l.length:=by rw[zaw,<- v1.length,k1.length]
  cases e with
  |bl b=>cases N
  |non=>cases N
  |int b=>cases N
  |str b=>cases N
  |tup m=>
   rw[Rep]at r2;obtain⟨b,ys,rfl,h2,k2⟩:=r2;cases rv;obtain⟨G,U,q,_⟩:=I.tuple h2;have e2:G.toArray.size=m.length:=by rw[zaw,<- U.length,k2.length]
   rw[Dx.dep]at hd;rw[Dx.nb]at n1 n2;have he:=mP I (xT I 60) (A:=X.A) (by lia) (by lia) n1 n2 k1 k2 v1 U;have a1:=RcAt.tuples J q F he;have a2:=RcNeAt.tuples J q F he;rw[W,e2,xI]at a1 a2;have z:decide (Dx.tup l=Dx.tup m)=decide (l=m):=by simp
   rw[z];exact⟨a1,a2⟩
  |lst m=>
   rw[Rep]at r2;obtain⟨b,ys,rfl,h2,k2⟩:=r2;cases rv;obtain⟨G,U,q,_⟩:=I.list h2;have z:decide (Dx.tup l=Dx.lst m)=ci:=by simp
   rw[z];exact⟨RcAt.tuple_list J q.isList F,RcNeAt.tuple_list J q.isList F⟩
 |lst l=>
  rw[Rep]at r1;obtain⟨a,xs,rfl,h1,k1⟩:=r1;cases ru;obtain⟨Y,v1,J,_⟩:=I.list h1;have W:Y.toArray.size=l.length:=by rw[zaw,<- v1.length,k1.length]
  cases e with
  |bl b=>cases N
  |non=>cases N
  |int b=>cases N
  |str b=>cases N
  |tup m=>
   rw[Rep]at r2;obtain⟨b,ys,rfl,h2,k2⟩:=r2;cases rv;obtain⟨G,U,q,_⟩:=I.tuple h2;have z:decide (Dx.lst l=Dx.tup m)=ci:=by simp
   rw[z];exact⟨RcAt.list_tuple J.isList q F,RcNeAt.list_tuple J.isList q F⟩
  |lst m=>
   rw[Rep]at r2;obtain⟨b,ys,rfl,h2,k2⟩:=r2;cases rv;obtain⟨G,U,q,_⟩:=I.list h2;have e2:G.toArray.size=m.length:=by rw[zaw,<- U.length,k2.length]
   rw[Dx.dep]at hd;rw[Dx.nb]at n1 n2;have z:decide (Dx.lst l=Dx.lst m)=decide (l=m):=by simp
   rw[z];by_cases hl:l.length=m.length
   .have he:=mP I (xT I 60) (A:=X.A) (by lia) (by lia) n1 n2 k1 k2 v1 U
    have a1:=RcAt.lists J.isList q.isList (by rw[W,e2,hl]) F he;have a2:=RcNeAt.lists J.isList q.isList (by rw[W,e2,hl]) F he;rw[W,AX _ _ hl]at a1 a2;exact⟨a1,a2⟩
   .have z2:decide (l=m)=ci:=decide_eq_false λz=>hl (by rw[z])
    rw[z2];exact⟨RcAt.lists_lengths J.isList q.isList (by rw[W,e2];simpa using hl) F,RcNeAt.lists_lengths J.isList q.isList (by rw[W,e2];simpa using hl) F⟩
end
section
variable {X:Cx}
def ZD(N:X.A.units+64<cLine):OpR X (zaC .Eq)<|qa0 X.K ci:=by
 intro pins s σ H x y v u Q I z G h;obtain⟨d,e,r1,r2,W,F,J,U,hd,q⟩:=h;exact(VP I N r1 r2 W F J U hd z G).1 X.prog X.w X.xe _ ⟨.bl _,H,I,rfl,q⟩
def WN(N:X.A.units+64<cLine):OpR X (zaC .NotEq)<|qa0 X.K cf:=by
 intro pins s σ H x y v u Q I z G h;obtain⟨d,e,r1,r2,W,F,J,U,hd,q⟩:=h;exact(VP I N r1 r2 W F J U hd z G).2 X.prog X.w X.xe _ ⟨.bl _,H,I,rfl,q⟩
end
section
variable {K:zae}{H H':Hp}
end
def aX(X:Cx)(N:List Str)(scope:Scope)(cl:List<|Str×Addr)(C:Addr)(s:zab)(H:Hp)(fp:List Addr):Cx where
 prog:=X.prog
 w:=X.w
 K:=X.K
 mg:=X.mg
 base:=X.base
 A:=X.A
 N:=N
 s₀:=s
 H₀:=H
 env:=compEnvC scope cl C X.env
 outer:=X.stack
 stack:=X.stack
 ex:=fp
 fn:=λ_=>ci
 calm:=X.calm
 pn:=[]
 xe:=λ_ _=>False
def E3(X:Cx)(q:List Expr)(t:TT):Prop:=
 ∀(pins:List<|Addr×Obj) (s:zab) (σ:L2.St) (H:Hp) (Q:Bool->Hp->Prop),Inv X pins σ H s->t σ H Q->
  wpAny (model X.prog X.w) X.A (forIn q cf λc r=>if r=cf then do let ok <- isTrue c X.env<|eval c X.env;pure (zcQ ok)else pure<|zcQ r) (TP X pins σ Q) X.xe s
def qck:TT:=λ_ H Q=>Q cf H
def QX:E3 X [] qck:=λpins s σ H Q I h=>wpAny_tests_nil ⟨H,I,h⟩
def TY(h:PT X c t):E3 X [c] t:=λpins s σ H Q I hw=>wpAny_tests_one<|h pins s σ H Q I hw
structure Clo(X:Cx)(N:List Str)(scope:Scope)(cl:List<|Str×Addr):Prop where
 clos:closureFor scope X.env=pure cl
 kind:scope.kind=.function
 nocell:∀y∈scope.names,y.2≠.cell
 names:∀y∈scope.names,y.2=.local->scope.names.lookup y.1=bx .local
 sub:∀x c,cl.lookup x=bx c->X.env.cells.lookup x=bx c
 has:∀x,((zbe scope X.env).names.lookup x=bx .cell\/(zbe scope X.env).names.lookup x=bx .free)->∃c,cl.lookup x=bx c
def Start(X:Cx)(N:List Str)(scope:Scope)(σ q:L2.St):Prop:=
 q.length=N.length/\∀(j:Nat) (x:Str) (v:V),N[j]?=bx x->q[j]?=bx (bx v)->QO (zbe scope X.env) x->¬ (zbe scope X.env).names.lookup x=bx .local/\∃i:Nat,X.N[i]?=bx x/\σ[i]?=bx (bx v)/\(X.env.kindOf x=bx .cell\/X.env.kindOf x=bx .free)
def BY(wi:TI)(g:TG)(tt:TT)(te:TE)(S:L2.St->L2.St->Prop):TE:=λσ H Q=>∃G,S σ G/\wi σ H λJ H1=>∀D,H1 D=cb->∃W:Nat->Nat->L2.St->List V->Hp->Prop,(∃m,W 0 m G []<|upd H1 D<|.lst []) /\
 ∀i m F z H2,W i m F z H2->(J.stop i H2/\Q (.ref D) H2)\/(J.go i H2/\z.length<zai/\∀x Y,J.yld i H2 x Y->g x F Y λq H4=>tt q H4 λok U=>
  if ok=cf then te q U λv H6=>H6 D=bx (.lst z)/\∃N,N<m/\W (i+1) N q (z++[v]) (upd H6 D<|.lst<|z++[v])else U D=bx (.lst z)/\∃N,N<m/\W (i+1) N q z U)
section
variable {X:Cx}
def RD(F:Inv X pins σ H3 s3)(J:Clo X N scope cl)(ff:∀b∈fp,kC X pins H3 b)(fe:∀b∈fp,∃o,s3.heap.get? b=bx o) :
  (aX X N scope cl s3.heap.objs.size s3 H3 fp).Ok where
 mod:=F.ok.mod
 kind:=J.kind
 glob:=F.ok.glob
 blt:=F.ok.blt
 above:=zaj _
 inj:=λx y c h1 h2=>F.ok.inj x y c (J.sub x c h1)<|J.sub y c h2
 has:=λx h=>J.has x h
 cab:=λx c h _=>nomatch h
 hd:=F.ok.hd
 frames:=F.ok.frames
 stk:=.inl rfl
 exf:=λb G=>by
  obtain⟨o,e⟩:=fe b G;exact⟨zaE<|zao e,λx c h=>(ff b G).2.2.2.2.1 x c<|J.sub x c h⟩
 bs:=F.bs
 bsz:=zaO F.ok.bsz F.sz
 noex:=λb o e G=>by
  rcases(ff b G).2.2.2.1 with z|z
  .exact F.ok.noex b o e z
  .exact absurd (zaY (zao e) F.ok.bsz)<|Nat.not_lt.mpr z
 exfs:=λb G z=>by
  rcases List.mem_cons.mp (F.stkSub b z)with q|q
  .exact(ff b G).2.1 q
  .exact(ff b G).2.2.1 q
 funs:=F.stack
 frf:=F.stkFree
def N3(F:Inv X pins σ H3 s3)(U:Clo X N scope cl)(ff:∀b∈fp,kC X pins H3 b)(fe:∀b∈fp,∃o,s3.heap.get? b=bx o)
  (st:Start X N scope σ σ') (ho:s4.os=s3.os) (hg:s4.gens=s3.gens) (W:∀b o,s3.heap.get? b=bx o->s4.heap.get? b=bx o) (hn:s4.heap.Ns s3.heap.objs.size m) :
  Inv (aX X N scope cl s3.heap.objs.size s3 H3 fp) [] σ' H3 s4 where
 ok:=RD F U ff fe
 os:=ho
 bare:=by rw[hg];exact F.bare
 base:=Un.kept W
 loc:=by
  refine⟨m,hn,λj x v h1 h2 z=>?_⟩;obtain⟨nl,i,e1,e2,q⟩:=st.2 j x v h1 h2 z;obtain⟨m0,ai,aa⟩:=F.loc;have ac:QO X.env.scope x:=by
   rcases q with q|q
   .exact .inr<|.inl q
   .exact .inr<|.inr q
  obtain⟨u,ru,l⟩:=aa i x v e1 e2 ac;refine⟨u,ru,?_⟩;rcases l with⟨lk,_⟩|⟨_,c,hc,G⟩
  .rcases q with q|q <;> (rw[lk]at q;cases q)
  .have kk:(zbe scope X.env).names.lookup x=bx .cell\/(zbe scope X.env).names.lookup x=bx .free:=by
    rcases z with z|z|z
    .exact absurd z nl
    .exact .inl z
    .exact .inr z
   obtain⟨c',J⟩:=U.has x kk;have ec:=U.sub x c' J;rw[hc]at ec;cases ec;obtain⟨o,ab,Y⟩:=G;exact .inr ⟨kk,c,J,o,W c o ab,Y⟩
 cell:=λx c e=>by
  obtain⟨v,o,e1,d1⟩:=F.cell x c<|U.sub x c e;exact⟨v,o,W c o e1,d1⟩
 free:=F.hok.fresh<|zaj _
 freeC:=λx c e=>F.freeC x c<|U.sub x c e
 pin:=λp hp=>nomatch hp
 hok:=F.hok.kept W
 len:=st.1
def comp_back(W:Inv X pins σ H3 s3)(ff:∀b∈fp,kC X pins H3 b)
  (G:Inv (aX X N scope cl s3.heap.objs.size s3 H3 fp) [] σ5 H5 s5) (hs:za6 s3.heap.objs.size s5.heap h'):Inv X pins σ H5 {s5 with heap:=h'}:=by
 have J:∀b o,s3.heap.get? b=bx o->b≠s3.heap.objs.size:=λb o e=>zaE<|zao e
 have u:=G.base;refine W.call' (s':={s5 with heap:=h'}) (ch:=fp) G.os ⟨λb o e n F hx=>?_,λb o e n F hx=>?_,u.free,λb o e hx=>?_,u.tups,u.frzs,u.tbls⟩ ?_ G.bare λb F=>?_
 .exact(hs.2 b<|J b o e).trans<|u.keep b o e n F hx
 .obtain⟨sl,q⟩:=u.slot b o e n F hx
  exact⟨sl,(hs.2 b<|J b o e).trans q⟩
 .obtain⟨o',q⟩:=u.there b o e hx
  exact⟨o',(hs.2 b<|J b o e).trans q⟩
 .intro b ob e
  have U:H5 s3.heap.objs.size=cb:=G.free;refine(G.hok b ob e).stay (λc w' hc q=>(hs.2 c ?_).trans q) (λ_ q=>q) λ_ _ q=>q
  rintro rfl;rcases hc with z|z
  .subst z;rw[U]at e;cases e
  .rw[U]at z;cases z
 .obtain⟨_,f1,_,f3,f4,Y⟩:=ff b F
  exact⟨f3,f1,f4,Y⟩
def JC(I:Nat->zab->Prop)
  (turn:∀n s, I n s -> wpAny (model prog w) A (za9 it) (λr z => match r with
   |none=>R (.ok .next) z
   |some v=>wpAny (model prog w) A (zdu target it v) (λ_ F=>wpAny (model prog w) A (zbf target env v) (λ_ N=>
     wpAny (model prog w) A (forIn ifs cf λc r=>if r=cf then do let ok <- isTrue c env<|eval c env;pure (zcQ ok)else pure<|zcQ r) (λok q=>
      if ok=cf then wpAny (model prog w) A (eval elt env) (λx W=>
       wpAny (model prog w) A (call (.builtin "list.append") [acc,x]) (λ_ G=>∃m,m<n/\I m G) (λ_ _=>False) W) (λ_ _=>False) q
      else ∃m,m<n/\I m q) (λ_ _=>False) N) (λ_ _=>False) F) (λ_ _=>False) z) (λ_ _=>False) s)
  (n:Nat) (h:I n s) :
  zbs (model prog w) A (.compLoop (.ListComp elt [⟨target,iter,ifs,0⟩] scope pos) 0 it acc env) R s:=by
 refine codeAny_loop rfl I (λn s hI=>?_) n h;show wpAny _ A ((compTurn (.ListComp elt [⟨target,iter,ifs,0⟩] scope pos) 0 it acc env).onRaise λx=>do zcv x env;theTreesLotGoes x) _ _ s;refine wpAny_noted ?_;rw[compTurn_list];have ff:∀(e:Value) (s':zab),False->notedBy (model prog w) A env (λe s'=>R (.error e) s') e s':=λ_ _ h=>h.elim
 refine zaa<|zdr<|zaa<|zaJ (turn n s hI) (λr z U=>?_) ff;cases r with
 |none=>exact zag U
 |some v=>
  refine zaa<|zaJ U (λ_ F Y=>?_) ff;refine zaa<|zaJ Y (λ_ N aa=>zaa<|zaJ aa (λok q J=>?_) ff) ff;cases ok with
  |false=>exact zag ⟨rfl,J⟩
  |true=>
   exact zaa<|zaa<|zaJ J (λx W ab=>zaa<|zaJ ab (λ_ G ac=>zag<|zag ⟨rfl,ac⟩) ff) ff
def vE{ap tg am:Expr}{ao:List Expr}{scope:Scope}{pos:Pos}{N:List Str}{cl:List (Str×Addr)}{wi:TI}{g:TG}{tt:TT}{te:TE}{RR:Value->Addr->Result->zab->Prop}{pins:List (Addr×Obj)}{σ ak:L2.St}{Q:VK}{J:It}{H2:Hp}{F:zab}{it:Addr}{fp:List Addr}{tn:Nat->Heap->Prop}{E:Value->zab->Prop}
  (hc:X.calm=cf) (cc:Clo X N scope cl) (hg:∀C s H fp,PG (aX X N scope cl C s H fp) tg g) (ht:∀C s H fp,E3 (aX X N scope cl C s H fp) ao tt) (he:∀C s H fp,PE (aX X N scope cl C s H fp) ap te)
  (I2:Inv X pins σ H2 F) (T:Turn X.prog X.w X.K tg J fp it tn) (as:tn 0 F.heap) (f2:∀b∈fp,kC X pins H2 b) (sS:Start X N scope σ ak)
  (q2:∀D, H2 D = cb -> ∃W:Nat -> Nat -> L2.St -> List V -> Hp -> Prop, (∃m, W 0 m ak []<|upd H2 D<|.lst []) /\
   ∀i m Y U H2,W i m Y U H2->(J.stop i H2/\Q (.ref D) H2)\/(J.go i H2/\U.length<zai/\∀x G,J.yld i H2 x G->g x Y G λaj H4=>tt aj H4 λok H5=>
    if ok=cf then te aj H5 λv H6=>H6 D=bx (.lst U)/\∃m',m'<m/\W (i+1) m' aj (U++[v]) (upd H6 D<|.lst<|U++[v])else H5 D=bx (.lst U)/\∃m',m'<m/\W (i+1) m' aj U H5))
  (bf:∀(s3 s5:zab) (G H5:Hp) (ac:L2.St) (D:Addr),Inv X pins σ G s3->(∀b∈fp,kC X pins G b)->Inv (aX X N scope cl s3.heap.objs.size s3 G fp) [] ac H5 s5->Q (.ref D) H5->RR (.ref D) s3.heap.objs.size (.ok .next) s5) :
  wpAny (model X.prog X.w) X.A (newList []) (λacc a2=>wpAny (model X.prog X.w) X.A (newFunctionEnv scope X.env.globals cl [] X.env.qual cb .none<|bx X.env) (λan a3=>
   zbs (model X.prog X.w) X.A (.compStart (.ListComp ap [⟨tg,am,ao,0⟩] scope pos) 0 (.ref it) acc {an with scope:=zbe scope X.env}) (RR acc an.locals) a3) E a2) E F:=by
 refine zbE<|wpAny_newFunctionEnv cc.nocell (by intro y hy;simp at hy) (λh1 ag ai=>?_) cc.kind;dsimp only at ag ai ⊢;have I3:Inv X pins σ (upd H2 F.heap.objs.size<|.lst []) {F with heap:=F.heap.push {cls:=.type "list",dict:=cb,data:=.seq ([]:List Value).toArray} }:=I2.lnew (t':=F.toks) .nil<|zaM _;have hD:H2 F.heap.objs.size=cb:=I2.fresh;have bn:∀b∈fp,b≠F.heap.objs.size:=λb q=>by
  obtain⟨o,e,_⟩:=T.obj 0 _ as b q;exact zaE<|zao e
 have fe:∀b∈fp,∃o,(F.heap.push {cls:=.type "list",dict:=cb,data:=.seq ([]:List Value).toArray}).get? b=bx o:=λb q=>by
  obtain⟨o,e,_⟩:=T.obj 0 _ as b q;exact⟨o,zam _ e⟩
 have f3:∀b∈fp,kC X pins (upd H2 F.heap.objs.size<|.lst []) b:=λb q=>⟨by rw[aG<|bn b q];exact(f2 b q).1,(f2 b q).2⟩
 obtain⟨W,⟨m0,w0⟩,turn⟩:=q2 F.heap.objs.size hD;have br:(upd H2 F.heap.objs.size<|.lst []) F.heap.objs.size=bx (.lst []):=aI;generalize hs3:({F with heap:=F.heap.push {cls:=.type "list",dict:=cb,data:=.seq ([]:List Value).toArray} }:zab)=s3 at I3;have e3:F.heap.push {cls:=.type "list",dict:=cb,data:=.seq ([]:List Value).toArray}=s3.heap:=by rw[<- hs3]
 rw[e3]at ag ai fe ⊢;generalize F.heap.objs.size=D at *;generalize upd H2 D (.lst [])=G at *;have aw:∀b o,s3.heap.get? b=bx o->h1.get? b=bx o:=λb o e=>(ai.2 b<|zaE<|zao e).trans<|zam _ e
 have a5:tn 0 s3.heap:=by
  refine T.keep 0 _ _ as λb q o e=>?_
  rw[<- e3];exact zam _ e
 have al:∀s4:zab,s4={F with heap:=h1,toks:=F.toks+([]:List<|Str×Value).length}->
   zbs (model X.prog X.w) X.A (.compLoop (.ListComp ap [⟨tg,am,ao,0⟩] scope pos) 0 (.ref it) (.ref D)<|compEnvC scope cl s3.heap.objs.size X.env) (RR (.ref D) s3.heap.objs.size) s4:=by
  rintro s4 rfl;have I4:Inv (aX X N scope cl s3.heap.objs.size s3 G fp) [] ak G {F with heap:=h1,toks:=F.toks+([]:List<|Str×Value).length}:=
   N3 (m:=λx=>([]:List<|Str×Value).reverse.lookup x) I3 cc f3 fe sS (by rw[<- hs3]) (by rw[<- hs3]) aw ag
  have ar:∀ {H':Hp},(∀b∈fp,H' b=cb)->∀b∈fp,kC (aX X N scope cl s3.heap.objs.size s3 G fp) [] H' b:=λhn b q=>by
   have ok:=I4.ok;exact⟨hn b q,(ok.exf b q).1,ok.exfs b q,.inl q,(ok.exf b q).2,λp hp=>nomatch hp⟩
  refine JC (λn s'=>∃i Y U H',Inv (aX X N scope cl s3.heap.objs.size s3 G fp) [] Y H' s'/\tn i s'.heap/\(∀b∈fp,H' b=cb)/\H' D=bx (.lst U)/\W i n Y U H') ?_ m0 ⟨0,ak,[],G,I4,T.keep 0 _ _ a5 λb q o e=>aw b o e,λb q=>(f3 b q).1,br,w0⟩;rintro n s5 ⟨i,ac,U,H5,I5,ax,az,cs,w5⟩;rcases turn i n ac U H5 w5 with⟨bb,qn⟩|⟨go,a6,step⟩
  .refine cP (T.done (aX X N scope cl s3.heap.objs.size s3 G fp) rfl rfl rfl hc i [] s5 ac H5 _ I5 (ar az) ax bb) λr s6 ⟨hr,I6⟩=>?_
   subst hr;exact bf s3 s6 G H5 ac D I3 f3 I6 qn
  .refine cP (T.item (aX X N scope cl s3.heap.objs.size s3 G fp) rfl rfl rfl hc i [] s5 ac H5 _ I5 (ar az) ax go) λr s6 ⟨u,hr,h6⟩=>?_
   subst hr;refine cP h6 λ_ s7 ⟨x,H7,I7,r7,y7,aq,bh⟩=>?_
   have bl:=I7.pinned (ar bh)<|T.obj _ _ aq;refine cP (hg _ _ _ _ _ s7 ac H7 x u _ bl r7<|step x H7 y7) λ_ s8 ⟨aa,H8,I8,q8⟩=>?_
   refine cP (ht _ _ _ _ _ s8 aa H8 _ I8 q8) λok s9 ⟨H9,I9,q9⟩=>?_
   have fin:∀ {ae:zab} {ab:Hp} {vs:List V},Inv (aX X N scope cl s3.heap.objs.size s3 G fp) ([]++tW fp s7.heap) aa ab ae->ab D=bx (.lst vs)->(∃m',m'<n/\W (i+1) m' aa vs ab)->
     ∃m,m<n/\∃i Y U H',Inv (aX X N scope cl s3.heap.objs.size s3 G fp) [] Y H' ae/\tn i ae.heap/\(∀b∈fp,H' b=cb)/\H' D=bx (.lst U)/\W i m Y U H':=λ{ae ab vs} ah hd ⟨m',hm,bd⟩=>by
    refine⟨m',hm,i+1,aa,vs,ab,ah.unpinned,T.keep _ _ _ aq λb q o e=>(ah.pin (b,o)<|za1 _<|za1 _<|iI q e).1,λb q=>?_,hd,bd⟩;obtain⟨o,e,d⟩:=T.obj _ _ aq b q;exact(ah.pin (b,o)<|za1 _<|za1 _<|iI q e).2.1
   cases ok with
   |false=>
    rw[cq zaB]at q9 ⊢;exact fin I9 q9.1 q9.2
   |true=>
    rw[ck rfl]at q9 ⊢;refine cP (he _ _ _ _ _ s9 aa H9 _ I9 q9) λy ae ⟨v,ab,ah,bm,ba,bj⟩=>?_
    refine cP (wA (X:=aX X N scope cl s3.heap.objs.size s3 G fp) _ ae aa ab (.ref D) [v] (.ref D) [y] (λ_ au=>au D=bx (.lst<|U++[v])/\∃m',m'<n/\W (i+1) m' aa (U++[v]) au) ah rfl (.cons bm .nil) ⟨D,U,v,rfl,rfl,ba,a6,aI,bj⟩) λ_ cy ⟨z,au,bq,_,a1,bg⟩=>?_
    exact fin bq a1 bg
 exact codeAny_compStart_list (al _ rfl)<|T.self X.A 0 _ _ _ (T.keep 0 _ _ a5 λb q o e=>aw b o e)<|al _ rfl
def FM{G tg z:Expr}{F:List Expr}{scope:Scope}{pos:Pos}{N:List Str}{cl:List (Str×Addr)}{wi:TI}{g:TG}{tt:TT}{te:TE}
  (hc:X.calm=cf) (U:Clo X N scope cl) (hi:PI X tg z wi) (hg:∀C s H fp,PG (aX X N scope cl C s H fp) tg g) (ht:∀C s H fp,E3 (aX X N scope cl C s H fp) F tt) (he:∀C s H fp,PE (aX X N scope cl C s H fp) G te)
  (hs:∀x,zbc z X.env x=pure x:=by intro _;rfl) :
  PE X (.ListComp G [⟨tg,z,F,0⟩] scope pos) (BY wi g tt te<|Start X N scope):=by
 intro pins s σ H Q I h;obtain⟨ai,sS,hw⟩:=h;rw[eval_ListComp];refine wpAny_comprehension_free (use:=cb) rfl hs U.clos U.kind U.names<|cP (hi pins s σ H _ I hw) λv s1 h1=>cP h1 λan s2 h2=>?_;obtain⟨it,fp,tn,J,H2,e,I2,T,Y,f2,q2⟩:=h2;subst e;refine vE (wi:=wi) (Q:=Q) (RR:=λacc C=>compPost (model X.prog X.w) X.A X.xe cb (EP X pins σ Q) acc C) hc U hg ht he I2 T Y f2 sS q2 ?_;intro s3 s5 H3 H5 ap D I3 f3 I5 q;obtain⟨m,hn,_⟩:=id I5.loc;exact⟨m,hn,λh' W=>⟨.ref D,H5,comp_back I3 f3 I5 W,rfl,q⟩⟩
end
end My
namespace My
open PySem PySem.W PyProof.Rows
structure Ord(n:Nat)(lt:Nat->Nat->Bool):Prop where
 irr:∀i,i<n->lt i i=ci
 tr:∀i j k,i<n->j<n->k<n->lt i j=cf->lt j k=cf->lt i k=cf
 tot:∀i j,i<n->j<n->i≠j->lt i j=cf\/lt j i=cf
section
variable {n:Nat}{lt:Nat->Nat->Bool}(O:Ord n lt)
include O
end
end My
namespace My
open PySem.W
section
variable {prog:zah}{w:World}{A:zal}{E:Value->zab->Prop}{s:zab}{it d:Addr}{i ep:Nat}{od:Obj}{es:Array zcu}
def RawD(h:Heap)(d:Addr)(es:Array zcu)(ep:Nat):Prop:=∃o,h.get? d=bx o/\o.ExactDict/\o.data=.dict es ep
def RawD.typ(x:RawD s.heap d es ep):s.TypeIs (.ref d) "dict" := let ⟨o,a,b,_⟩:=x;⟨o,a,b.1⟩
def NJ(hd:(d == zbb)=ci)(z:RawD s.heap d es ep)
  (G:Q (.ref s.heap.objs.size) {s with heap:=s.heap.push {cls:=.type "dict_keyiterator",data:=.fields #[.ref d,.int 0 0,.int es.size 0,.int ep 0]} }):wpAny (model prog w) A (pyIter<|.ref d) Q E s:=by
 have q:=z.typ;obtain⟨o,g1,g2,g3⟩:=z;refine wpAny_pyIter_slot q PySem.F.slot_dict_iter<|zbo PySem.F.slot_dict_iter q PySem.F.entry_dict_iter ?_<|PySem.F.args_dict_iter_1 _;unfold zbz.«dict.__iter__»;refine zaa ?_;unfold Builtin.Dict.dictSlotNone;refine zaa<|wpAny_notOrdered_dict q ?_;show wpAny _ _ (pure<|zap d) _ _ s;refine zag ?_;show wpAny _ _ (Builtin.Dict.showsAll d >>= _) _ _ s;unfold Builtin.Dict.showsAll;rw[cq<|by rw[hd];exact zaB];refine zaa<|zag<|zaa<|zeA g1 g3<|zaa<|zeB g1 g3 ?_;refine zaa<|zbE<|zag ⟨_,rfl, "dict_keyiterator",_,⟨_,zaF _ rfl,rfl⟩,PySem.F.slot_dict_keyiterator_next.lookup,?_⟩;simpa[zaT]using G
def NQ(z:s.heap.IsKeyIter it d i es.size ep)(G:RawD s.heap d es ep)(hx:i<es.size)
  (N:∀h',h'.IsKeyIter it d (i+1) es.size ep->za6 it s.heap h'->Q (bx es[i].key) {s with heap:=h'}):wpAny (model prog w) A (za9<|.ref it) Q E s:=by
 have q:=z.typeIs;obtain⟨o,F,J,hd⟩:=id z;obtain⟨od,g1,g2,g3⟩:=G;unfold za9;refine zaa<|zcR<|zbR (name:=zbn "__next__") q zdL<|zbo zdL q zeN ?_<|zeO _;refine zaa<|zag<|zaa<|zaa ?_
 first|refine zaa (zdM q<|zag ?_)|refine zaa<|zdN q<|zag ?_
 refine zaa<|wpAny_fieldsOf F hd ?_;simp only[show zeP "dict_keyiterator" = ci by decide,zbA,if_false];show wpAny _ _ (if(zap d == zaS)=cf then _ else _) _ _ s;rw[cq<|show ¬ ((zap d == zaS)=cf)from zaB];refine zaa<|zag<|zaa<|zeA g1 g3 ?_;rw[cq<|by simp];refine zaa<|zag<|zaa<|zeB g1 g3 ?_;rw[cq<|by simp];refine zag ?_;simp only[show ¬ ((i:Int)<0)from by lia,if_false,zbG,Array.getElem?_eq_getElem hx];refine zaa ?_;first|refine zaa (zdM q<|zag ?_)|refine zaa<|zdN q<|zag ?_
 refine zaa<|wpAny_isOneOf_keyiter q ?_;show wpAny _ _ (setField (.ref it) 1 (zaT<|(i:Int)+1) >>= _) _ _ s;refine zaa<|zcw F hd (by simp) ?_;have nx:(s.heap.update it<|zcx (·.setIfInBounds 1 (zaT<|(i:Int)+1))).IsKeyIter it d (i+1) es.size ep:=⟨_,zdc _ F<|zdO<|zcy hd _,(zeC ..).trans J,by rw[zcy hd];simp[zaT]⟩;refine zaa<|zbM<|zaa<|wpAny_isOneOf_keyiter (s:={s with heap:=s.heap.update it (zcx (·.setIfInBounds 1 (zaT<|(i:Int)+1)))}) nx.typeIs ?_;show wpAny _ _ (pure es[i].key) _ _ _;exact zag<|zag ⟨_,rfl,zag<|N _ nx<|zdP ..⟩
def SS(J:A.handled=cb)(z:s.heap.IsKeyIter it d i es.size ep)(G:RawD s.heap d es ep)(hx:es.size<=i)
  (N:∀h',Heap.ExtBut it s.heap h'->Q cb {s with heap:=h'}):wpAny (model prog w) A (za9<|.ref it) Q E s:=by
 have q:=z.typeIs;obtain⟨o,F,U,hd⟩:=id z;obtain⟨od,g1,g2,g3⟩:=G;unfold za9;refine zaa<|zcR<|zbR (name:=zbn "__next__") q zdL<|zbo zdL q zeN ?_<|zeO _;refine zaa<|zag<|zaa<|zaa ?_
 first|refine zaa (zdM q<|zag ?_)|refine zaa<|zdN q<|zag ?_
 refine zaa<|wpAny_fieldsOf F hd ?_;simp only[show zeP "dict_keyiterator" = ci by decide,zbA,if_false];show wpAny _ _ (if(zap d == zaS)=cf then _ else _) _ _ s;rw[cq<|show ¬ ((zap d == zaS)=cf)from zaB];refine zaa<|zag<|zaa<|zeA g1 g3 ?_;rw[cq<|by simp];refine zaa<|zag<|zaa<|zeB g1 g3 ?_;rw[cq<|by simp];refine zag ?_;simp only[show ¬ ((i:Int)<0)from by lia,if_false,zbG,Array.getElem?_eq_none hx];refine zaa ?_;first|refine zaa (zdM q<|zag ?_)|refine zaa<|zdN q<|zag ?_
 show wpAny _ _ (setField (.ref it) 0 .none >>= _) _ _ s;refine zaa<|zcw F hd (by simp) ?_;show wpAny _ _ (newExc (.type "StopIteration") [] >>= _) _ _ _;refine zaa ?_;simp only[newExc,newTuple];refine zaa (zbE ?_<|by size_fits);refine zaa (m:=zdQ _ _)<|wpAny_of_eq (a:=zaS) (by first|rfl|(simp only[zdQ];rfl)) ?_
 refine zbE ?_ (by size_fits);simp only[raiseNew];refine zaa<|wpAny_handled ?_;rw[show A.in1.handled=cb from J];refine zaa<|zag<|wpAny_throw ?_;refine zaa<|zcE (T := "StopIteration") (b:=cf) ⟨_,zaF _ rfl,rfl⟩ isSubtype_stop ?_;exact zag<|N _<|((zdP ..).extBut.push _).push _
end
end My
namespace My
open PySem.SeqAt PySem.W
def JZ{prog:zah}{w:World}{A:zal}{E:Value->zab->Prop}{s:zab}{t J:Addr}{items:Array Value}{U N:Value}{lo hi:Option Int}{Q:Value->zab->Prop}(q:IsTup s.heap t items)(hs:s.heap.IsSliceOf J U N .none)(pl:zbQ U lo)(W:zbQ N hi)
  (hw:HT.sIx items.size 0 lo=0/\HT.sIx items.size items.size hi=items.size) (h:Q (.ref t) s):wpAny (model prog w) A (zbD (.ref t)<|.ref J) Q E s:=by
 obtain⟨os,F,G,aa⟩:=id hs;have Y:s.TypeIs (.ref J) "slice" := ⟨os,F,G⟩;unfold zbD;try with_reducible refine zbM ?_
 first|refine zaa (zag ?_)|skip
 refine zaa<|wpAny_sequenceKey q.typeIs (by decide) ?_;refine zaa<|zbR (name:=zbn "__getitem__") q.typeIs zdE<|zbo zdE q.typeIs entry_tuple_getitem ?_<|args_tuple_getitem _ _;show wpAny _ _ (zeb (.ref t) >>= _) _ _ s;refine zaa<|tupleItemsOf_ q<|zaa<|zcL Y ?_;rw[ck<|by decide];refine zaa<|HT.gW hs pl W ?_;have z:(((HT.sIx items.size 0 lo:Nat):Int) == 0 && (1:Int) == 1 && (HT.sIx items.size items.size hi-HT.sIx items.size 0 lo) == items.size)=cf:=by
  rw[hw.1,hw.2];simp
 show wpAny _ _ (if(((HT.sIx items.size 0 lo:Nat):Int) == 0 && (1:Int) == 1 && (HT.sIx items.size items.size hi-HT.sIx items.size 0 lo) == items.size)=cf then _ else _) _ _ s;rw[ck z];refine zaa (m:=Builtin.Tuple.tupleIsExact _) ?_;unfold Builtin.Tuple.tupleIsExact;refine zaa<|zcL q.typeIs<|zag ?_;rw[ck<|by decide];exact zaa<|zbU<|zag ⟨_,rfl,zag h⟩
section
variable {X:Cx}
def qbn(K:zae):V->Option Int->Option Int->Hp->VK->Prop:=λx lo hi H Q=>∃a xs,x=.ref a/\SqT K H a xs/\(HT.sIx xs.length 0 lo=0/\HT.sIx xs.length xs.length hi=xs.length)/\Q (.ref a) H
def RA:SlR X<|qbn X.K:=by
 intro pins s σ H x v Y W lo hi sl Q I N hs U J h;obtain⟨a,xs,rfl,hx,hw,q⟩:=h;cases N;obtain⟨F,r,G,hz⟩:=I.tuple hx;have z:F.toArray.size=xs.length:=by rw[zaw];exact r.length.symm
 exact⟨"tuple",_,PyProof.Rows.slot_tuple_getitem.lookup,G.typeIs,JZ G hs U J (by rw[z];exact hw) ⟨.ref a,H,I,rfl,q⟩⟩
def TR:SlR X λx lo hi H Q=>qbg X.K x lo hi H Q\/qbn X.K x lo hi H Q:=Y4.or RA
end
def t4(x:ObjOk P w H h d<|.dT kvs):(d == zbb)=ci/\kvs.length<=zai/\∃es ep,RawD h d es ep/\es.size=kvs.length /\
  ∀(j:Nat) (p:List Key×V),kvs[j]?=bx p->∃(e:zcu) (b:Addr),es[j]?=bx e/\e.key=.ref b/\H b=bx (.tup<|p.1.map kV)/\RelV p.2 e.val/\e.hash=(zb7<|bA P w).hash p.1:=by
 obtain⟨z,y,xs,r,o,es,ep,h1,h2,h3,G,h5⟩:=x;have hl:xs.length=kvs.length:=(zc2 r).symm;have F:es.size=kvs.length:=by
  have:=congrArg zbt G;rw[zbW,zak]at this
  lia
 have get:∀ {kvs:List (List Key×V)} {xs:List (List Key×Addr×Value)},Paired (λ(p:List Key×V) (q:List Key×Addr×Value)=>p.1=q.1/\H q.2.1=bx (.tup<|p.1.map kV)/\RelV p.2 q.2.2) kvs xs->
   ∀(j:Nat) (p:List Key×V),kvs[j]?=bx p->∃q,xs[j]?=bx q/\p.1=q.1/\H q.2.1=bx (.tup<|p.1.map kV)/\RelV p.2 q.2.2:=by
  intro kvs xs r;induction r with
  |nil=>intro j p e;simp at e
  |cons h t ih=>
   intro j p e;cases j with
   |zero=>simp at e;subst e;exact⟨_,rfl,h⟩
   |succ j=>exact ih j p<|by simpa using e
 refine⟨y,z,es,ep,⟨o,h1,h2,h3⟩,F,λj p e=>?_⟩;obtain⟨q,N,W,Y,J⟩:=get r j p e;have U:es[j]?=bx (zcl (zb7<|bA P w) q):=by
  rw[<- zeD,G,zaD,N];rfl
 exact⟨_,q.2.1,U,rfl,Y,J,by show(zb7<|bA P w).hash q.1=_;rw[W]⟩
def ItD(d:Addr)(o:Obj)(kvs:List<|List Key×V):It:=
 ⟨λi H=>H d=bx (.frz o<|.dT kvs)/\i<kvs.length,λi H x H'=>H'=H/\∃k v b,kvs[i]?=bx (k,v)/\x=.ref b/\H b=bx (.tup<|k.map kV),λi H=>H d=bx (.frz o<|.dT kvs)/\kvs.length<=i⟩
def J9{P:zah}{w:World}{K:zae}{tg:Expr}(d it:Addr)(o:Obj)(kvs:List<|List Key×V)(es:Array zcu)(ep:Nat)(hd:o.data=.dict es ep)(aq:es.size=kvs.length):Turn P w K tg (ItD d o kvs) [it] it (λi h=>h.IsKeyIter it d i es.size ep) where
 mem:=by simp
 obj:=λi h st b F=>by
  have e:b=it:=by simpa using F
  subst e;obtain⟨o,U,e2,e3⟩:=st;exact⟨o,U,λv z=>by rw[e3]at z;cases z⟩
 keep:=λi h h' st k=>st.at λo e=>k it (by simp) o e
 item:=by
  intro X hP hw hK hc i pins s σ H E I N st hg;subst hP hw hK;obtain⟨h1,h2⟩:=hg;obtain⟨g1,g2⟩:=(show ObjOk X.prog X.w H s.heap d (.frz o<|.dT kvs)from I.hok d _ h1);obtain⟨_,_,af,W,⟨o',r1,r2,r3⟩,J,q⟩:=t4 g2;rw[g1]at r1;cases r1;rw[hd]at r3;injection r3 with r4 r5
  subst r4 r5;obtain⟨f0,f1,f2,f3,f4,Y⟩:=N it (by simp);have hi:i<es.size:=by lia
  refine NQ st ⟨o,g1,r2,hd⟩ hi λh' G sb=>?_
  have I1:Inv X pins σ H {s with heap:=h'}:=I.turned (t':=s.toks) (λb o F e=>(sb.2 b F).trans e) f0 f1 f3 f4 Y;obtain⟨e,b,U,e2,e3,_⟩:=q i _<|za0 h2;have ee:es[i]=e:=by
   rw[Array.getElem?_eq_getElem hi]at U;exact zay U
  obtain⟨o2,q1,q2,q3⟩:=id G;refine⟨_,rfl,uE (s:={s with heap:=h'}) (n := "dict_keyiterator") q1 q2 q3 (by decide) ⟨.ref b,H,I1,?_,⟨rfl,kvs[i].1,kvs[i].2,b,za0 h2,rfl,e3⟩,G,λc F=>(N c F).1⟩⟩;rw[ee,e2];rfl
 done:=by
  intro X hP hw hK hc i pins s σ H E I N st hg;subst hP hw hK;obtain⟨h1,h2⟩:=hg;obtain⟨g1,g2⟩:=(show ObjOk X.prog X.w H s.heap d (.frz o<|.dT kvs)from I.hok d _ h1);obtain⟨_,_,af,W,⟨o',r1,r2,r3⟩,J,q⟩:=t4 g2;rw[g1]at r1;cases r1;obtain⟨f0,f1,f2,f3,f4,Y⟩:=N it (by simp);exact SS (I.ok.hd hc) st ⟨o,g1,r2,hd⟩ (by lia) λh' eb=>⟨rfl,I.turned (t':=s.toks) (λb o F e=>eb b o F e) f0 f1 f3 f4 Y⟩
 self:=λ_ _ _ _ _ st h=>wpAny_pyIter_keyiter st h
def DD(I:Inv X pins σ H s)(hd:H d=bx (.dT kvs))(N:s.heap.get? d=bx o):Inv X pins σ (upd H d<|.frz o<|.dT kvs) s:=by
 have F:∀b u,H b=bx u->(∀z,u≠.dT z)->b≠d:=λb u e n z=>by
  subst z;rw[hd]at e;exact n kvs (zay e).symm
 have J:=I.un (h':=s.heap) (t':=s.toks) (H':=upd H d<|.frz o<|.dT kvs) ⟨λb u q _ _ _=>q,λb u q _ _ _=>⟨u.slots,q⟩,λb u q n _=>by rw[aG λz=>by rw[z,hd]at n;cases n];exact n,λb u q _=>⟨u,q⟩,
  λb xs q=>by rw[aG<|F b _ q λz h=>by cases h];exact q,λb u xs q=>by rw[aG<|F b _ q λz h=>by cases h];exact q,λb ps q=>⟨#[],by rw[aG (F b _ q λz h=>by cases h),q];simp⟩⟩ (λb u e=>?_)
 .exact J
 .have st:∀ {b:Addr} {u:HO},ObjOk X.prog X.w H s.heap b u->ObjOk X.prog X.w (upd H d<|.frz o<|.dT kvs) s.heap b u:=λx=>x.stay (λ_ _ _ q=>q) (λc q=>by rw[aG<|F c _ q λz h=>by cases h];exact q) λc xs q=>by rw[aG<|F c _ q λz h=>by cases h];exact q
  by_cases G:b=d
  .subst G
   rw[aI]at e;cases e;exact⟨N,st<|I.hok b _ hd⟩
  .rw[aG G]at e
   exact st<|I.hok b u e
end My
namespace My
open PySem.SeqAt
abbrev Tm:=List Int×Int
def look(q:List Tm)(k:List Int):Option Int:=(q.find? λt=>decide (t.1=k)).map (·.2)
def put(q:List Tm)(k:List Int)(c:Int):List Tm:=if(q.any λt=>decide (t.1=k))=cf then q.map (λt=>if t.1=k then(t.1,c)else t)else q++[(k,c)]
def qa8(q:List Tm)(t:Tm):List Tm:=put q t.1<|(look q t.1).getD 0+t.2
def ZI(q:List Tm):List Tm:=q.foldl qa8 []
def qaW(M:Int)(q:List Tm):List Tm:=(q.filter λt=>decide (t.2%M≠0)).map λt=>(t.1,t.2%M)
def TS(H H':Hp):Prop:=∀b xs,H b=bx (.tup xs)->H' b=bx (.tup xs)
def hT(ns:List Int):Int:=reduceHash<|zcj<|ns.map hashInt
end My
namespace My
def itN(t:Bool):String:=if t=cf then "tuple_iterator" else "list_iterator"
def sqN(t:Bool):String:=if t=cf then "tuple" else "list"
def SIt(t:Bool)(h:Heap)(i l:Addr)(k:Nat):Prop:=∃o,h.get? i=bx o/\o.cls=.type (itN t)/\o.data=.fields #[.ref l,.int k 0]
def SSq(t:Bool)(h:Heap)(l:Addr)(xs:Array Value):Prop:=∃o,h.get? l=bx o/\o.cls=.type (sqN t)/\∃n,o.data=.seq xs n
def SIt.to(x:SIt t h i l k)(e:∀o,h.get? i=bx o->h'.get? i=bx o):SIt t h' i l k:=let ⟨o,ho,r⟩:=x;⟨o,e o ho,r⟩
def SSq.to(x:SSq t h l xs)(e:∀o,h.get? l=bx o->h'.get? l=bx o):SSq t h' l xs:=let ⟨o,ho,r⟩:=x;⟨o,e o ho,r⟩
section
variable {prog:zah}{w:World}{A:zal}{E:Value->zab->Prop}{s:zab}
def next_item(z:SIt t s.heap it l i)(N:SSq t s.heap l xs)(hx:xs[i]?=bx x)
  (U:∀h',SIt t h' it l (i+1)->za6 it s.heap h'->Q x {s with heap:=h'}):wpAny (model prog w) A (zcg<|.ref it) Q E s:=by
 cases t with
 |false=>exact wpAny_nextOf_list_item (it:=it) (l:=l) (items:=xs) z N hx U
 |true=>
  have q:s.heap.IsTupleIter it l i:=z;obtain⟨o,F,W,hd⟩:=z;obtain⟨Y,G,_,nl,J⟩:=N;unfold zcg;refine zaa<|zbR (name:=zbn "__next__") q.typeIs zdR<|zbo zdR q.typeIs zeQ ?_<|zeR _;show wpAny _ _ (field (.ref it) 0 >>= _) _ _ _;refine zaa<|zaN F hd (x:=.ref l) rfl ?_;show wpAny _ _ (if(zap l == zaS)=cf then _ else _) _ _ _;rw[cq<|show ¬ ((zap l == zaS)=cf)from zaB];show wpAny _ _ (field (.ref it) 1 >>= _) _ _ _;refine zaa<|zaN F hd (x:=.int i 0) rfl ?_;show wpAny _ _ (seqItems? (.ref l) >>= _) _ _ _;refine zaa<|zbB G J ?_;simp only[zbG,hx];refine zaa<|zcw F hd (by simp)<|zag ⟨x,rfl,zag<|U _ ⟨_,zdc _ F<|zdO<|zcy hd _,(zeC ..).trans W,by rw[zcy hd];simp[zaT]⟩<|zdP ..⟩
def next_end(N:A.handled=cb)(z:SIt t s.heap it l i)(W:SSq t s.heap l xs)(hx:xs[i]?=cb)
  (U:∀h' e,Heap.ExtBut it s.heap h'->(∃o,h'.get? e=bx o/\o.cls=.type "StopIteration")->E (.ref e) {s with heap:=h'}):wpAny (model prog w) A (zcg<|.ref it) Q E s:=by
 cases t with
 |false=>exact wpAny_nextOf_list_end (it:=it) (l:=l) (items:=xs) N z W hx U
 |true=>
  have q:s.heap.IsTupleIter it l i:=z;obtain⟨o,F,hc,hd⟩:=z;obtain⟨Y,G,_,nl,J⟩:=W;unfold zcg;refine zaa<|zbR (name:=zbn "__next__") q.typeIs zdR<|zbo zdR q.typeIs zeQ ?_<|zeR _;show wpAny _ _ (field (.ref it) 0 >>= _) _ _ _;refine zaa<|zaN F hd (x:=.ref l) rfl ?_;show wpAny _ _ (if(zap l == zaS)=cf then _ else _) _ _ _;rw[cq<|show ¬ ((zap l == zaS)=cf)from zaB];show wpAny _ _ (field (.ref it) 1 >>= _) _ _ _;refine zaa<|zaN F hd (x:=.int i 0) rfl ?_;show wpAny _ _ (seqItems? (.ref l) >>= _) _ _ _;refine zaa<|zbB G J ?_;simp only[zbG,hx];refine zaa<|zbU<|zaa<|zcw F hd (by simp) ?_;show wpAny _ _ (newExc (.type "StopIteration") [] >>= _) _ _ _;refine zaa ?_;simp only[newExc,newTuple];refine zaa (zbE ?_<|by size_fits);refine zaa (m:=zdQ _ _)<|wpAny_of_eq (a:=zaS) (by first|rfl|(simp only[zdQ];rfl)) ?_;refine zbE ?_ (by size_fits);simp only[raiseNew]
  refine zaa<|wpAny_handled ?_;first|rw[show A.in1.handled=cb from N]|rw[N]
  refine zaa<|zag<|wpAny_throw ?_;exact U _ _ (((zdP ..).extBut.push _).push _) ⟨_,zaF _ rfl,rfl⟩
structure ZA(z TI TO i1 i2 l1 l2:Addr):Prop where
 z1:TI≠z
 z2:TO≠z
 z3:i1≠z
 z4:i2≠z
 z5:TI≠TO
 z6:TI≠i1
 z7:TI≠i2
 z8:TO≠i1
 z9:TO≠i2
 za:i1≠i2
 zb:l1≠z/\l1≠TO/\l1≠i1/\l1≠i2
 zc:l2≠z/\l2≠TO/\l2≠i1/\l2≠i2
def ME{t1 t2:Bool}{z TI TO Y U l1 l2:Addr}{k1 k2:Nat}{xs ys:Array Value}{x y a b:Value}{Q:Option Value->zab->Prop}(D:ZA z TI TO Y U l1 l2)
  (hz:IsZip s.heap z TI TO .none) (au:zba s.heap TI (.ref Y)<|.ref U) (a1:zba s.heap TO a b) (h1:SIt t1 s.heap Y l1 k1) (h2:SIt t2 s.heap U l2 k2) (ay:SSq t1 s.heap l1 xs) (aw:SSq t2 s.heap l2 ys) (hx:xs[k1]?=bx x) (hy:ys[k2]?=bx y)
  (hQ:∀h',IsZip h' z TI TO (zaT s.heap.objs.size)->zba h' TO x y->SIt t1 h' Y l1 (k1+1)->SIt t2 h' U l2 (k2+1)->zba h' s.heap.objs.size x y->h'.objs.size=s.heap.objs.size+1->(∀c o,c≠z->c≠TO->c≠Y->c≠U->s.heap.get? c=bx o->h'.get? c=bx o)->Q (bx<|.ref s.heap.objs.size) {s with heap:=h'}) :
  wpAny (model prog w) A (za9<|.ref z) Q E s:=by
 have hT:s.TypeIs (.ref z) "zip" := ⟨_,hz,rfl⟩;unfold za9;refine zaa<|zcR<|zbR (name:=zbn "__next__") hT zdS<|zbo zdS hT F.entry_zip_next ?_<|F.args_zip_next_1 _;show wpAny _ _ (field (.ref z) 2 >>= _) _ _ s;refine zaa<|zaN hz rfl (x:=.bool ci) rfl ?_;show wpAny _ _ (field (.ref z) 3 >>= _) _ _ s;refine zaa<|zaN hz rfl (x:=.ref TI) rfl<|zaa<|zbB au rfl ?_;show wpAny _ _ (zcS (.ref z) >>= _) _ _ s;refine zaa ?_;unfold zcS;refine zaa<|zaN hz rfl (x:=.none) rfl<|zag ?_;simp only[if_true];refine zaa<|zbU<|zaa<|zaN hz rfl (x:=.ref TO) rfl<|zaa<|zbH hz (by simp) λha ad sa=>?_;replace ad:IsZip ha z TI TO .ellipsis:=ad;refine zaa ?_;simp only[List.zipIdx_cons,List.zipIdx_nil,zeE,List.forIn_nil];refine zaa<|zaa<|zdT ?_;show wpAny _ _ (zcg (.ref Y) >>= _) _ _ {s with heap:=ha};have ea:=sa.extBut;refine zaa<|next_item (t:=t1) (xs:=xs) (h1.to λo e=>ea _ _ D.z3 e) (ay.to λo e=>ea _ _ D.zb.1 e) hx λhb a8 sb=>zag ?_;have eb:=sb.extBut;have W:zba hb TO a b:=eb _ _ D.z8<|ea _ _ D.z2 a1;refine zaa<|zbB W rfl<|zaa<|zeF W λhc J sc=>?_;replace J:zba hc TO x b:=J;have ec:=sc.extBut;refine zaa<|zdU<|zag ?_;refine zaa<|zaa<|zdT ?_;show wpAny _ _ (zcg (.ref U) >>= _) _ _ {s with heap:=hc};refine zaa<|next_item (t:=t2) (xs:=ys) (h2.to λo e=>ec _ _ D.z9.symm<|eb _ _ D.za.symm<|ea _ _ D.z4 e) (aw.to λo e=>ec _ _ D.zc.2.1<|eb _ _ D.zc.2.2.1<|ea _ _ D.zc.1 e) hy λhd a6 sd=>zag ?_;have ed:=sd.extBut;have aa:zba hd TO x b:=ed _ _ D.z9 J;refine zaa<|zbB aa rfl<|zaa<|zeF aa λq G se=>?_;replace G:zba q TO x y:=G;have ee:=se.extBut;refine zaa<|zdU<|zag<|zag ?_;refine zaa<|zbB G rfl<|zaa<|wpAny_newTuple ?_;have hsz:q.objs.size=s.heap.objs.size:=by rw[se.1,sd.1,sc.1,sb.1,sa.1]
 have ah:IsZip q z TI TO .ellipsis:=ee _ _ D.z2.symm<|ed _ _ D.z4.symm<|ec _ _ D.z2.symm<|eb _ _ D.z3.symm ad;have a3:∀c o,c≠z->c≠TO->c≠Y->c≠U->s.heap.get? c=bx o->q.get? c=bx o:=λc o c1 c2 c3 c4 e=>ee _ _ c2<|ed _ _ c4<|ec _ _ c2<|eb _ _ c3<|ea _ _ c1 e
 have ax:SIt t1 q Y l1<|k1+1:=a8.to λo e=>ee _ _ D.z8.symm<|ed _ _ D.za<|ec _ _ D.z8.symm e
 have az:SIt t2 q U l2<|k2+1:=a6.to λo e=>ee _ _ D.z9.symm e
 have af:z<q.objs.size:=zao ah;show wpAny _ _ (zdV (.ref z) (.ref q.objs.size) >>= _) _ _ _;refine zaa ?_;unfold zdV;have a5:IsZip (q.push {cls:=.type "tuple",data:=.seq #[x,y]}) z TI TO .ellipsis:=zam _ ah;refine zaa<|zbH a5 (by simp) λhg ac sg=>?_;replace ac:IsZip hg z TI TO<|zaT q.objs.size:=ac;refine zbH ac (by simp) λhi N si=>?_;replace N:IsZip hi z TI TO<|zaT q.objs.size:=N
 have up:∀c o,c≠z->q.get? c=bx o->hi.get? c=bx o:=λc o c1 e=>si.extBut _ _ c1<|sg.extBut _ _ c1<|zam _ e
 have ak:zba hi q.objs.size x y:=si.extBut _ _ (zbr af)<|sg.extBut _ _ (zbr af)<|zaF _ rfl;have ag:hi.objs.size=q.objs.size+1:=by rw[si.1,sg.1,zbZ]
 rw[hsz]at N ak ag;refine zag ⟨_,rfl,zag ?_⟩;show Q (bx<|.ref q.objs.size) _;rw[hsz];exact hQ hi N (up _ _ D.z2 G) (ax.to λo e=>up _ o D.z3 e) (az.to λo e=>up _ o D.z4 e) ak ag λc o c1 c2 c3 c4 e=>up c o c1<|a3 c o c1 c2 c3 c4 e
def ND{t1 t2:Bool}{z TI TO i1 Y l1 l2:Addr}{k1 k2:Nat}{xs ys:Array Value}{a b:Value}{Q:Option Value->zab->Prop}(hh:A.handled=cb)(D:ZA z TI TO i1 Y l1 l2)
  (hz:IsZip s.heap z TI TO .none) (an:zba s.heap TI (.ref i1)<|.ref Y) (ap:zba s.heap TO a b) (h1:SIt t1 s.heap i1 l1 k1) (h2:SIt t2 s.heap Y l2 k2) (af:SSq t1 s.heap l1 xs) (ao:SSq t2 s.heap l2 ys) (aj:xs[k1]?=cb\/ys[k2]?=cb)
  (hQ:∀h',(∀c o,c≠z->c≠TO->c≠i1->c≠Y->s.heap.get? c=bx o->h'.get? c=bx o)->Q cb {s with heap:=h'}):wpAny (model prog w) A (za9<|.ref z) Q E s:=by
 have hT:s.TypeIs (.ref z) "zip" := ⟨_,hz,rfl⟩;have fin:∀(h':Heap) (e:Addr),(∀c o,c≠z->c≠TO->c≠i1->c≠Y->s.heap.get? c=bx o->h'.get? c=bx o)->(∃o,h'.get? e=bx o/\o.cls=.type "StopIteration")->wpAny (model prog w) A (do if <- zcD (.ref e) (.type "StopIteration")then pure cb else throw<|.ref e) Q E {s with heap:=h'}:=λh' e hk he=>by
  obtain⟨o,ho,hc⟩:=he;refine zaa<|zcE (T := "StopIteration") (b:=cf) ⟨o,ho,hc⟩ isSubtype_stop ?_;exact zag<|hQ _ hk
 unfold za9;refine zaa<|zcR<|zbR (name:=zbn "__next__") hT zdS<|zbo zdS hT F.entry_zip_next ?_<|F.args_zip_next_1 _;show wpAny _ _ (field (.ref z) 2 >>= _) _ _ s;refine zaa<|zaN hz rfl (x:=.bool ci) rfl ?_;show wpAny _ _ (field (.ref z) 3 >>= _) _ _ s;refine zaa<|zaN hz rfl (x:=.ref TI) rfl<|zaa<|zbB an rfl ?_;show wpAny _ _ (zcS (.ref z) >>= _) _ _ s;refine zaa ?_;unfold zcS;refine zaa<|zaN hz rfl (x:=.none) rfl<|zag ?_;simp only[if_true];refine zaa<|zbU<|zaa<|zaN hz rfl (x:=.ref TO) rfl<|zaa<|zbH hz (by simp) λha N sa=>?_;replace N:IsZip ha z TI TO .ellipsis:=N;refine zaa ?_;simp only[List.zipIdx_cons,List.zipIdx_nil,zeE,List.forIn_nil];refine zaa<|zaa<|zdT ?_;show wpAny _ _ (zcg (.ref i1) >>= _) _ _ {s with heap:=ha};have ea:=sa.extBut;cases hx:xs[k1]? with
 |none=>
  refine zaa<|next_end (t:=t1) (xs:=xs) hh (h1.to λo e=>ea _ _ D.z3 e) (af.to λo e=>ea _ _ D.zb.1 e) hx λhb e sb he=>?_;obtain⟨oe,G,J⟩:=he;have ah:IsZip hb z TI TO .ellipsis:=sb _ _ D.z3.symm N;have W:e≠z:=λq=>by subst q;rw[ah]at G;cases G;simp at J
  exact zbH ah (by simp) λhc _ sc=>fin hc e (λc o c1 _ c3 _ q=>sc.extBut _ _ c1<|sb _ _ c3<|ea _ _ c1 q) ⟨oe,sc.extBut _ _ W G,J⟩
 |some x=>
  have hy:ys[k2]?=cb:=by rcases aj with h|h;rw[hx]at h;cases h;exact h
  refine zaa<|next_item (t:=t1) (xs:=xs) (h1.to λo e=>ea _ _ D.z3 e) (af.to λo e=>ea _ _ D.zb.1 e) hx λhb bb sb=>zag ?_;have eb:=sb.extBut;have U:zba hb TO a b:=eb _ _ D.z8<|ea _ _ D.z2 ap;refine zaa<|zbB U rfl<|zaa<|zeF U λhc ax sc=>?_;have ec:=sc.extBut;refine zaa<|zdU<|zag ?_;refine zaa<|zaa<|zdT ?_;show wpAny _ _ (zcg (.ref Y) >>= _) _ _ {s with heap:=hc};refine zaa<|next_end (t:=t2) (xs:=ys) hh (h2.to λo e=>ec _ _ D.z9.symm<|eb _ _ D.za.symm<|ea _ _ D.z4 e) (ao.to λo e=>ec _ _ D.zc.2.1<|eb _ _ D.zc.2.2.1<|ea _ _ D.zc.1 e) hy λhd e sd he=>?_;obtain⟨oe,G,J⟩:=he;have ac:IsZip hd z TI TO .ellipsis:=sd _ _ D.z4.symm<|ec _ _ D.z2.symm<|eb _ _ D.z3.symm N;have W:e≠z:=λq=>by subst q;rw[ac]at G;cases G;simp at J
  exact zbH ac (by simp) λhf _ sf=>fin hf e (λc o c1 c2 c3 c4 q=>sf.extBut _ _ c1<|sd _ _ c4<|ec _ _ c2<|eb _ _ c3<|ea _ _ c1 q) ⟨oe,sf.extBut _ _ W G,J⟩
abbrev IF(t:Bool)(l:Addr):Obj:={cls:=.type<|itN t,data:=.fields #[.ref l,.int 0 0]}
abbrev Z9(t1 t2:Bool)(h:Heap)(l1 l2:Addr):Heap:=(h.push<|IF t1 l1).push<|IF t2 l2
abbrev zh4(t1 t2:Bool)(h:Heap)(l1 l2:Addr):Heap:=((Z9 t1 t2 h l1 l2).push {cls:=.type "tuple",data:=.seq #[.ref h.objs.size,.ref (h.push<|IF t1 l1).objs.size]}).push {cls:=.type "tuple",data:=.seq #[.none,.none]}
abbrev qg(t1 t2:Bool)(h:Heap)(l1 l2:Addr):Heap:=(zh4 t1 t2 h l1 l2).push {cls:=.type "zip",data:=.fields #[.none,.bool ci,.bool ci,.ref (Z9 t1 t2 h l1 l2).objs.size,.ref ((Z9 t1 t2 h l1 l2).push {cls:=.type "tuple",data:=.seq #[.ref h.objs.size,.ref (h.push<|IF t1 l1).objs.size]}).objs.size]}
def RI(Y W:Bool)(G N:Addr)(xs ys:Array Value):Meets (zbz.«zip.__new__» ⟨[.type "zip",.ref G,.ref N],[]⟩) λ_ R s=>SSq Y s.heap G xs/\SSq W s.heap N ys/\R (.ok<|.ret<|.ref (zh4 Y W s.heap G N).objs.size) {s with heap:=qg Y W s.heap G N}:=
 .of_wp λprog w A R s h=>by
  obtain⟨U,g,d,tk,os⟩:=s;obtain⟨J,aa,h⟩:=h;have ab:=sub_zip;have F:SSq W (U.push<|IF Y G) N ys:=aa.to λo e=>zam _ e
  cases Y <;> cases W
  .have z:zdW (zb2 ⟨U,g,d,tk,os⟩) G xs:=J
   have q:zdW (zb2 ⟨U.push {cls:=.type "list_iterator",data:=.fields #[.ref G,.int 0 0]},g,d,tk,os⟩) N ys:=F
   wp_walk using zcb z,zcb q
   exact⟨_,rfl,h⟩
  .have z:zdW (zb2 ⟨U,g,d,tk,os⟩) G xs:=J
   have q:zde (zb2 ⟨U.push {cls:=.type "list_iterator",data:=.fields #[.ref G,.int 0 0]},g,d,tk,os⟩) N ys:=F
   wp_walk using zcb z,zbX q
   exact⟨_,rfl,h⟩
  .have z:zde (zb2 ⟨U,g,d,tk,os⟩) G xs:=J
   have q:zdW (zb2 ⟨U.push {cls:=.type "tuple_iterator",data:=.fields #[.ref G,.int 0 0]},g,d,tk,os⟩) N ys:=F
   wp_walk using zbX z,zcb q
   exact⟨_,rfl,h⟩
  .have z:zde (zb2 ⟨U,g,d,tk,os⟩) G xs:=J
   have q:zde (zb2 ⟨U.push {cls:=.type "tuple_iterator",data:=.fields #[.ref G,.int 0 0]},g,d,tk,os⟩) N ys:=F
   wp_walk using zbX z,zbX q
   exact⟨_,rfl,h⟩
def M5(q:SSq t1 s.heap l1 xs)(W:SSq t2 s.heap l2 ys)
  (h:∀h', IsZip h' (s.heap.objs.size+4) (s.heap.objs.size+2) (s.heap.objs.size+3) .none -> zba h' (s.heap.objs.size+2) (.ref s.heap.objs.size) (.ref<|s.heap.objs.size+1) -> zba h' (s.heap.objs.size+3) .none .none ->
   SIt t1 h' s.heap.objs.size l1 0->SIt t2 h' (s.heap.objs.size+1) l2 0->(∀c o,s.heap.get? c=bx o->h'.get? c=bx o)->Q (.ref<|s.heap.objs.size+4) {s with heap:=h'}):wpAny (model prog w) A (call (.type "zip") [.ref l1,.ref l2]) Q E s:=by
 refine callType_new F.called_zip (by decide) (F.typeCall_zip_2 _ _) (F.newCall_zip_2 _ _) (λN=>F.args_object_init_3 N _ _) F.entry_zip_new (RI t1 t2 l1 l2 xs ys) ⟨q,W,?_⟩;have J:(s.heap.push<|IF t1 l1).objs.size=s.heap.objs.size+1:=zbZ ..;have G:(Z9 t1 t2 s.heap l1 l2).objs.size=s.heap.objs.size+2:=by rw[zbZ,J]
 have z:((Z9 t1 t2 s.heap l1 l2).push {cls:=.type "tuple",data:=.seq #[.ref s.heap.objs.size,.ref (s.heap.push<|IF t1 l1).objs.size]}).objs.size=s.heap.objs.size+3:=by rw[zbZ,G]
 have n4:(zh4 t1 t2 s.heap l1 l2).objs.size=s.heap.objs.size+4:=by rw[zbZ,z]
 have U:(qg t1 t2 s.heap l1 l2).get? (zh4 t1 t2 s.heap l1 l2).objs.size=bx _:=zaF _ rfl;have Y:(qg t1 t2 s.heap l1 l2).get? ((Z9 t1 t2 s.heap l1 l2).push {cls:=.type "tuple",data:=.seq #[.ref s.heap.objs.size,.ref (s.heap.push<|IF t1 l1).objs.size]}).objs.size=bx _:=zam _<|zaF _ rfl;have g3:(qg t1 t2 s.heap l1 l2).get? (Z9 t1 t2 s.heap l1 l2).objs.size=bx _:=zam _<|zam _<|zaF _ rfl;have g2:(qg t1 t2 s.heap l1 l2).get? (s.heap.push<|IF t1 l1).objs.size=bx (IF t2 l2):=zam _<|zam _<|zam _<|zaF _ rfl;have g1:(qg t1 t2 s.heap l1 l2).get? s.heap.objs.size=bx (IF t1 l1):=zam _<|zam _<|zam _<|zam _<|zaF _ rfl;show _/\_;rw[G,z,n4]at U;rw[J,G]at g3;rw[z]at Y;rw[J]at g2;rw[n4];exact⟨⟨_,U,rfl⟩,h _ U g3 Y ⟨_,g1,rfl,rfl⟩ ⟨_,g2,rfl,rfl⟩ λc o x=>zam _<|zam _<|zam _<|zam _<|zam _ x⟩
end
def B8(K:zae)(t:Bool)(H:Hp)(a:Addr)(xs:List V):Prop:=if t=cf then SqT K H a xs else SqL K H a xs
def ItZ(K:zae)(F q:Bool)(G z:Addr):It:=
 ⟨λi H => ∃xs ys, B8 K F H G xs /\ B8 K q H z ys /\ i<xs.length /\ i<ys.length, λi H x H' => ∃p u v, x = .ref p /\ H p = cb /\ H' = upd H p (.tup [u, v]) /\ ∀xs ys, B8 K F H G xs -> B8 K q H z ys -> xs[i]? = bx u /\ ys[i]? = bx v,
  λi H=>∃xs ys,B8 K F H G xs/\B8 K q H z ys/\(xs.length<=i\/ys.length<=i)⟩
def iZ(I:Inv X pins σ H s)(h:B8 X.K t H a xs):∃q:List Value,Vals xs q/\SSq t s.heap a q.toArray:=by
 cases t with
 |true=>
  obtain⟨q,r,p,_⟩:=I.tuple<|show SqT X.K H a xs from h;exact⟨q,r,p⟩
 |false=>
  obtain⟨q,r,p,_⟩:=I.list<|show SqL X.K H a xs from h;exact⟨q,r,PlainL.isList p⟩
def xW(I:Inv X pins σ H s)(h:B8 X.K t H a xs)(h':B8 X.K t H a ys):xs=ys:=by
 cases t with
 |true=>exact I.tuple_inj (show SqT X.K H a xs from h) h'
 |false=>exact I.list_inj (show SqL X.K H a xs from h) h'
def iH{pins:List (Addr×Obj)}{t':Nat}{fp:List Addr}(I:Inv X pins σ H s)(G:∀b∈fp,kC X pins H b)(k:∀b o,b∉fp->s.heap.get? b=bx o->h'.get? b=bx o):Inv X pins σ H {s with heap:=h',toks:=t'}:=by
 have F:∀b u,H b=bx u->b∉fp:=λb u e z=>by rw[(G b z).1]at e;cases e
 refine I.call' (s':={s with heap:=h',toks:=t'}) (ch:=fp) rfl ⟨λb o e _ _ hx=>k b o hx e,λb o e _ _ hx=>⟨o.slots,k b o hx e⟩,λ_ _ _ n _=>n,λb o e hx=>⟨o,k b o hx e⟩,λ_ _ q=>q,λ_ _ _ q=>q,λb ps q=>⟨#[],by rw[q];simp⟩⟩ (λb u e=>?_) I.bare λb J=>?_
 .refine(I.hok b u e).stay (λc v W q=>k c v ?_ q) (λ_ q=>q) λ_ _ q=>q
  rcases W with z|z
  .rw[z];exact F b u e
  .exact F c _ z
 .obtain⟨_,f1,_,U,Y,N⟩:=G b J
  exact⟨U,f1,Y,N⟩
def L9{P:zah}{w:World}{K:zae}{ag:List Expr}{x1}{tp:Pos}(t1 t2:Bool){z TI TO i1 i2 l1 l2:Addr}(D:ZA z TI TO i1 i2 l1 l2) :
  Turn P w K (.Tuple ag x1 tp) (ItZ K t1 t2 l1 l2) [z,TI,TO,i1,i2] z (λi h=>IsZip h z TI TO .none/\zba h TI (.ref i1) (.ref i2)/\(∃a b,zba h TO a b)/\SIt t1 h i1 l1 i/\SIt t2 h i2 l2 i) where
 mem:=by simp
 obj:=by
  rintro i h ⟨W,J,⟨a,b,N⟩,⟨o1,e1,_,d1⟩,⟨o2,e2,_,d2⟩⟩ c F;simp only[za2,za5,or_false]at F;rcases F with rfl|rfl|rfl|rfl|rfl
  .exact⟨_,W,λv q=>by cases q⟩
  .exact⟨_,J,λv q=>by cases q⟩
  .exact⟨_,N,λv q=>by cases q⟩
  .exact⟨o1,e1,λv q=>by rw[d1]at q;cases q⟩
  .exact⟨o2,e2,λv q=>by rw[d2]at q;cases q⟩
 keep:=λi h h' ⟨W,J,⟨a,b,N⟩,s1,s2⟩ k=>⟨k z (by simp) _ W,k TI (by simp) _ J,⟨a,b,k TO (by simp) _ N⟩,s1.to λo e=>k i1 (by simp) o e,s2.to λo e=>k i2 (by simp) o e⟩
 item:=by
  intro X hP hw hK F i pins s σ H E I hf st hg;subst hP hw hK;obtain⟨W,J,⟨a,b,N⟩,s1,s2⟩:=st;obtain⟨xs,ys,q1,q2,zA,ao⟩:=hg;obtain⟨ae,r1,p1⟩:=iZ I q1;obtain⟨ah,r2,p2⟩:=iZ I q2;have e1:xs[i]?=bx xs[i]:=by simp[zA]
  have e2:ys[i]?=bx ys[i]:=by simp[ao]
  obtain⟨u,eu,ru⟩:=r1.get e1;obtain⟨v,ev,rv⟩:=r2.get e2;refine ME D W J N s1 s2 p1 p2 (x:=u) (y:=v) (by simpa using eu) (by simpa using ev) λh' a1 a2 a3 a4 a5 a6 Y=>⟨_,rfl,?_⟩
  refine wpAny_letOwnedTupleGo_zip (s:={s with heap:=h'}) a1 λh2 ap sb=>?_
  have zz:∀c,c∈[z,TI,TO,i1,i2]->c<s.heap.objs.size:=λc F=>by
   simp only[za2,za5,or_false]at F;rcases F with rfl|rfl|rfl|rfl|rfl
   .exact zao W
   .exact zao J
   .exact zao N
   .obtain⟨o,e,_⟩:=s1;exact zao e
   .obtain⟨o,e,_⟩:=s2;exact zao e
  have U:∀c o,c≠z->h'.get? c=bx o->h2.get? c=bx o:=λc o F e=>sb.extBut _ _ F e
  have I1:Inv X pins σ H {s with heap:=h2,toks:=s.toks}:=iH I hf λc o F e=>by
   simp only[za2,za5,or_false,not_or]at F;exact U c o F.1<|Y c o F.1 F.2.2.1 F.2.2.2.1 F.2.2.2.2 e
  have G:H s.heap.objs.size=cb:=I.fresh;have as:zba h2 s.heap.objs.size u v:=U _ _ (zbr<|zz z<|by simp) a5;have I2:Inv X pins σ (upd H s.heap.objs.size<|.tup [xs[i],ys[i]]) {s with heap:=h2}:=by
   have az:HOk X.prog X.w (upd H s.heap.objs.size<|.tup [xs[i],ys[i]]) h2:=λc ob e=>by
    by_cases F:c=s.heap.objs.size
    .subst F;rw[aI]at e;cases e
     exact⟨by show 2<=zai;decide,[u,v],.cons ru<|.cons rv .nil,_,as,rfl,0,rfl,rfl⟩
    .rw[aG F]at e
     exact(I1.hok c ob e).stay (λ_ _ _ q=>q) (λd q=>by rw[aG<|bG q G];exact q) λd ai q=>by rw[aG<|bG q G];exact q
   refine I.call' (s':={s with heap:=h2}) (ch:=[z,TI,TO,i1,i2]) rfl ⟨λc o e _ _ hx=>?_,λc o e _ _ hx=>⟨o.slots,?_⟩,λc o e n hx=>by rw[aG<|zaE<|zao e];exact n,λc o e hx=>⟨o,?_⟩,λc ai q=>by rw[aG<|bG q G];exact q,λc o' u' q=>by rw[aG<|bG q G];exact q,λc ps q=>⟨#[],by rw[aG<|bG q G,q];simp⟩⟩ az I.bare λb hb=>?_
   .simp only[za2,za5,or_false,not_or]at hx
    exact U c o hx.1<|Y c o hx.1 hx.2.2.1 hx.2.2.2.1 hx.2.2.2.2 e
   .simp only[za2,za5,or_false,not_or]at hx
    exact U c o hx.1<|Y c o hx.1 hx.2.2.1 hx.2.2.2.1 hx.2.2.2.2 e
   .simp only[za2,za5,or_false,not_or]at hx
    exact U c o hx.1<|Y c o hx.1 hx.2.2.1 hx.2.2.2.1 hx.2.2.2.2 e
   .obtain⟨_,f1,_,f3,f4,f5⟩:=hf b hb
    exact⟨f3,f1,f4,f5⟩
  refine⟨.ref s.heap.objs.size,_,I2,rfl,⟨_,_,_,rfl,G,rfl,λbj ai g1 g2=>by rw[<- xW I q1 g1,<- xW I q2 g2];exact⟨e1,e2⟩⟩,⟨ap,U _ _ D.z1<|Y _ _ D.z1 D.z5 D.z6 D.z7 J,⟨_,_,U _ _ D.z2 a2⟩,a3.to λo e=>U _ o D.z3 e,a4.to λo e=>U _ o D.z4 e⟩,λc F=>?_⟩;rw[aG<|zaE<|zz c F];exact(hf c F).1
 done:=by
  intro X hP hw hK F i pins s σ H E I hf st hg;subst hP hw hK;obtain⟨W,J,⟨a,b,N⟩,s1,s2⟩:=st;obtain⟨xs,ys,q1,q2,aj⟩:=hg;obtain⟨ae,r1,p1⟩:=iZ I q1;obtain⟨ah,r2,p2⟩:=iZ I q2;have n1:=r1.length;have n2:=r2.length;refine ND (I.ok.hd F) D W J N s1 s2 p1 p2 (aj.imp (λh=>by simp;lia) λh=>by simp;lia) λh' Y=>⟨rfl,iH (t':=s.toks) I hf λc o F e=>?_⟩
  simp only[za2,za5,or_false,not_or]at F;exact Y c o F.1 F.2.2.1 F.2.2.2.1 F.2.2.2.2 e
 self:=λ_ _ _ _ _ st h=>wpAny_pyIter_zip st.1 h
def qaR(n z q:Nat)(h1:z<n)(h2:q<n):ZA (n+4) (n+2) (n+3) n (n+1) z q:=⟨(show(n+2:Nat)≠n+4 by lia),(show(n+3:Nat)≠n+4 by lia),(show(n:Nat)≠n+4 by lia),(show(n+1:Nat)≠n+4 by lia),(show(n+2:Nat)≠n+3 by lia),(show(n+2:Nat)≠n by lia),(show(n+2:Nat)≠n+1 by lia),(show(n+3:Nat)≠n by lia),(show(n+3:Nat)≠n+1 by lia),(show(n:Nat)≠n+1 by lia),⟨(show(z:Nat)≠n+4 by lia),(show(z:Nat)≠n+3 by lia),(show(z:Nat)≠n by lia),(show(z:Nat)≠n+1 by lia)⟩,⟨(show(q:Nat)≠n+4 by lia),(show(q:Nat)≠n+3 by lia),(show(q:Nat)≠n by lia),(show(q:Nat)≠n+1 by lia)⟩⟩
def qb3(K:zae)(ta:TA):TI:=λσ H R=>ta σ H λvs H1=>∃G F z q xs ys,vs=[.ref z,.ref q]/\B8 K G H1 z xs/\B8 K F H1 q ys/\R (ItZ K G F z q) H1
def W3{G:List Expr}{x1}(hg:Gl X "zip")(hm:X.mg "zip" = cb)(ha:PA X [a,b] ta)(hs:zaf [a,b] X.env=[(ci,eval a X.env),(ci,eval b X.env)]:=by rfl)(J:zaf [b] X.env=[(ci,eval b X.env)]:=by rfl) :
  PI X (.Tuple G x1 tp) (.Call (.Name "zip" p) [a,b] [] pos) (qb3 X.K ta):=by
 intro pins s σ H R I h;refine Call_ (lS I hg hm My.boot_zip<|zc7 (cP (ha pos pins s σ H _ I h) λus z ⟨vs,H1,F,r1,q1⟩=>?_) (by rw[hs,J])<|by rw[J];rfl);obtain⟨t1,t2,l1,l2,xs,ys,rfl,q1,q2,q⟩:=q1;obtain⟨u,v,rfl,ru,rv⟩:=vals2 r1;cases ru;cases rv;obtain⟨ac,_,p1⟩:=iZ F q1;obtain⟨ad,_,p2⟩:=iZ F q2;have b1:l1<z.heap.objs.size:=by obtain⟨o,e,_⟩:=p1;exact zao e
 have b2:l2<z.heap.objs.size:=by obtain⟨o,e,_⟩:=p2;exact zao e
 refine M5 p1 p2 λh' hz U Y ab W k=>?_
 refine wpAny_pyIter_zip hz ?_;have D:ZA (z.heap.objs.size+4) (z.heap.objs.size+2) (z.heap.objs.size+3) z.heap.objs.size (z.heap.objs.size+1) l1 l2:=qaR _ _ _ b1 b2;refine⟨_,[_,_,_,_,_],_,_,H1,rfl,F.kept (t':=z.toks) k,L9 t1 t2 D,⟨hz,U,⟨_,_,Y⟩,ab,W⟩,λc N=>F.fpOk ?_<|F.hok.fresh ?_,q⟩
 .simp only[za2,za5,or_false]at N
  rcases N with rfl|rfl|rfl|rfl|rfl <;> lia
 .simp only[za2,za5,or_false]at N
  rcases N with rfl|rfl|rfl|rfl|rfl <;> lia
end My
namespace P
inductive D where
 | non|bl (b:Bool)|int (i:Int)|str (x:Str)|tup (l:List D)|lst (l:List D)
 | dK (l:List<|Key×D)|dT (l:List<|List Key×D)
 | ob (C:Addr) (fs:List<|Str×D)|mem (dom:List<|Key×List Key) (f:Key×List Key->Option (Int×Int))
abbrev Av:=Addr->Prop
section
variable (A:Av)(H:Hp)
mutual
/-- a heap bears a value that stays (the things that may still be written are in A) -/
inductive Rep:D->V->Prop where
 | non:Rep .non .non
 | bl (b:Bool):Rep (.bl b)<|.bl b
 | int (i:Int):Rep (.int i)<|.int i
 | str (x:Str):Rep (.str x)<|.str x
 | tup {l:List D} {a:Addr} {xs:List V} (h:H a=bx (.tup xs)) (r:RepL l xs):Rep (.tup l)<|.ref a
 | lst {l:List D} {a:Addr} {xs:List V} (n:¬ A a) (h:Rd H a<|.lst xs) (r:RepL l xs):Rep (.lst l)<|.ref a
 | dK {l:List (Key×D)} {a:Addr} {xs:List (Key×V)} (n:¬ A a) (h:Rd H a<|.dK xs) (e:xs.map (·.1)=l.map (·.1)) (r:RepL (l.map (·.2))<|xs.map (·.2)):Rep (.dK l)<|.ref a
 | dT {l:List (List Key×D)} {a:Addr} {xs:List (List Key×V)} (n:¬ A a) (h:Rd H a<|.dT xs) (e:xs.map (·.1)=l.map (·.1)) (r:RepL (l.map (·.2))<|xs.map (·.2)):Rep (.dT l)<|.ref a
 | ob {C a dx:Addr} {fs:List (Str×D)} {vs:List (Str×V)} (n:¬ A a) (h:H a=bx (.ins C dx vs)) (e:vs.map (·.1)=fs.map (·.1)) (r:RepL (fs.map (·.2))<|vs.map (·.2)):Rep (.ob C fs)<|.ref a
 | mem {dom:List (Key×List Key)} {f:Key×List Key->Option (Int×Int)} {a:Addr} (h:H a=bx (.memo dom f cb)):Rep (.mem dom f)<|.ref a
inductive RepL:List D->List V->Prop where
 | nil:RepL [] []
 | cons {d:D} {v:V} {ds:List D} {vs:List V} (h:Rep d v) (t:RepL ds vs):RepL (d::ds)<|v::vs
end
inductive RepB:D->V->Prop where
 | of {d:D} {v:V} (h:Rep A H d v):RepB d v
 | lst {l:List D} {a:Addr} {xs:List V} (h:Rd H a<|.lst xs) (r:RepL A H l xs):RepB (.lst l)<|.ref a
 | dK {l:List (Key×D)} {a:Addr} {xs:List (Key×V)} (h:Rd H a<|.dK xs) (e:xs.map (·.1)=l.map (·.1)) (r:RepL A H (l.map (·.2))<|xs.map (·.2)):RepB (.dK l)<|.ref a
 | dT {l:List (List Key×D)} {a:Addr} {xs:List (List Key×V)} (h:Rd H a<|.dT xs) (e:xs.map (·.1)=l.map (·.1)) (r:RepL A H (l.map (·.2))<|xs.map (·.2)):RepB (.dT l)<|.ref a
inductive Own:D->Addr->Prop where
 | lst {l:List D} {a:Addr} {xs:List V} (h:H a=bx (.lst xs)) (r:RepL A H l xs):Own (.lst l) a
 | dK {l:List (Key×D)} {a:Addr} {xs:List (Key×V)} (h:H a=bx (.dK xs)) (e:xs.map (·.1)=l.map (·.1)) (r:RepL A H (l.map (·.2))<|xs.map (·.2)):Own (.dK l) a
 | dT {l:List (List Key×D)} {a:Addr} {xs:List (List Key×V)} (h:H a=bx (.dT xs)) (e:xs.map (·.1)=l.map (·.1)) (r:RepL A H (l.map (·.2))<|xs.map (·.2)):Own (.dT l) a
end
def Kp:HO->Prop
 |.tup _=>True | .lst _=>True | .ins _ _ _=>True | .memo _ _ _=>True|_=>False
structure Ext(A:Av)(H H':Hp):Prop where
 rd:∀b u,Rd H b u->Rd H' b u
 kp:∀b u,Kp u->H b=bx u->H' b=bx u
 ow:∀b u,A b->H b=bx u->H' b=bx u
 fz:∀b o u,H b=bx (.frz o u)->H' b=bx (.frz o u)
def Ext.refl(A:Av)(H:Hp):Ext A H H:=⟨λ_ _ h=>h,λ_ _ _ h=>h,λ_ _ _ h=>h,λ_ _ _ h=>h⟩
def Ext.trans(a:Ext A H H1)(b:Ext A H1 H2):Ext A H H2:=
 ⟨λc u h=>b.rd c u<|a.rd c u h,λc u k h=>b.kp c u k<|a.kp c u k h,λc u n h=>b.ow c u n<|a.ow c u n h,λc o u h=>b.fz c o u<|a.fz c o u h⟩
def Ext.mono(h:Ext A H H')(s:∀a,A' a->A a):Ext A' H H':=⟨h.rd,h.kp,λb u n e=>h.ow b u (s b n) e,h.fz⟩
def Ext.same(h:Same H H'):Ext A H H':=
 ⟨λb u r=>by rcases r with r|⟨o,r⟩;exact .inl<|h _ _ r;exact .inr ⟨o,h _ _ r⟩,λb u _ r=>h _ _ r,λb u _ r=>h _ _ r,λb o u r=>h _ _ r⟩
def Ext.tp(x:Ext A H H')(b:Addr)(xs:List V)(h:H b=bx (.tup xs)):H' b=bx (.tup xs):=x.kp b _ trivial h
def Ext.new(h:H p=cb):Ext A H<|upd H p o:=Ext.same<|My.MZ h
mutual
theorem Rep.ext(x:Ext A H H'):Rep A H d v->Rep A H' d v
 |.non=>.non
 |.bl b=>.bl b
 |.int i=>.int i
 |.str s=>.str s
 |.tup h r=>.tup (x.tp _ _ h)<|RepL.ext x r
 |.lst n h r=>.lst n (x.rd _ _ h)<|RepL.ext x r
 |.dK n h e r=>.dK n (x.rd _ _ h) e<|RepL.ext x r
 |.dT n h e r=>.dT n (x.rd _ _ h) e<|RepL.ext x r
 |.ob n h e r=>.ob n (x.kp _ _ trivial h) e<|RepL.ext x r
 |.mem h=>.mem<|x.kp _ _ trivial h
theorem RepL.ext(x:Ext A H H'):RepL A H ds vs->RepL A H' ds vs
 |.nil=>.nil
 |.cons h t=>.cons (Rep.ext x h)<|RepL.ext x t
end
theorem RepB.ext(x:Ext A H H'):RepB A H d v->RepB A H' d v
 |.of h=>.of<|h.ext x
 |.lst h r=>.lst (x.rd _ _ h)<|r.ext x
 |.dK h e r=>.dK (x.rd _ _ h) e<|r.ext x
 |.dT h e r=>.dT (x.rd _ _ h) e<|r.ext x
theorem Own.ext(x:Ext A H H')(q:A a):Own A H d a->Own A H' d a
 |.lst h r=>.lst (x.ow _ _ q h)<|r.ext x
 |.dK h e r=>.dK (x.ow _ _ q h) e<|r.ext x
 |.dT h e r=>.dT (x.ow _ _ q h) e<|r.ext x
def Own.b:Own A H d a->RepB A H d (.ref a)
 |.lst h r=>.lst (.inl h) r
 |.dK h e r=>.dK (.inl h) e r
 |.dT h e r=>.dT (.inl h) e r
mutual
/-- avoid other things: those that were not there, or fewer -/
theorem Rep.av(x:∀a,A' a->A a\/H a=cb):Rep A H d v->Rep A' H d v
 |.non=>.non
 |.bl b=>.bl b
 |.int i=>.int i
 |.str s=>.str s
 |.tup h r=>.tup h<|RepL.av x r
 |.lst n h r=>.lst (λz=>(x _ z).elim n λz=>by rcases h with h|⟨o,h⟩ <;> (rw[z]at h;cases h)) h<|RepL.av x r
 |.dK n h e r=>.dK (λz=>(x _ z).elim n λz=>by rcases h with h|⟨o,h⟩ <;> (rw[z]at h;cases h)) h e<|RepL.av x r
 |.dT n h e r=>.dT (λz=>(x _ z).elim n λz=>by rcases h with h|⟨o,h⟩ <;> (rw[z]at h;cases h)) h e<|RepL.av x r
 |.ob n h e r=>.ob (λz=>(x _ z).elim n λz=>by rw[z]at h;cases h) h e<|RepL.av x r
 |.mem h=>.mem h
theorem RepL.av(x:∀a,A' a->A a\/H a=cb):RepL A H ds vs->RepL A' H ds vs
 |.nil=>.nil
 |.cons h t=>.cons (Rep.av x h)<|RepL.av x t
end
def qi:HO->Prop
 |.lst _=>True | .dK _=>True | .dT _=>True|_=>False
def gP(n:b≠a)(h:Rd H b u):Rd (upd H a o) b u:=by
 rcases h with h|⟨x,h⟩
 .exact .inl<|by rw[aG n];exact h
 .exact .inr ⟨x,by rw[aG n];exact h⟩
mutual
theorem Rep.put(q:A a)(F:H a=bx u)(ob:qi u):Rep A H d v->Rep A (upd H a o) d v
 |.non=>.non
 |.bl b=>.bl b
 |.int i=>.int i
 |.str s=>.str s
 |.tup (a:=b) h r=>.tup (by rw[aG λz=>by subst z;rw[F]at h;cases h;exact ob];exact h)<|RepL.put q F ob r
 |.lst (a:=b) n h r=>.lst n (gP (λz=>n<|by rw[z];exact q) h)<|RepL.put q F ob r
 |.dK (a:=b) n h e r=>.dK n (gP (λz=>n<|by rw[z];exact q) h) e<|RepL.put q F ob r
 |.dT (a:=b) n h e r=>.dT n (gP (λz=>n<|by rw[z];exact q) h) e<|RepL.put q F ob r
 |.ob (a:=b) n h e r=>.ob n (by rw[aG λz=>by subst z;rw[F]at h;cases h;exact ob];exact h) e<|RepL.put q F ob r
 |.mem (a:=b) h=>.mem<|by rw[aG λz=>by subst z;rw[F]at h;cases h;exact ob];exact h
theorem RepL.put(q:A a)(z:H a=bx u)(ob:qi u):RepL A H ds vs->RepL A (upd H a o) ds vs
 |.nil=>.nil
 |.cons h t=>.cons (Rep.put q z ob h)<|RepL.put q z ob t
end
theorem Own.put{A:Av}{H:Hp}{a b:Addr}{o u:HO}(z:A a)(F:H a=bx u)(ob:qi u)(q:b≠a){d:D}:Own A H d b->Own A (upd H a o) d b
 |.lst h r=>.lst (by rw[aG q];exact h)<|r.put z F ob
 |.dK h e r=>.dK (by rw[aG q];exact h) e<|r.put z F ob
 |.dT h e r=>.dT (by rw[aG q];exact h) e<|r.put z F ob
theorem Own.av(x:∀a,A' a->A a\/H a=cb):Own A H d a->Own A' H d a
 |.lst h r=>.lst h<|r.av x
 |.dK h e r=>.dK h e<|r.av x
 |.dT h e r=>.dT h e<|r.av x
def Own.rep(n:¬ A a):Own A H d a->Rep A H d (.ref a)
 |.lst h r=>.lst n (.inl h) r
 |.dK h e r=>.dK n (.inl h) e r
 |.dT h e r=>.dT n (.inl h) e r
section
variable {A:Av}{H:Hp}
theorem RepL.length:∀ {ds:List D} {vs:List V},RepL A H ds vs->vs.length=ds.length
 |_,_,.nil=>rfl
 |_,_,.cons _ t=>by rw[zaA,zaA,RepL.length t]
theorem RepL.get:∀ {ds:List D} {vs:List V} {i:Nat} {v:V},RepL A H ds vs->vs[i]?=bx v->∃d,ds[i]?=bx d/\Rep A H d v
 |_,_,i,v,.nil,e=>by simp at e
 |_,_,0,v,.cons h t,e=>by simp at e;subst e;exact⟨_,rfl,h⟩
 |_,_,i+1,v,.cons h t,e=>RepL.get (i:=i) t<|by simpa using e
theorem RepL.get':∀ {ds:List D} {vs:List V} {i:Nat} {d:D},RepL A H ds vs->ds[i]?=bx d->∃v,vs[i]?=bx v/\Rep A H d v
 |_,_,i,v,.nil,e=>by simp at e
 |_,_,0,v,.cons h t,e=>by simp at e;subst e;exact⟨_,rfl,h⟩
 |_,_,i+1,v,.cons h t,e=>RepL.get' (i:=i) t<|by simpa using e
theorem RepL.append:∀ {ds es:List D} {vs us:List V},RepL A H ds vs->RepL A H es us->RepL A H (ds++es) (vs++us)
 |_,_,_,_,.nil,s=>s
 |_,_,_,_,.cons h t,s=>.cons h<|RepL.append t s
theorem RepL.take:∀ {ds:List D} {vs:List V} (n:Nat),RepL A H ds vs->RepL A H (ds.take n) (vs.take n)
 |_,_,0,_=>by simp;exact .nil
 |_,_,n+1,.nil=>.nil
 |_,_,n+1,.cons h t=>.cons h<|RepL.take n t
theorem RepL.drop:∀ {ds:List D} {vs:List V} (n:Nat),RepL A H ds vs->RepL A H (ds.drop n) (vs.drop n)
 |_,_,0,r=>r
 |_,_,n+1,.nil=>.nil
 |_,_,n+1,.cons h t=>RepL.drop n t
theorem RepL.set:∀ {ds:List D} {vs:List V} {d:D} {v:V} (n:Nat),Rep A H d v->RepL A H ds vs->RepL A H (ds.set n d) (vs.set n v)
 |_,_,_,_,_,_,.nil=>.nil
 |_,_,_,_,0,r,.cons h t=>.cons r t
 |_,_,_,_,n+1,r,.cons h t=>.cons h<|RepL.set n r t
def RepB.int_inv(h:RepB A H (.int i) v):v=.int i:=by cases h with|of h=>cases h;rfl
def RepB.bl_inv(h:RepB A H (.bl i) v):v=.bl i:=by cases h with|of h=>cases h;rfl
def RepB.str_inv(h:RepB A H (.str i) v):v=.str i:=by cases h with|of h=>cases h;rfl
def RepB.non_inv(h:RepB A H .non v):v=.non:=by cases h with|of h=>cases h;rfl
def RepB.tup_inv(h:RepB A H (.tup l) v):∃a xs,v=.ref a/\H a=bx (.tup xs)/\RepL A H l xs:=by
 cases h with|of h=>cases h with|tup h r=>exact⟨_,_,rfl,h,r⟩
def RepB.ob_inv{C:Addr}{fs:List (Str×D)}{v:V}(h:RepB A H (.ob C fs) v):∃a dx vs,v=.ref a/\H a=bx (.ins C dx vs)/\vs.map (·.1)=fs.map (·.1)/\RepL A H (fs.map (·.2)) (vs.map (·.2)):=by
 cases h with
 |of h=>cases h with
  |ob n h e r=>exact⟨_,_,_,rfl,h,e,r⟩
def RepB.mem_inv{dom:List (Key×List Key)}{f:Key×List Key->Option (Int×Int)}{v:V}(h:RepB A H (.mem dom f) v):∃a,v=.ref a/\H a=bx (.memo dom f cb):=by
 cases h with
 |of h=>cases h with
  |mem h=>exact⟨_,rfl,h⟩
def RepB.lst_inv(h:RepB A H (.lst l) v):∃a xs,v=.ref a/\Rd H a (.lst xs)/\RepL A H l xs:=by
 cases h with
 |of h=>cases h with|lst n h r=>exact⟨_,_,rfl,h,r⟩
 |lst h r=>exact⟨_,_,rfl,h,r⟩
def RepB.dK_inv(h:RepB A H (.dK l) v):∃a xs,v=.ref a/\Rd H a (.dK xs)/\xs.map (·.1)=l.map (·.1)/\RepL A H (l.map (·.2)) (xs.map (·.2)):=by
 cases h with
 |of h=>cases h with|dK n h e r=>exact⟨_,_,rfl,h,e,r⟩
 |dK h e r=>exact⟨_,_,rfl,h,e,r⟩
def RepB.dT_inv(h:RepB A H (.dT l) v):∃a xs,v=.ref a/\Rd H a (.dT xs)/\xs.map (·.1)=l.map (·.1)/\RepL A H (l.map (·.2)) (xs.map (·.2)):=by
 cases h with
 |of h=>cases h with|dT n h e r=>exact⟨_,_,rfl,h,e,r⟩
 |dT h e r=>exact⟨_,_,rfl,h,e,r⟩
end
abbrev cA:=List<|Option D
inductive Fact where
 | rep (d:D) (v:V)|fz (a:Addr) (o:Obj) (u:HO)
def Fact.Holds(A:Av)(H:Hp):Fact->Prop
 |.rep d v=>Rep A H d v
 |.fz a o u=>H a=bx (.frz o u)
theorem Fact.ext(x:Ext A H H'):∀ {p:Fact},p.Holds A H->p.Holds A H'
 |.rep _ _,h=>Rep.ext x h
 |.fz _ _ _,h=>x.fz _ _ _ h
theorem Fact.av(x:∀a,A' a->A a\/H a=cb):∀ {p:Fact},p.Holds A H->p.Holds A' H
 |.rep _ _,h=>Rep.av x h
 |.fz _ _ _,h=>h
theorem Fact.put(G:A a)(F:H a=bx u)(ob:qi u):∀ {p:Fact},p.Holds A H->p.Holds A (upd H a o)
 |.rep _ _,h=>Rep.put G F ob h
 |.fz b q w,h=>by
  have h:H b=bx (.frz q w):=h;show upd H a o b=bx (.frz q w);rw[aG λz=>by subst z;rw[F]at h;cases h;exact ob];exact h
structure ST(H0:Hp)(A0 A:Av)(E:List Fact)(O:List Nat)(σ:L2.St)(H:Hp)(ρ:cA):Prop where
 ex:Ext A0 H0 H
 sub:∀a,A0 a->A a
 l0:∀a,A0 a->H0 a≠cb
 live:∀a,A a->H a≠cb
 len:σ.length=ρ.length
 val:∀i d,ρ[i]?=bx (bx d)->i∉O->∃v,σ[i]?=bx (bx v)/\Rep A H d v
 own:∀i d,ρ[i]?=bx (bx d)->i∈O->∃a,σ[i]?=bx (bx<|.ref a)/\A a/\H0 a=cb/\Own A H d a
 inj:∀i j d d' a,i∈O->j∈O->ρ[i]?=bx (bx d)->ρ[j]?=bx (bx d')->σ[i]?=bx (bx<|.ref a)->σ[j]?=bx (bx<|.ref a)->i=j
 ext:∀p∈E,p.Holds A H
section
variable {H0:Hp}{A0 A:Av}{E:List Fact}{O:List Nat}{σ:L2.St}{H H':Hp}{ρ:cA}
theorem ST.mono(s:ST H0 A0 A E O σ H ρ)(x:Ext A H H'):ST H0 A0 A E O σ H' ρ where
 ex:=s.ex.trans<|x.mono s.sub
 sub:=s.sub
 l0:=s.l0
 live:=λa q=>by
  have:=s.live a q;cases e:H a with
  |none=>exact absurd e this
  |some u=>rw[x.ow a u q e];exact λz=>nomatch z
 len:=s.len
 val:=λi d h n=>by obtain⟨v,h1,h2⟩:=s.val i d h n;exact⟨v,h1,h2.ext x⟩
 own:=λi d h n=>by obtain⟨a,h1,h2,G,F⟩:=s.own i d h n;exact⟨a,h1,h2,G,F.ext x h2⟩
 inj:=s.inj
 ext:=λp J=>Fact.ext x (s.ext p J)
def ST.more(s:ST H0 A0 A E O σ H ρ)(h:Rep A H d v):ST H0 A0 A (.rep d v::E) O σ H ρ:=
 {s with ext:=λp q=>by rcases List.mem_cons.mp q with e|e;rw[e];exact h;exact s.ext p e}
def ST.less(s:ST H0 A0 A E O σ H ρ)(h:∀p∈E',p∈E):ST H0 A0 A E' O σ H ρ:=
 {s with ext:=λp q=>s.ext p (h p q)}
def dA(h:(ρ.set i o)[j]?=bx (bx d)):(j=i/\o=bx d/\i<ρ.length)\/(j≠i/\ρ[j]?=bx (bx d)):=by
 rw[List.getElem?_set]at h;by_cases e:i=j
 .rw[ck e]at h
  by_cases l:i<ρ.length
  .rw[ck l]at h
   exact .inl ⟨e.symm,zay h,l⟩
  .rw[cq l]at h;cases h
 .rw[cq e]at h
  exact .inr ⟨λz=>e z.symm,h⟩
def sig_set(h:i<σ.length):(σ.set i<|bx v)[i]?=bx (bx v):=by simp[h]
def lL(h:j≠i):(σ.set i<|bx v)[j]?=σ[j]?:=by rw[za7<|zaI h]
def ST.put(s:ST H0 A0 A E O σ H ρ)(h:Rep A H d v)(n:i∉O):ST H0 A0 A E O (σ.set i<|bx v) H (ρ.set i<|bx d) where
 ex:=s.ex
 sub:=s.sub
 l0:=s.l0
 live:=s.live
 len:=by simp[s.len]
 val:=λj d' h' F=>by
  rcases dA h' with⟨e,q,l⟩|⟨e,q⟩
  .subst e;cases q;exact⟨v,sig_set (by rw[s.len];exact l),h⟩
  .obtain⟨w,h1,h2⟩:=s.val j d' q F;exact⟨w,by rw[lL e];exact h1,h2⟩
 own:=λj d' h' F=>by
  rcases dA h' with⟨e,q,l⟩|⟨e,q⟩
  .subst e;exact absurd F n
  .obtain⟨w,h1,h2⟩:=s.own j d' q F;exact⟨w,by rw[lL e];exact h1,h2⟩
 inj:=λj k d1 d2 a G N h1 h2 W Y=>by
  have J:j≠i:=λz=>n<|z ▸ G
  have U:k≠i:=λz=>n<|z ▸ N
  rcases dA h1 with⟨e,_⟩|⟨_,h1⟩
  .exact absurd e J
  rcases dA h2 with⟨e,_⟩|⟨_,h2⟩
  .exact absurd e U
  exact s.inj j k d1 d2 a G N h1 h2 (by rw[lL J]at W;exact W)<|by rw[lL U]at Y;exact Y
 ext:=s.ext
def ST.shut(s:ST H0 A0 A E O σ H ρ)(h:∀i,i∈O'->i∈O):∃A',ST H0 A0 A' E O' σ H ρ:=by
 let F:Av:=λa=>∃i d,i∈O/\i∉O'/\ρ[i]?=bx (bx d)/\σ[i]?=bx (bx<|.ref a)
 have cut:∀a,(A a/\¬ F a)->A a\/H a=cb:=λa z=>.inl z.1
 refine⟨λa=>A a/\¬ F a,s.ex,λa J=>⟨s.sub a J,?_⟩,s.l0,λa J=>s.live a J.1,s.len,λi d hi n=>?_,λi d hi n=>?_,λi j d d' a hi hj=>s.inj i j d d' a (h i hi)<|h j hj,λp hp=>Fact.av cut<|s.ext p hp⟩
 .rintro⟨i,d,h1,h2,h3,Y⟩
  obtain⟨b,q,G,U,N⟩:=s.own i d h3 h1;rw[Y]at q;cases q;exact s.l0 a J U
 .by_cases W:i∈O
  .obtain⟨a,q,G,U,N⟩:=s.own i d hi W
   exact⟨.ref a,q,(N.av cut).rep λz=>z.2 ⟨i,d,W,n,hi,q⟩⟩
  .obtain⟨v,q,G⟩:=s.val i d hi W
   exact⟨v,q,G.av cut⟩
 .obtain⟨a,q,G,U,N⟩:=s.own i d hi (h i n)
  refine⟨a,q,⟨G,?_⟩,U,N.av cut⟩;rintro⟨j,d',h1,h2,h3,Y⟩;have:=s.inj i j d d' a (h i n) h1 hi h3 q Y;subst this;exact h2 n
end
abbrev Ev:=cA->Option D
abbrev Bv:=cA->Option Bool
abbrev Lv:=cA->Option (List D)
abbrev RR:=Av->Hp->D->V->Prop
inductive tD(R:RR)(O:List Nat)(f:Ev)(σ:L2.St)(H:Hp)(Q:VK):Prop
 | mk (H0:Hp) (A0 A:Av) (E:List Fact) (ρ:cA) (d:D) (st:ST H0 A0 A E O σ H ρ) (e:f ρ=bx d) (q:∀v H',Ext A H H'->R A H' d v->Q v H'):tD R O f σ H Q
inductive tDT(O:List Nat)(g:Bv)(σ:L2.St)(H:Hp)(Q:Bool->Hp->Prop):Prop
 | mk (H0:Hp) (A0 A:Av) (E:List Fact) (ρ:cA) (b:Bool) (st:ST H0 A0 A E O σ H ρ) (e:g ρ=bx b) (q:∀H',Ext A H H'->Q b H'):tDT O g σ H Q
def PD(X:Cx)(O:List Nat)(e:Expr)(f:Ev):Prop:=PE X e<|tD Rep O f
def PB(X:Cx)(O:List Nat)(e:Expr)(f:Ev):Prop:=PE X e<|tD RepB O f
def uT(X:Cx)(O:List Nat)(e:Expr)(g:Bv):Prop:=PT X e<|tDT O g
def PDW(X:Cx)(O:List Nat)(e:Expr)(g:Bv):Prop:=PW X e<|tDT O g
theorem PDW.pt(h:PDW X O e g):uT X O e g:=PW.pt h
inductive RL(R:RR)(A:Av)(H:Hp):List D->List V->Prop where
 | nil:RL R A H [] []
 | cons {d v ds vs} (h:R A H d v) (t:RL R A H ds vs):RL R A H (d::ds)<|v::vs
inductive tDA(R:RR)(O:List Nat)(f:Lv)(σ:L2.St)(H:Hp)(Q:List V->Hp->Prop):Prop
 | mk (H0:Hp) (A0 A:Av) (E:List Fact) (ρ:cA) (ds:List D) (st:ST H0 A0 A E O σ H ρ) (e:f ρ=bx ds) (q:∀vs H',Ext A H H'->RL R A H' ds vs->Q vs H'):tDA R O f σ H Q
def wW(X:Cx)(O:List Nat)(es:List Expr)(f:Lv):Prop:=PA X es<|tDA Rep O f
def wV(X:Cx)(O:List Nat)(es:List Expr)(f:Lv):Prop:=PA X es<|tDA RepB O f
section
variable {X:Cx}{O:List Nat}
def PE.mono(h:PE X e t)(x:∀σ H Q,t' σ H Q->t σ H Q):PE X e t':=λpins s σ H Q I w=>h pins s σ H Q I<|x σ H Q w
def PT.mono(h:PT X e t)(x:∀σ H Q,t' σ H Q->t σ H Q):PT X e t':=λpins s σ H Q I w=>h pins s σ H Q I<|x σ H Q w
def PW.mono(h:PW X e t)(x:∀σ H Q,t' σ H Q->t σ H Q):PW X e t':=λq pins s σ H Q I w=>h q pins s σ H Q I<|x σ H Q w
def PA.mono(h:PA X es t)(x:∀σ H Q,t' σ H Q->t σ H Q):PA X es t':=λpos pins s σ H Q I w=>h pos pins s σ H Q I<|x σ H Q w
def PD.b{e:Expr}{f:Ev}(h:PD X O e f):PB X O e f:=PE.mono h λσ H Q ⟨H0,A0,A,E,ρ,d,st,e,q⟩=>⟨H0,A0,A,E,ρ,d,st,e,λv H' x r=>q v H' x<|.of r⟩
theorem RL.toL:∀ {ds:List D} {vs:List V},RL Rep A H ds vs->RepL A H ds vs
 |_,_,.nil=>.nil
 |_,_,.cons h t=>.cons h<|RL.toL t
def aD(i:Nat):Ev:=λρ=>(ρ[i]?).join
def eC(d:D):Ev:=λ_=>bx d
def bT{ρ:cA}{i:Nat}{d:D}(h:(ρ[i]?).join=bx d):ρ[i]?=bx (bx d):=by
 cases e:ρ[i]? with
 |none=>rw[e]at h;cases h
 |some o=>rw[e]at h;cases o with
  |none=>cases h
  |some x=>cases h;rfl
def t7{e:Expr}(i:Nat)(h:PE X e<|cN i)(n:i∉O):PD X O e<|aD i:=PE.mono h <| by
 rintro σ H Q ⟨H0,A0,A,E,ρ,d,st,e,q⟩;obtain⟨v,z,r⟩:=st.val i d (bT e) n;exact⟨v,z,q v H (Ext.refl _ _) r⟩
def WK{e:Expr}(i:Nat)(h:PE X e<|cN i):PB X O e<|aD i:=PE.mono h <| by
 rintro σ H Q ⟨H0,A0,A,E,ρ,d,st,e,q⟩;by_cases n:i∈O
 .obtain⟨a,z,_,_,r⟩:=st.own i d (bT e) n
  exact⟨_,z,q _ H (Ext.refl _ _) r.b⟩
 .obtain⟨v,z,r⟩:=st.val i d (bT e) n
  exact⟨v,z,q v H (Ext.refl _ _)<|.of r⟩
def XB{i j pos}:PD X O (.Constant (.int i) j pos)<|eC<|.int i:=PE.mono W4 λσ H Q ⟨H0,A0,A,E,ρ,d,st,e,q⟩=>by cases e;exact q _ H (Ext.refl _ _)<|.int _
def qab{i j pos}:PD X O (.Constant (.bool i) j pos)<|eC<|.bl i:=PE.mono qag λσ H Q ⟨H0,A0,A,E,ρ,d,st,e,q⟩=>by cases e;exact q _ H (Ext.refl _ _)<|.bl _
def XU{i j pos}:PD X O (.Constant (.str i) j pos)<|eC<|.str i:=PE.mono XH λσ H Q ⟨H0,A0,A,E,ρ,d,st,e,q⟩=>by cases e;exact q _ H (Ext.refl _ _)<|.str _
def YR{j pos}:PD X O (.Constant .none j pos)<|eC .non:=PE.mono XC λσ H Q ⟨H0,A0,A,E,ρ,d,st,e,q⟩=>by cases e;exact q _ H (Ext.refl _ _) .non
def Live(A:Av)(H:Hp):Prop:=∀a,A a->H a≠cb
inductive rD(g:D->D->Option D)(x y:V)(H:Hp)(Q:VK):Prop
 | mk (A:Av) (dx dy d:D) (lv:Live A H) (rx:RepB A H dx x) (ry:RepB A H dy y) (e:g dx dy=bx d) (q:∀v H',Ext A H H'->Rep A H' d v->Q v H'):rD g x y H Q
def kT(X:Cx)(f:Value->Value->Sem Value)(g:D->D->Option D):Prop:=OpR X f<|rD g
def OpR.mono(h:OpR X f r)(x:∀a b H Q,r' a b H Q->r a b H Q):OpR X f r':=λpins s σ H a b v u Q I z q w=>h pins s σ H a b v u Q I z q<|x a b H Q w
def bB(g:D->D->Option D)(q fb:Ev):Ev:=λρ=>(q ρ).bind λx=>(fb ρ).bind λy=>g x y
def bind_some{q β:Type}{o:Option q}{f:q->Option β}{b:β}(h:o.bind f=bx b):∃a,o=bx a/\f a=bx b:=by
 cases o with
 |none=>cases h
 |some a=>exact⟨a,rfl,h⟩
def yZ{g:D->D->Option D}{J fb:Ev}{σ:L2.St}{H:Hp}{Q:VK}(h:tD Rep O (bB g J fb) σ H Q):tOp (rD g) (tD RepB O J) (tD RepB O fb) σ H Q:=by
 obtain⟨H0,A0,A,E,ρ,d,st,e,q⟩:=h;obtain⟨x,ex,e⟩:=bind_some e;obtain⟨y,U,e⟩:=bind_some e;exact⟨H0,A0,A,E,ρ,x,st,ex,λv H1 G r1=>⟨H0,A0,A,E,ρ,y,st.mono G,U,λw H2 F r2=>⟨A,x,y,d,(st.mono<|G.trans F).live,r1.ext F,r2,e,λz N W r3=>q z N ((G.trans F).trans W) r3⟩⟩⟩
def bI(F:kT X (zaQ op) g)(z:PB X O a fa)(q:PB X O b fb):PD X O (.BinOp a op b pos)<|bB g fa fb:=
 PE.mono (VH F z q) λσ H Q h=>yZ h
def OI(F:kT X (zaC op) g)(z:PB X O a fa)(q:PB X O b fb)(G:zbV op b=ci):PD X O (.Compare a [op] [b] pos)<|bB g fa fb:=
 PE.mono (SH F z q G) λσ H Q h=>yZ h
def U5:D->Option Bool
 |.bl b=>bx b
 |_=>cb
def sM(h:U5 d=bx b):d=.bl b:=by
 cases d <;> cases h;rfl
def pS(f:Ev):Bv:=λρ=>(f ρ).bind U5
def BR{f:Ev}{σ:L2.St}{H:Hp}{Q:Bool->Hp->Prop}(h:tDT O (pS f) σ H Q):tD Rep O f σ H λx H'=>∃k,x=.bl k/\Q k H':=by
 obtain⟨H0,A0,A,E,ρ,b,st,e,q⟩:=h;obtain⟨x,ex,e⟩:=bind_some e;rw[sM e]at ex;exact⟨H0,A0,A,E,ρ,_,st,ex,λv H1 z r1=>⟨b,RepB.bl_inv<|.of r1,q H1 z⟩⟩
def GF(F:kT X (zaC op) g)(z:PB X O a fa)(q:PB X O b fb)(G:zbV op b=ci):uT X O (.Compare a [op] [b] pos)<|pS<|bB g fa fb:=
 PT.mono (RV F z q G) λσ H Q h=>yZ<|BR h
def G5(h:PD X O e f)(z:∀q,isTrue e X.env q=(do let v <- q;standAt e.pos;zcm [v]<|truthy v):=by intro _;rfl):uT X O e<|pS f:=
 PT.mono (WE h z) λσ H Q h=>BR h
def QJ(g:Bv):Bv:=λρ=>(g ρ).map (!·)
def K7(g h:Bv):Bv:=λρ=>(g ρ).bind λb=>if b=cf then h ρ else bx ci
def WB(g h:Bv):Bv:=λρ=>(g ρ).bind λb=>if b=cf then bx cf else h ρ
def GB(h:uT X O a g):uT X O (.UnaryOp .Not a pos)<|QJ g:=PT.mono (X7 h) <| by
 rintro σ H Q ⟨H0,A0,A,E,ρ,b,st,e,q⟩;unfold QJ at e;cases z:g ρ with
 |none=>rw[z]at e;cases e
 |some c=>rw[z]at e;cases e;exact⟨H0,A0,A,E,ρ,c,st,z,q⟩
def BL(h:uT X O a g):PDW X O (.BoolOp .And [a] pos) g:=TL h
def RE(h:uT X O a g):PDW X O (.BoolOp .Or [a] pos) g:=ZQ h
def GN{a b:Expr}{rest:List Expr}{pos:Pos}{g k:Bv}(J:uT X O a g)(G:PDW X O (.BoolOp .And (b::rest) pos) k):PDW X O (.BoolOp .And (a::b::rest) pos)<|K7 g k:=
 PW.mono (XM J G) <| by
  rintro σ H Q ⟨H0,A0,A,E,ρ,b,st,e,q⟩;obtain⟨x,ex,e⟩:=bind_some e;refine⟨H0,A0,A,E,ρ,x,st,ex,λH1 z=>?_⟩;cases x with
  |false=>rw[cq zaB]at e ⊢;cases e;exact q H1 z
  |true=>rw[ck rfl]at e ⊢;exact⟨H0,A0,A,E,ρ,b,st.mono z,e,λH2 F=>q H2<|z.trans F⟩
def ZC{a b:Expr}{rest:List Expr}{pos:Pos}{g k:Bv}(J:uT X O a g)(G:PDW X O (.BoolOp .Or (b::rest) pos) k):PDW X O (.BoolOp .Or (a::b::rest) pos)<|WB g k:=
 PW.mono (qaQ J G) <| by
  rintro σ H Q ⟨H0,A0,A,E,ρ,b,st,e,q⟩;obtain⟨x,ex,e⟩:=bind_some e;refine⟨H0,A0,A,E,ρ,x,st,ex,λH1 z=>?_⟩;cases x with
  |true=>rw[ck rfl]at e ⊢;cases e;exact q H1 z
  |false=>rw[cq zaB]at e ⊢;exact⟨H0,A0,A,E,ρ,b,st.mono z,e,λH2 F=>q H2<|z.trans F⟩
def QH(f g:Ev):Ev:=λρ=>(f ρ).bind λx=>(U5 x).bind λb=>if b=cf then g ρ else bx<|.bl ci
def qa6(f:Ev):Ev:=λρ=>(f ρ).bind λx=>(U5 x).map λb=>.bl<|!b
def eIf(c:Bv)(f g:Ev):Ev:=λρ=>(c ρ).bind λb=>if b=cf then f ρ else g ρ
def YF{op}(h:PD X O a f):PD X O (.BoolOp op [a] pos) f:=WW h
def YD{a b:Expr}{rest:List Expr}{pos:Pos}{f g:Ev}(F:PD X O a f)(J:PD X O (.BoolOp .And (b::rest) pos) g):PD X O (.BoolOp .And (a::b::rest) pos)<|QH f g:=
 PE.mono (WG F J) <| by
  rintro σ H Q ⟨H0,A0,A,E,ρ,d,st,e,q⟩;obtain⟨x,ex,e⟩:=bind_some e;obtain⟨b,N,e⟩:=bind_some e;rw[sM N]at ex;refine⟨H0,A0,A,E,ρ,_,st,ex,λv H1 z r1=>⟨b,RepB.bl_inv<|.of r1,?_⟩⟩;cases b with
  |false=>rw[cq zaB]at e ⊢;cases e;exact q _ H1 z<|.bl _
  |true=>rw[ck rfl]at e ⊢;exact⟨H0,A0,A,E,ρ,d,st.mono z,e,λw H2 G=>q w H2<|z.trans G⟩
def WU{a:Expr}{pos:Pos}{f:Ev}(G:PD X O a f):PD X O (.UnaryOp .Not a pos)<|qa6 f:=
 PE.mono (W5 G) <| by
  rintro σ H Q ⟨H0,A0,A,E,ρ,d,st,e,q⟩;obtain⟨x,ex,e⟩:=bind_some e;cases z:U5 x with
  |none=>rw[z]at e;cases e
  |some b=>
   rw[z]at e;cases e;rw[sM z]at ex;exact⟨H0,A0,A,E,ρ,_,st,ex,λv H1 F r1=>⟨b,RepB.bl_inv<|.of r1,q _ H1 F<|.bl _⟩⟩
def VA{c a b:Expr}{pos:Pos}{g:Bv}{f k:Ev}(U:uT X O c g)(G:PD X O a f)(J:PD X O b k):PD X O (.IfExp c a b pos)<|eIf g f k:=
 PE.mono (LF U G J) <| by
  rintro σ H Q ⟨H0,A0,A,E,ρ,d,st,e,q⟩;obtain⟨b,N,e⟩:=bind_some e;refine⟨H0,A0,A,E,ρ,b,st,N,λH1 z=>?_⟩;cases b with
  |true=>rw[ck rfl]at e ⊢;exact⟨H0,A0,A,E,ρ,d,st.mono z,e,λw H2 F=>q w H2<|z.trans F⟩
  |false=>rw[cq zaB]at e ⊢;exact⟨H0,A0,A,E,ρ,d,st.mono z,e,λw H2 F=>q w H2<|z.trans F⟩
end
section
variable {X:Cx}{O:List Nat}
def aY:Lv:=λ_=>bx []
def aC(f:Ev)(g:Lv):Lv:=λρ=>(f ρ).bind λx=>(g ρ).bind λxs=>bx<|x::xs
def SE:wW X O [] aY:=PA.mono eK λσ H Q ⟨H0,A0,A,E,ρ,d,st,e,q⟩=>by cases e;exact q [] H (Ext.refl _ _) .nil
def E7:wV X O [] aY:=PA.mono eK λσ H Q ⟨H0,A0,A,E,ρ,d,st,e,q⟩=>by cases e;exact q [] H (Ext.refl _ _) .nil
def zX(J:∀A H H' d v,Ext A H H'->R A H d v->R A H' d v)(h:tDA R O (aC f g) σ H Q):wQ (tD R O f) (tDA R O g) σ H Q:=by
 obtain⟨H0,A0,A,E,ρ,d,st,e,q⟩:=h;obtain⟨x,ex,e⟩:=bind_some e;obtain⟨xs,z,e⟩:=bind_some e;cases e;exact⟨H0,A0,A,E,ρ,x,st,ex,λv H1 G r1=>⟨H0,A0,A,E,ρ,xs,st.mono G,z,λvs H2 F r2=>q (v::vs) H2 (G.trans F)<|.cons (J _ _ _ _ _ F r1) r2⟩⟩
def LV(z:PD X O e f)(q:wW X O es g)(hs:zaf (e::es) X.env=(ci,eval e X.env)::zaf es X.env:=by rfl):wW X O (e::es)<|aC f g:=
 PA.mono (bX z q hs) λσ H Q h=>zX (λ_ _ _ _ _ x r=>r.ext x) h
def BM(z:PB X O e f)(q:wV X O es g)(hs:zaf (e::es) X.env=(ci,eval e X.env)::zaf es X.env:=by rfl):wV X O (e::es)<|aC f g:=
 PA.mono (bX z q hs) λσ H Q h=>zX (λ_ _ _ _ _ x r=>r.ext x) h
inductive tF(O:List Nat)(f:Ev)(σ:L2.St)(H:Hp)(Q:VK):Prop
 | mk (H0:Hp) (A0 A:Av) (E:List Fact) (ρ:cA) (d:D) (st:ST H0 A0 A E O σ H ρ) (e:f ρ=bx d) (q:∀a H',Ext A H H'->H a=cb->¬ A a->Own (λb=>A b\/b=a) H' d a->Q (.ref a) H'):tF O f σ H Q
def PF(X:Cx)(O:List Nat)(e:Expr)(f:Ev):Prop:=PE X e<|tF O f
def PF.d(h:PF X O e f):PD X O e f:=PE.mono h λσ H Q ⟨H0,A0,A,E,ρ,d,st,e,q⟩=>
 ⟨H0,A0,A,E,ρ,d,st,e,λa H' x n F o=>q _ H' x<|(o.av (A':=A) λb z=>.inl<|.inl z).rep F⟩
def RepL.fresh(n:H p=cb)(r:RepL A H ds vs):RepL (λb=>A b\/b=p) (upd H p o) ds vs:=by
 have r1:RepL (λb=>A b\/b=p) H ds vs:=r.av λb q=>by
  rcases q with q|q
  .exact .inl q
  .exact .inr<|q ▸ n
 exact r1.ext<|Ext.new n
def Ext.free(x:Ext A H H')(n:H' p=cb):H p=cb:=by
 cases e:H p with
 |none=>rfl
 |some u=>rcases x.rd p u (.inl e)with h|⟨o,h⟩ <;> (rw[n]at h;cases h)
def fA(g:Lv):Ev:=λρ=>(g ρ).map .tup
def QF(g:Lv):Ev:=λρ=>(g ρ).map .lst
theorem RL.length:∀ {ds:List D} {vs:List V},RL R A H ds vs->vs.length=ds.length
 |_,_,.nil=>rfl
 |_,_,.cons _ t=>by rw[zaA,zaA,RL.length t]
def aZ(n:Nat):Bool:=decide (n<=1000000)
def iR(h:aZ n=cf):n<=zai:=zaO (of_decide_eq_true h)<|by decide
def iT(h:aZ n=cf):n<zai:=zdK (of_decide_eq_true h)<|by decide
def map_some{q β:Type}{o:Option q}{f:q->β}{b:β}(h:o.map f=bx b):∃a,o=bx a/\f a=b:=by
 cases o with
 |none=>cases h
 |some a=>exact⟨a,rfl,zay h⟩
def Len(g:Lv)(n:Nat):Prop:=∀ρ ds,g ρ=bx ds->ds.length=n
def SQ:Len aY 0:=λρ ds h=>by cases h;rfl
def M7(h:Len g n):Len (aC f g)<|n+1:=λρ ds e=>by
 obtain⟨x,ex,e⟩:=bind_some e;obtain⟨xs,q,e⟩:=bind_some e;cases e;rw[zaA,h ρ xs q]
def oE{es:List Expr}{z}{pos:Pos}{g:Lv}(h:wW X O es g)(J:∀ρ ds,g ρ=bx ds->ds.length<=100):PD X O (.Tuple es z pos)<|fA g:=PE.mono (OC h) <| by
 rintro σ H Q ⟨H0,A0,A,E,ρ,d,st,e,q⟩;obtain⟨ds,F,rfl⟩:=map_some e;refine⟨H0,A0,A,E,ρ,ds,st,F,λvs H1 z r1=>⟨by rw[r1.length];exact zaO (J ρ ds F)<|by decide,λp G=>?_⟩⟩;exact q _ _ (z.trans<|Ext.new G)<|.tup aI<|r1.toL.ext<|Ext.new G
def Y1{es:List Expr}{pos:Pos}{g:Lv}(h:wW X O es g)(N:∀ρ ds,g ρ=bx ds->ds.length<=100):PF X O (.List es pos)<|QF g:=PE.mono (PY h) <| by
 rintro σ H Q ⟨H0,A0,A,E,ρ,d,st,e,q⟩;obtain⟨ds,J,rfl⟩:=map_some e;refine⟨H0,A0,A,E,ρ,ds,st,J,λvs H1 G r1=>⟨by rw[r1.length];exact zaO (N ρ ds J)<|by decide,λp F=>?_⟩⟩;exact q p _ (G.trans<|Ext.new F) (G.free F) (λz=>(st.mono G).live p z F)<|.lst aI<|r1.toL.fresh F
inductive rC(g:List D->Option D)(xs:List V)(H:Hp)(Q:VK):Prop
 | mk (A:Av) (ds:List D) (d:D) (lv:Live A H) (r:RL RepB A H ds xs) (e:g ds=bx d) (q:∀v H',Ext A H H'->Rep A H' d v->Q v H'):rC g xs H Q
inductive rCF(g:List D->Option D)(xs:List V)(H:Hp)(Q:VK):Prop
 | mk (A:Av) (ds:List D) (d:D) (lv:Live A H) (r:RL RepB A H ds xs) (e:g ds=bx d) (q:∀a H',Ext A H H'->H a=cb->¬ A a->Own (λb=>A b\/b=a) H' d a->Q (.ref a) H'):rCF g xs H Q
def jZ(X:Cx)(f:Value)(g:List D->Option D):Prop:=CallR X f<|rC g
def IE(X:Cx)(f:Value)(g:List D->Option D):Prop:=CallR X f<|rCF g
def CallR.mono(h:CallR X f r)(x:∀a H Q,r' a H Q->r a H Q):CallR X f r':=λpins s σ H a v Q I q w=>h pins s σ H a v Q I q<|x a H Q w
def aR(g:List D->Option D)(f:Lv):Ev:=λρ=>(f ρ).bind g
def vP(h:tD Rep O (aR g f) σ H Q):tCB (rC g) (tDA RepB O f) σ H Q:=by
 obtain⟨H0,A0,A,E,ρ,d,st,e,q⟩:=h;obtain⟨ds,G,e⟩:=bind_some e;exact⟨H0,A0,A,E,ρ,ds,st,G,λvs H1 z r1=>⟨A,ds,d,(st.mono z).live,r1,e,λv H2 F r2=>q v H2 (z.trans F) r2⟩⟩
def IY(h:tF O (aR g f) σ H Q):tCB (rCF g) (tDA RepB O f) σ H Q:=by
 obtain⟨H0,A0,A,E,ρ,d,st,e,q⟩:=h;obtain⟨ds,J,e⟩:=bind_some e;exact⟨H0,A0,A,E,ρ,ds,st,J,λvs H1 z r1=>⟨A,ds,d,(st.mono z).live,r1,e,λa H2 F n G o=>q a H2 (z.trans F) (z.free n) G o⟩⟩
section
variable {x:Str}{id T:String}{g:List D->Option D}{e:Expr}{es:List Expr}{f:Lv}{p pos:Pos}
def NE(W:jZ X (.builtin id) g)(N:Gl X x)(U:X.mg x=cb)(Y:zaL x=bx (.builtin id))(F:wV X O (e::es) f)(G:x ≠ "__name__" := by decide)(q:(x == ("__debug__" : Str))=ci:=by decide)
  (J:zaf (e::es) X.env=(ci,eval e X.env)::zaf es X.env:=by rfl) (z:(zaG pos<|zaf es X.env).any (·.1)=ci:=by rfl) :
  PD X O (.Call (.Name x p) (e::es) [] pos) (aR g f):=PE.mono (mZ W N U Y F G q J z) λσ H Q h=>vP h
def JB(W:jZ X (.type T) g)(N:Gl X x)(U:X.mg x=cb)(Y:zaL x=bx (.type T))(F:wV X O (e::es) f)(G:x ≠ "__name__" := by decide)(q:(x == ("__debug__" : Str))=ci:=by decide)
  (J:zaf (e::es) X.env=(ci,eval e X.env)::zaf es X.env:=by rfl) (z:(zaG pos<|zaf es X.env).any (·.1)=ci:=by rfl) :
  PD X O (.Call (.Name x p) (e::es) [] pos) (aR g f):=PE.mono (kE W N U Y F G q J z) λσ H Q h=>vP h
def IR(W:IE X (.type T) g)(N:Gl X x)(U:X.mg x=cb)(Y:zaL x=bx (.type T))(F:wV X O (e::es) f)(G:x ≠ "__name__" := by decide)(q:(x == ("__debug__" : Str))=ci:=by decide)
  (J:zaf (e::es) X.env=(ci,eval e X.env)::zaf es X.env:=by rfl) (z:(zaG pos<|zaf es X.env).any (·.1)=ci:=by rfl) :
  PF X O (.Call (.Name x p) (e::es) [] pos) (aR g f):=PE.mono (kE W N U Y F G q J z) λσ H Q h=>IY h
end
def spD(n:Nat)(F:List D->Option D):Sp:=λvs H Q _=>∃A ds d,Live A H/\RepL A H ds vs/\vs.length=n/\F ds=bx d/\∀v H',Ext A H H'->Rep A H' d v->Q v H'
def Fn(P:zah)(w:World)(K:zae)(mg:Str->Option Value)(base:Heap)(x:Str)(k:Nat)(ps:List Str)(F:List D->Option D):Prop:=My.Ok P w K mg base x k ps<|spD ps.length F
def RY(O':Fn X.prog X.w X.K X.mg X.base x k ps F)(hr:Room k X.A)(hg:Gl X x)(U:wW X O (e::es) f)(Y:∀ρ ds,f ρ=bx ds->ds.length=ps.length)(z:(x == ("__debug__" : Str))=ci:=by decide)
  (he:zaf (e::es) X.env=(ci,eval e X.env)::zaf es X.env:=by rfl) (G:(zaG pos<|zaf es X.env).any (·.1)=ci:=by rfl) :
  PD X O (.Call (.Name x p) (e::es) [] pos) (aR F f):=PE.mono (My.A3 O' hr hg U z he G) λσ H Q ⟨H0,A0,A,E,ρ,d,st,e,q⟩=>by
 obtain⟨ds,J,e⟩:=bind_some e;exact⟨H0,A0,A,E,ρ,ds,st,J,λvs H1 N r1=>⟨A,ds,d,(st.mono N).live,r1.toL,by rw[r1.length];exact Y ρ ds J,e,λv H2 W r2=>q v H2 (N.trans W) r2⟩⟩
def IxR.mono(h:IxR X r)(x:∀a b H Q,r' a b H Q->r a b H Q):IxR X r':=λF G pins s σ H a b v u Q I z q w=>h F G pins s σ H a b v u Q I z q<|x a b H Q w
def dIx:D->D->Option D
 |.lst l,.int i=>gC l i
 |.tup l,.int i=>gC l i
 |.str z,.int i=>if aZ z.length then(gC z.cps.toList i).map λc=>.str ⟨#[c]⟩else cb
 |_,_=>cb
def RepL.at(r:RepL A H ds vs)(h:gC ds i=bx d):∃v,gC vs i=bx v/\Rep A H d v:=by
 obtain⟨j,F,G⟩:=bind_some h;obtain⟨v,z,q⟩:=r.get' G;refine⟨v,?_,q⟩;unfold gC;rw[r.length,F];exact z
def nn{q:Type}{a:q}{P:Prop}(h:(cb:Option q)=bx a):P:=nomatch h
def ff{P:Prop}(h:ci=cf):P:=nomatch h
def qbS:IxR X<|rD dIx:=IxR.mono W6 <| by
 rintro x y H Q ⟨A,dx,W,d,Y,G,J,e,q⟩;cases dx with
 |lst l=>
  cases W with
  |int i=>
   have:=J.int_inv;subst this;obtain⟨a,xs,rfl,h,r⟩:=G.lst_inv;obtain⟨v,F,N⟩:=r.at e;exact .inl ⟨a,xs,i,v,rfl,rfl,.inl h,F,q v H (Ext.refl _ _) N⟩
  |_=>exact nn e
 |tup l=>
  cases W with
  |int i=>
   have:=J.int_inv;subst this;obtain⟨a,xs,rfl,h,r⟩:=G.tup_inv;obtain⟨v,F,N⟩:=r.at e;exact .inr<|.inl ⟨a,xs,i,v,rfl,rfl,.inl<|.inl h,F,q v H (Ext.refl _ _) N⟩
  |_=>exact nn e
 |str z=>
  cases W with
  |int i=>
   have:=J.int_inv;subst this;have:=G.str_inv;subst this;simp only[dIx]at e;by_cases U:aZ z.length=cf
   .rw[ck U]at e
    obtain⟨c,F,rfl⟩:=map_some e;exact .inr<|.inr ⟨z,i,c,rfl,rfl,iR U,F,q _ H (Ext.refl _ _)<|.str _⟩
   .rw[cq U]at e;exact nn e
  |_=>exact nn e
 |_=>exact nn e
abbrev Ov:=cA->Option (Option Int)
inductive tDO(O:List Nat)(g:Ov)(σ:L2.St)(H:Hp)(Q:Option Int->Hp->Prop):Prop
 | mk (H0:Hp) (A0 A:Av) (E:List Fact) (ρ:cA) (o:Option Int) (st:ST H0 A0 A E O σ H ρ) (e:g ρ=bx o) (q:∀H',Ext A H H'->Q o H'):tDO O g σ H Q
def V9(X:Cx)(O:List Nat)(e:Option Expr)(g:Ov):Prop:=PO X e<|tDO O g
def PO.mono(h:PO X e t)(x:∀σ H Q,t' σ H Q->t σ H Q):PO X e t':=λpins s σ H Q I w=>h pins s σ H Q I<|x σ H Q w
def HQ:Ov:=λ_=>bx cb
def Z6:D->Option Int
 |.int i=>bx i
 |_=>cb
def tL(h:Z6 d=bx i):d=.int i:=by cases d <;> cases h;rfl
def wL(f:Ev):Ov:=λρ=>(f ρ).bind λd=>(Z6 d).map bx
def NW:V9 X O cb HQ:=PO.mono QU λσ H Q ⟨H0,A0,A,E,ρ,d,st,e,q⟩=>by cases e;exact q H<|Ext.refl _ _
def M0{e:Expr}{f:Ev}(h:PD X O e f):V9 X O (bx e)<|wL f:=PO.mono (S0 h) <| by
 rintro σ H Q ⟨H0,A0,A,E,ρ,d,st,e,q⟩;obtain⟨x,ex,e⟩:=bind_some e;obtain⟨i,F,rfl⟩:=map_some e;rw[tL F]at ex;exact⟨H0,A0,A,E,ρ,_,st,ex,λv H1 z r1=>⟨i,RepB.int_inv<|.of r1,q H1 z⟩⟩
def cutD(xs:List D)(lo hi:Option Int):List D:=(xs.drop<|HT.sIx xs.length 0 lo).take<|HT.sIx xs.length xs.length hi-HT.sIx xs.length 0 lo
def RepL.cut{ds:List D}{vs:List V}{lo hi:Option Int}(r:RepL A H ds vs):RepL A H (cutD ds lo hi)<|u6 vs lo hi:=by
 unfold cutD u6;rw[r.length];exact(r.drop _).take _
def Z5(g:D->Option Int->Option Int->Option D)(f:Ev)(a b:Ov):Ev:=λρ=>(f ρ).bind λx=>(a ρ).bind λlo=>(b ρ).bind λhi=>g x lo hi
inductive rS(g:D->Option Int->Option Int->Option D)(x:V)(lo hi:Option Int)(H:Hp)(Q:VK):Prop
 | mk (A:Av) (dx d:D) (lv:Live A H) (r:RepB A H dx x) (e:g dx lo hi=bx d) (q:∀v H',Ext A H H'->Rep A H' d v->Q v H'):rS g x lo hi H Q
inductive rSF(g:D->Option Int->Option Int->Option D)(x:V)(lo hi:Option Int)(H:Hp)(Q:VK):Prop
 | mk (A:Av) (dx d:D) (lv:Live A H) (r:RepB A H dx x) (e:g dx lo hi=bx d) (q:∀a H',Ext A H H'->H a=cb->¬ A a->Own (λb=>A b\/b=a) H' d a->Q (.ref a) H'):rSF g x lo hi H Q
def SlR.mono(h:SlR X r)(x:∀a b c H Q,r' a b c H Q->r a b c H Q):SlR X r':=λpins s σ H a v F q lo hi N Q I G hs J z w=>h pins s σ H a v F q lo hi N Q I G hs J z<|x a lo hi H Q w
def qcz:D->Option Int->Option Int->Option D
 |.tup l,lo,hi=>bx<|.tup<|cutD l lo hi
 |_,_,_=>cb
def qaY:D->Option Int->Option Int->Option D
 |.lst l,lo,hi=>bx<|.lst<|cutD l lo hi
 |_,_,_=>cb
def M1{lo hi:Option Expr}{g:D->Option Int->Option Int->Option D}{a b:Ov}(hr:SlR X<|rS g)(W:PB X O e f)(N:V9 X O lo a)(hu:V9 X O hi b):PD X O (.Subscript e (.Slice lo hi cb p2) pos)<|Z5 g f a b:=
 PE.mono (M4 hr W N hu) <| by
  rintro σ H Q ⟨H0,A0,A,E,ρ,d,st,e,q⟩;obtain⟨x,ex,e⟩:=bind_some e;obtain⟨l,Y,e⟩:=bind_some e;obtain⟨h,U,e⟩:=bind_some e;exact⟨H0,A0,A,E,ρ,x,st,ex,λv H1 F r1=>⟨H0,A0,A,E,ρ,l,st.mono F,Y,λH2 z=>⟨H0,A0,A,E,ρ,h,st.mono<|F.trans z,U,λH3 G=>⟨A,x,d,(st.mono<|(F.trans z).trans G).live,r1.ext<|z.trans G,e,λv J x4 r4=>q v J (((F.trans z).trans G).trans x4) r4⟩⟩⟩⟩
def qcp:SlR X<|rS qcz:=SlR.mono My.TR <| by
 rintro x lo hi H Q ⟨A,dx,d,J,F,e,q⟩;cases dx with
 |tup l=>
  obtain⟨a,xs,rfl,h,r⟩:=F.tup_inv;cases e;by_cases w:HT.sIx xs.length 0 lo=0/\HT.sIx xs.length xs.length hi=xs.length
  .refine .inr ⟨a,xs,rfl,.inl<|.inl h,w,q _ H (Ext.refl _ _)<|.tup h ?_⟩
   have G:u6 xs lo hi=xs:=by unfold u6;rw[w.1,w.2];simp
   rw[<- G];exact r.cut
  .exact .inl ⟨a,xs,rfl,.inl<|.inl h,w,λp z=>q _ _ (Ext.new z)<|.tup aI<|r.cut.ext<|Ext.new z⟩
 |_=>exact nn e
def qbV:SlR X<|rSF qaY:=SlR.mono Q1 <| by
 rintro x lo hi H Q ⟨A,dx,d,G,J,e,q⟩;cases dx with
 |lst l=>
  obtain⟨a,xs,rfl,h,r⟩:=J.lst_inv;cases e;exact⟨a,xs,rfl,.inl h,λp F=>q p _ (Ext.new F) F (λz=>G p z F)<|.lst aI<|r.cut.fresh F⟩
 |_=>exact nn e
end
inductive Out where
 | nx (ρ:cA)|rt (d:D)|bk (ρ:cA)|ct (ρ:cA)
abbrev Sv:=cA->Option Out
structure Lp where
 ob:List Nat
 oc:List Nat
def qcq(L:Lp)(H0:Hp)(A0:Av)(E:List Fact)(O':List Nat)(T:Ends):Out->Prop
 |.nx ρ=>∀A σ H,ST H0 A0 A E O' σ H ρ->T.nx σ H
 |.rt d=>∀v H,Ext A0 H0 H->Rep A0 H d v->T.rt v H
 |.bk ρ=>∀A σ H,ST H0 A0 A E L.ob σ H ρ->T.bk σ H
 |.ct ρ=>∀A σ H,ST H0 A0 A E L.oc σ H ρ->T.ct σ H
inductive tS(L:Lp)(O:List Nat)(f:Sv)(O':List Nat)(T:Ends)(σ:L2.St)(H:Hp):Prop
 | mk (H0:Hp) (A0 A:Av) (E:List Fact) (ρ:cA) (out:Out) (st:ST H0 A0 A E O σ H ρ) (e:f ρ=bx out) (p:qcq L H0 A0 E O' T out):tS L O f O' T σ H
def PSD(X:Cx)(L:Lp)(O:List Nat)(st:Stmt)(f:Sv)(O':List Nat):Prop:=PS X st<|tS L O f O'
def PSDs(X:Cx)(L:Lp)(O:List Nat)(st:List Stmt)(f:Sv)(O':List Nat):Prop:=PSs X st<|tS L O f O'
section
variable {X:Cx}{L:Lp}{O O' O2:List Nat}
def PS.mono{st:Stmt}{t t':TS}(h:PS X st t)(x:∀T σ H,t' T σ H->t T σ H):PS X st t':=λpins s σ H T I w=>h pins s σ H T I<|x T σ H w
def PSs.mono{st:List Stmt}{t t':TS}(h:PSs X st t)(x:∀T σ H,t' T σ H->t T σ H):PSs X st t':=λpins s σ H T I w=>h pins s σ H T I<|x T σ H w
def Sub(a b:List Nat):Bool:=a.all λi=>b.contains i
def Sub.mem(h:Sub a b=cf)(i:Nat)(hi:i∈a):i∈b:=by
 have:=(List.all_eq_true.mp h) i hi;simpa using this
def tS.pre(h:Sub O1 O=cf)(t:tS L O f O' T σ H):tS L O1 f O' T σ H:=by
 obtain⟨H0,A0,A,E,ρ,out,st,e,p⟩:=t;obtain⟨A',q⟩:=st.shut<|Sub.mem h;exact⟨H0,A0,A',E,ρ,out,q,e,p⟩
theorem PSDs.pre{st:List Stmt}{O1:List Nat}(t:PSDs X L O1 st f O')(h:Sub O1 O=cf):PSDs X L O st f O':=PSs.mono t λT σ H z=>tS.pre h z
def LA:Sv:=λρ=>bx<|.nx ρ
def dD(f g:Sv):Sv:=λρ=>(f ρ).bind λo=>match o with
 |.nx ρ'=>g ρ'
 |o=>bx o
def FI(h:Sub O' O=cf:=by rfl):PSDs X L O [] LA O':=PSs.mono yB <| by
 rintro T σ H ⟨H0,A0,A,E,ρ,out,st,e,p⟩;cases e;obtain⟨A',q⟩:=st.shut<|Sub.mem h;exact p A' σ H q
def TJ(h:tS L O (dD f g) O' T σ H):qbe (tS L O f O2) (tS L O2 g O') T σ H:=by
 obtain⟨H0,A0,A,E,ρ,out,st,e,p⟩:=h;obtain⟨o,F,e⟩:=bind_some e;refine⟨H0,A0,A,E,ρ,o,st,F,?_⟩;cases o with
 |nx ρ'=>exact λA' z H' q=>⟨H0,A0,A',E,ρ',out,q,e,p⟩
 |rt d=>cases e;exact p
 |bk d=>cases e;exact p
 |ct d=>cases e;exact p
def NR{st:Stmt}{rest:List Stmt}{f g:Sv}(h1:PSD X L O st f O2)(h2:PSDs X L O2 rest g O'):PSDs X L O (st::rest) (dD f g) O':=PSs.mono (cL h1 h2) λT σ H h=>TJ h
def aN{st:Stmt}{f:Sv}(h1:PSD X L O st f O'):PSDs X L O [st] f O':=gG h1
def B5(f:Ev):Sv:=λρ=>(f ρ).map .rt
def Q5{e:Expr}{pos:Pos}{f:Ev}(F:PD X O e f):PSD X L O (.Return (bx e) pos) (B5 f) O':=PS.mono (EM F) <| by
 rintro T σ H ⟨H0,A0,A,E,ρ,out,st,e,p⟩;obtain⟨d,z,rfl⟩:=map_some e;exact⟨H0,A0,A,E,ρ,d,st,z,λv H' x r=>p v H' (st.mono x).ex<|r.av λa q=>.inl<|st.sub a q⟩
def B9(c:Bv)(f g:Sv):Sv:=λρ=>(c ρ).bind λb=>if b=cf then f ρ else g ρ
def EJ{c:Expr}{a b:List Stmt}{pos:Pos}{g:Bv}{f k:Sv}(J:uT X O c g)(z:PSDs X L O a f O')(F:PSDs X L O b k O'):PSD X L O (.If c a b pos) (B9 g f k) O':=PS.mono (U8 J z F) <| by
 rintro T σ H ⟨H0,A0,A,E,ρ,out,st,e,p⟩;obtain⟨b,G,e⟩:=bind_some e;refine⟨H0,A0,A,E,ρ,b,st,G,λH1 q=>?_⟩;cases b with
 |true=>rw[ck rfl]at e ⊢;exact⟨H0,A0,A,E,ρ,out,st.mono q,e,p⟩
 |false=>rw[cq zaB]at e ⊢;exact⟨H0,A0,A,E,ρ,out,st.mono q,e,p⟩
def d9(i:Nat)(f:Ev):Sv:=λρ=>(f ρ).map λd=>.nx<|ρ.set i<|bx d
def Sub.er{a b:List Nat}{i j:Nat}(h:Sub a (b.filter (· != i))=cf)(q:j∈a):j∈b/\j≠i:=by
 have:=Sub.mem h j q;rw[List.mem_filter]at this;exact⟨this.1,by simpa using this.2⟩
def GQ{i:Nat}{x:Str}{e:Expr}{pos pos':Pos}{f:Ev}(hN:X.N.Nodup)(hi:X.N[i]?=bx x)(hx:Loc X.env.scope x)(he:PD X O e f)(h:Sub O' (O.filter (· != i))=cf:=by rfl)
  (hs:zaz e (bx<|.Name x pos') pos.line X.env=pure ci:=by rfl) (Y:X.fn x=cf\/X.env.scope.names.lookup x=bx .local:=by first|exact .inl rfl|exact .inr rfl):PSD X L O (.Assign [.Name x pos'] e pos) (d9 i f) O':=
 PS.mono (yQ hN hi hx he hs Y) <| by
  rintro T σ H ⟨H0,A0,A,E,ρ,out,st,e,p⟩;obtain⟨d,W,rfl⟩:=map_some e;refine⟨H0,A0,A,E,ρ,d,st,W,λv H' x r=>?_⟩
  -- i leaves what may be written ahead of the store: the value is borne by fewer too
  have G:=(st.mono x).more r;obtain⟨A',F⟩:=G.shut (O':=O') λj U=>(Sub.er h U).1
  exact p A' _ H'<|(F.put (F.ext _<|zar ..) λz=>(Sub.er h z).2 rfl).less λq J=>zaq _ J
def Own.there:Own A H d a->H a≠cb
 |.lst h _=>by rw[h];exact λz=>nomatch z
 |.dK h _ _=>by rw[h];exact λz=>nomatch z
 |.dT h _ _=>by rw[h];exact λz=>nomatch z
def ST.own_put(s:ST H0 A0 A E O σ H ρ)(x:Ext A H H')(n:H a=cb)(na:¬ A a)(o:Own (λb=>A b\/b=a) H' d a)(ni:i∉O) :
  ST H0 A0 (λb=>A b\/b=a) E (i::O) (σ.set i<|bx<|.ref a) H' (ρ.set i<|bx d):=by
 have s':=s.mono x;have n0:H0 a=cb:=s.ex.free n
 -- whatever was borne ahead avoids a
 have N:Ext (λb=>A b\/b=a) H H':=⟨x.rd,x.kp,λb u q e=>q.elim (λq=>x.ow b u q e) λq=>(by subst q;rw[n]at e;exact nomatch e),x.fz⟩;have ab:∀ {p:Fact},p.Holds A H->p.Holds (λb=>A b\/b=a) H':=λr=>Fact.ext N (Fact.av (A':=λb=>A b\/b=a) (λb q=>by
   rcases q with q|q
   .exact .inl q
   .exact .inr<|q ▸ n) r)
 have up:∀ {d:D} {v:V},Rep A H d v->Rep (λb=>A b\/b=a) H' d v:=λr=>by
  have r1:Rep (λb=>A b\/b=a) H _ _:=r.av λb q=>by
   rcases q with q|q
   .exact .inl q
   .exact .inr<|q ▸ n
  exact r1.ext N
 have ac:∀ {d:D} {b:Addr},A b->Own A H d b->Own (λc=>A c\/c=a) H' d b:=λq r=>by
  have r1:Own (λc=>A c\/c=a) H _ _:=r.av λb q=>by
   rcases q with q|q
   .exact .inl q
   .exact .inr<|q ▸ n
  exact r1.ext N<|.inl q
 have ha:H' a≠cb:=o.there;refine⟨s'.ex,λb q=>.inl<|s.sub b q,s.l0,λb q=>?_,by simp[s.len],λj d' h' W=>?_,λj d' h' W=>?_,λj k U d2 b hj hk h1 h2 G Y=>?_,λp hp=>ab<|s.ext p hp⟩
 .rcases q with q|q
  .exact s'.live b q
  .subst q;exact ha
 .rcases dA h' with⟨e,F,l⟩|⟨e,F⟩
  .exact absurd (List.mem_cons.mpr<|.inl e) W
  .obtain⟨w,h1,h2⟩:=s.val j d' F λz=>W (zaq _ z)
   exact⟨w,by rw[lL e];exact h1,up h2⟩
 .rcases dA h' with⟨e,F,l⟩|⟨e,F⟩
  .subst e;cases F
   exact⟨a,sig_set (by rw[s.len];exact l),.inr rfl,n0,o⟩
  .rcases List.mem_cons.mp W with z|z
   .exact absurd z e
   .obtain⟨w,h1,h2,G,Y⟩:=s.own j d' F z
    exact⟨w,by rw[lL e];exact h1,.inl h2,G,ac h2 Y⟩
 .have J:∀ {j:Nat} {U:D},j∈i::O->(ρ.set i<|bx d)[j]?=bx (bx U)->(σ.set i<|bx<|.ref a)[j]?=bx (bx<|.ref b)->(j=i/\b=a)\/(j≠i/\j∈O/\ρ[j]?=bx (bx U)/\σ[j]?=bx (bx<|.ref b)/\b≠a):=by
   intro j U hj h1 G;rcases dA h1 with⟨e,F,l⟩|⟨e,F⟩
   .subst e
    rw[sig_set<|by rw[s.len];exact l]at G;cases G;exact .inl ⟨rfl,rfl⟩
   .rcases List.mem_cons.mp hj with z|z
    .exact absurd z e
    .rw[lL e]at G
     obtain⟨w,q1,q2,_⟩:=s.own j U F z;rw[G]at q1;cases q1;exact .inr ⟨e,z,F,G,λz=>na<|z ▸ q2⟩
  rcases J hj h1 G with⟨e1,F⟩|⟨e1,F,e3,e4,e5⟩
  .rcases J hk h2 Y with⟨f1,f2⟩|⟨f1,f2,f3,f4,f5⟩
   .rw[e1,f1]
   .exact absurd F f5
  .rcases J hk h2 Y with⟨f1,f2⟩|⟨f1,f2,f3,f4,f5⟩
   .exact absurd f2 e5
   .exact s.inj j k U d2 b F f2 e3 f3 e4 f4
def NL{i:Nat}{x:Str}{e:Expr}{pos pos':Pos}{f:Ev}(hN:X.N.Nodup)(hi:X.N[i]?=bx x)(hx:Loc X.env.scope x)(he:PF X O e f)(h:Sub O' (i::O)=cf:=by rfl)(Y:O.contains i=ci:=by rfl)
  (hs:zaz e (bx<|.Name x pos') pos.line X.env=pure ci:=by rfl) (U:X.fn x=cf\/X.env.scope.names.lookup x=bx .local:=by first|exact .inl rfl|exact .inr rfl):PSD X L O (.Assign [.Name x pos'] e pos) (d9 i f) O':=
 PS.mono (yQ hN hi hx he hs U) <| by
  rintro T σ H ⟨H0,A0,A,E,ρ,out,st,e,p⟩;obtain⟨d,F,rfl⟩:=map_some e;refine⟨H0,A0,A,E,ρ,d,st,F,λa H' x n W o=>?_⟩;have J:i∉O:=λz=>by
   have:O.contains i=cf:=by simpa using z
   rw[Y]at this;cases this
  obtain⟨G,q⟩:=(st.own_put x n W o J).shut<|Sub.mem h;exact p G _ H' q
def Ext.upN{A:Av}{H H':Hp}{D:Addr}{o:HO}(x:Ext A H H')(n:H D=cb):Ext A H<|upd H' D o:=by
 have F:∀b,H b≠cb->b≠D:=λb G z=>G<|by rw[z];exact n
 exact⟨λb w r=>gP (F b<|by rcases r with r|⟨_,r⟩ <;> (rw[r];exact λz=>nomatch z))<|x.rd b w r,
  λb xs k r=>by rw[aG<|F b<|by rw[r];exact λz=>nomatch z];exact x.kp b xs k r,
  λb w n r=>by rw[aG<|F b<|by rw[r];exact λz=>nomatch z];exact x.ow b w n r,
  λb q w r=>by rw[aG<|F b<|by rw[r];exact λz=>nomatch z];exact x.fz b q w r⟩
def ST.write(s:ST H0 A0 A E O σ H ρ)(hi:ρ[i]?=bx (bx d))(hO:i∈O)(hs:σ[i]?=bx (bx<|.ref a))(N:A a)(h0:H0 a=cb)(W:H a=bx u)(ob:qi u)(hn:Own A (upd H a o) d' a) :
  ST H0 A0 A E O σ (upd H a o) (ρ.set i<|bx d'):=by
 refine⟨s.ex.upN h0,s.sub,s.l0,λb hb=>?_,by simp[s.len],λj G h' F=>?_,λj G h' F=>?_,λj k U G b hj hk h1 h2 Y h4=>?_,λp hp=>Fact.put N W ob<|s.ext p hp⟩
 .by_cases e:b=a
  .subst e;rw[aI];exact λz=>nomatch z
  .rw[aG e];exact s.live b hb
 .rcases dA h' with⟨e,q,l⟩|⟨e,q⟩
  .subst e;exact absurd hO F
  .obtain⟨w,h1,h2⟩:=s.val j G q F
   exact⟨w,h1,h2.put N W ob⟩
 .rcases dA h' with⟨e,q,l⟩|⟨e,q⟩
  .subst e;cases q;exact⟨a,hs,N,h0,hn⟩
  .obtain⟨b,h1,h2,Y,h4⟩:=s.own j G q F
   refine⟨b,h1,h2,Y,h4.put N W ob λz=>?_⟩;subst z;exact e<|s.inj j i G d b F hO q hi h1 hs
 .have J:∀ {j:Nat} {U:D},(ρ.set i<|bx d')[j]?=bx (bx U)->∃d0,ρ[j]?=bx (bx d0):=by
   intro j U h;rcases dA h with⟨e,_,_⟩|⟨_,e⟩
   .subst e;exact⟨d,hi⟩
   .exact⟨U,e⟩
  obtain⟨x,hx⟩:=J h1;obtain⟨y,hy⟩:=J h2;exact s.inj j k x y b hj hk hx hy Y h4
def mem(O:List Nat)(i:Nat):Bool:=O.contains i
def gR(h:mem O i=cf):i∈O:=by simpa[mem]using h
def KS(i:Nat)(f:Ev):Sv:=λρ=>(aD i ρ).bind λx=>match x with
 |.lst l=>(f ρ).bind λd=>if aZ l.length then bx (.nx<|ρ.set i<|bx<|.lst<|l++[d])else cb
 |_=>cb
def CC{o e:Expr}{i:Nat}{apos cpos pos:Pos}{f:Ev}(ho:PE X o<|cN i)(he:PD X O e f)(J:mem O i=cf)(hp:PE X (.Call (.Attribute o "append" apos) [e] [] cpos)<|tBM X.K "list" FJ (cN i)<|wQ (tD Rep O f) UY)
  (hs:zaz (.Call (.Attribute o "append" apos) [e] [] cpos) cb pos.line X.env=pure ci:=by rfl) (h:Sub O' O=cf:=by rfl):PSD X L O (.Expr (.Call (.Attribute o "append" apos) [e] [] cpos) pos) (KS i f) O':=
 PS.mono (xM hp hs) <| by
  rintro T σ H ⟨H0,A0,A,E,ρ,out,st,e,p⟩;obtain⟨x,ex,e⟩:=bind_some e;cases x with
  |lst l=>
   obtain⟨d,Y,e⟩:=bind_some e;by_cases z:aZ l.length=cf
   .rw[ck z]at e
    cases e;obtain⟨a,G,q,W,U⟩:=st.own i _ (bT ex)<|gR J;cases U with
    |lst h4 r4=>
     refine⟨_,G,.inl ⟨rfl,_,SqL.of h4⟩,H0,A0,A,E,ρ,d,st,Y,λv H' x r=>⟨a,_,v,rfl,rfl,x.ow _ _ q h4,by rw[r4.length];exact iT z,?_⟩⟩;have N:=x.ow _ _ q h4;obtain⟨A',F⟩:=((st.mono x).write (o:=.lst _) (bT ex) (gR J) G q W N trivial (.lst aI<|((r4.ext x).append<|.cons r .nil).put q N trivial)).shut<|Sub.mem h;exact p A' σ _ F
   .rw[cq z]at e;cases e
  |_=>exact nn e
def Z7:D->Option Key
 |.int i=>bx<|.inl i
 |.str x=>bx<|.inr x
 |_=>cb
def P8:List D->Option (List Key)
 |[]=>bx []
 |d::ds=>(Z7 d).bind λk=>(P8 ds).bind λks=>bx<|k::ks
def WD:D->Option (List Key)
 |.tup l=>P8 l
 |_=>cb
def e8{κ:Type}[DecidableEq κ](l:List<|κ×D)(k:κ):Option D:=(l.find? λp=>decide (p.1=k)).map (·.2)
def putD{κ:Type}[DecidableEq κ](l:List<|κ×D)(k:κ)(d:D):List<|κ×D:=if l.any (λp=>decide (p.1=k))then l.map (λp=>if p.1=k then(p.1,d)else p)else l++[(k,d)]
end
section
variable {A:Av}{H:Hp}
section
variable {κ:Type}[DecidableEq κ]
abbrev PP(A:Av)(H:Hp):List (κ×D)->List (κ×V)->Prop:=Paired λ(p:κ×D) (q:κ×V)=>p.1=q.1/\Rep A H p.2 q.2
theorem uL:∀ {l:List (κ×D)} {xs:List (κ×V)},xs.map (·.1)=l.map (·.1)->RepL A H (l.map (·.2)) (xs.map (·.2))->PP A H l xs
 |[],[],_,_=>.nil
 |[],_::_,e,_=>by cases e
 |_::_,[],e,_=>by cases e
 |p::l,q::xs,e,r=>by
  rw[zan,zan]at e r;injection e with e1 e2
  cases r with
  |cons h t=>exact .cons ⟨e1.symm,h⟩<|uL e2 t
theorem wJ:∀ {l:List (κ×D)} {xs:List (κ×V)},PP A H l xs->xs.map (·.1)=l.map (·.1)/\RepL A H (l.map (·.2)) (xs.map (·.2))
 |_,_,.nil=>⟨rfl,.nil⟩
 |_,_,.cons h t=>by
  obtain⟨e,r⟩:=wJ t;exact⟨by rw[zan,zan,h.1,e],.cons h.2 r⟩
def OL(k:κ)(h:PP A H l xs):(e8 l k=cb/\nK xs k=cb)\/∃d v,e8 l k=bx d/\nK xs k=bx v/\Rep A H d v:=by
 induction h with
 |nil=>exact .inl ⟨rfl,rfl⟩
 |@cons p q l xs h t ih=>
  by_cases e:p.1=k
  .refine .inr ⟨p.2,q.2,?_,mW<|h.1 ▸ e,h.2⟩
   simp[e8,zbF,e]
  .have F:¬ q.1=k:=λz=>e (h.1.trans z)
   have a:e8 (p::l) k=e8 l k:=by simp[e8,zbF,e]
   rw[a,mU F];exact ih
def YS(k:κ)(h:PP A H l xs):(l.any λp=>decide (p.1=k))=xs.any λp=>decide (p.1=k):=by
 induction h with
 |nil=>rfl
 |cons h t ih=>rw[zcf,zcf,ih,h.1]
def ZG(k:κ)(r:Rep A H d v)(h:PP A H l xs):PP A H (l.map λp=>if p.1=k then(p.1,d)else p)<|xs.map λp=>if p.1=k then(p.1,v)else p:=by
 induction h with
 |nil=>exact .nil
 |@cons p q l xs h t ih=>
  rw[zan,zan];refine .cons ?_ ih;by_cases e:p.1=k
  .rw[ck e,ck<|h.1 ▸ e];exact⟨h.1,r⟩
  .rw[cq e,cq λz=>e<|h.1.trans z];exact h
def ZF(h:PP A H l xs)(h':PP A H m ys):PP A H (l++m)<|xs++ys:=by
 induction h with
 |nil=>exact h'
 |cons h t ih=>exact .cons h ih
def t8(k:κ)(r:Rep A H d v)(h:PP A H l xs):PP A H (putD l k d)<|putK xs k v:=by
 unfold putD putK;rw[YS k h];by_cases e:(xs.any λp=>decide (p.1=k))=cf
 .rw[ck e,ck e];exact ZG k r h
 .rw[cq e,cq e];exact ZF h<|.cons ⟨rfl,r⟩ .nil
end
def qE(h:Z7 d=bx k)(r:RepB A H d v):v=kV k:=by
 cases d <;> cases h
 .exact r.int_inv
 .exact r.str_inv
theorem BI:∀ {ds:List D} {ks:List Key} {vs:List V},P8 ds=bx ks->RepL A H ds vs->vs=ks.map kV
 |_,_,_,h,.nil=>by cases h;rfl
 |_,_,_,h,.cons r t=>by
  obtain⟨k,q,h⟩:=bind_some h;obtain⟨ks,z,h⟩:=bind_some h;cases h;rw[zan,qE q<|.of r,BI z t]
set_option tactic.hygienic true in
def qG(h:WD d=bx k)(r:RepB A H d v):∃b,v=.ref b/\H b=bx (.tup<|k.map kV):=by
 cases d <;> try cases h
 rename_i l;obtain⟨a,xs,rfl,h1,h2⟩:=r.tup_inv;exact⟨a,rfl,by rw[h1,BI h h2]⟩
def nJ:D->D->Option (Option D)
 |.dK l,k=>(Z7 k).map λk=>e8 l k
 |.dT l,k=>(WD k).map λk=>e8 l k
 |_,_=>cb
def tR{d k:D}{x y:V}{o:Option D}(h:nJ d k=bx o)(J:RepB A H d x)(N:RepB A H k y):∃a F,x=.ref a/\IsD H a/\DGet H a y F/\((o=cb/\F=cb)\/∃z v,o=bx z/\F=bx v/\Rep A H z v):=by
 cases d with
 |dK l=>
  obtain⟨q,G,rfl⟩:=map_some h;obtain⟨a,xs,rfl,h1,e,r⟩:=J.dK_inv;have:=qE G N;subst this;refine⟨a,_,rfl,.inl ⟨xs,h1⟩,.inl ⟨xs,q,h1,rfl,rfl⟩,OL q<|uL e r⟩
 |dT l=>
  obtain⟨q,G,rfl⟩:=map_some h;obtain⟨a,xs,rfl,h1,e,r⟩:=J.dT_inv;obtain⟨b,rfl,U⟩:=qG G N;exact⟨a,_,rfl,.inr ⟨xs,h1⟩,.inr ⟨xs,q,b,h1,rfl,U,rfl⟩,OL q<|uL e r⟩
 |_=>exact nn h
end
section
variable {X:Cx}{O O':List Nat}{L:Lp}
def PE.or(h:PE X e t)(k:PE X e u):PE X e λσ H Q=>t σ H Q\/u σ H Q:=λpins s σ H Q I w=>w.elim (h pins s σ H Q I)<|k pins s σ H Q I
def aJ(d k:D):Option D:=match d with
 |.dK _=>(nJ d k).join
 |.dT _=>(nJ d k).join
 |_=>dIx d k
def rJ{q:Type}{o:Option (Option q)}{d:q}(h:o.join=bx d):o=bx (bx d):=by
 cases o with
 |none=>cases h
 |some o=>cases o with
  |none=>cases h
  |some x=>cases h;rfl
def AV{G fb:Ev}{σ:L2.St}{H:Hp}{Q:VK}(h:tD Rep O (bB (λd k=>(nJ d k).join) G fb) σ H Q):VD (tD RepB O G) (tD RepB O fb) σ H Q:=by
 obtain⟨H0,A0,A,E,ρ,d,st,e,q⟩:=h;obtain⟨x,ex,e⟩:=bind_some e;obtain⟨y,Y,e⟩:=bind_some e;refine⟨H0,A0,A,E,ρ,x,st,ex,λv H1 U r1=>⟨H0,A0,A,E,ρ,y,st.mono U,Y,λw H2 N r2=>?_⟩⟩;obtain⟨a,ov,W,_,g,F⟩:=tR (rJ e) (r1.ext N) r2;rcases F with⟨F,_⟩|⟨z,J,F,e3,r3⟩
 .cases F
 .cases F;subst e3
  exact⟨a,J,W,g,q J H2 (U.trans N) r3⟩
def GD(N:X.A.units+1<cLine)(G:PB X O a fa)(J:PB X O b fb)(hs:xX b):PD X O (.Subscript a b pos)<|bB aJ fa fb:=
 PE.mono (PE.or (qaj qbS G J hs)<|FN N G J hs) <| by
  rintro σ H Q ⟨H0,A0,A,E,ρ,d,st,e,q⟩;obtain⟨x,ex,F⟩:=bind_some e;obtain⟨y,U,F⟩:=bind_some F;have z:∀g:D->D->Option D,g x y=bx d->tD Rep O (bB g fa fb) σ H Q:=λg h=>⟨H0,A0,A,E,ρ,d,st,by unfold bB;rw[ex,U];exact h,q⟩
  cases x with
  |dK l=>exact .inr<|AV<|z _ F
  |dT l=>exact .inr<|AV<|z _ F
  |_=>exact .inl<|yZ<|z dIx F
def kJ(d k e:D):Option D:=match d with
 |.dK l=>(Z7 k).bind λk=>if aZ l.length then bx (.dK<|putD l k e)else cb
 |.dT l=>(WD k).bind λk=>if aZ l.length then bx (.dT<|putD l k e)else cb
 |.lst l=>(Z6 k).bind λk=>(K8 l.length k).map λj=>.lst<|l.set j e
 |_=>cb
def EX(i:Nat)(fk fe:Ev):Sv:=λρ=>(fe ρ).bind λe=>(aD i ρ).bind λx=>(fk ρ).bind λk=>(kJ x k e).map λd=>.nx<|ρ.set i<|bx d
def PS.or{st:Stmt}{t u:TS}(h:PS X st t)(k:PS X st u):PS X st λT σ H=>t T σ H\/u T σ H:=λpins s σ H T I w=>w.elim (h pins s σ H T I)<|k pins s σ H T I
def R4{o k value:Expr}{i:Nat}{pos pos':Pos}{fk fe:Ev}(F:X.A.units+1<cLine)(ho:PE X o<|cN i)(hk:PB X O k fk)(hv:PD X O value fe)(hO:mem O i=cf)(h:Sub O' O=cf:=by rfl)
  (hs:zaz value (bx<|.Subscript o k pos') pos.line X.env=pure ci:=by rfl) (ai:zds [.Subscript o k pos'] value pos.line X.env=pure ci:=by rfl) (hw:zdt [.Subscript o k pos'] value X.env=pure cb:=by rfl)
  (hg:∀ {to ti:TE} {t:QD},PE X o to->PE X k ti->U0 X t->PG X (.Subscript o k pos') (Z0 to ti t):=by intro _ _ _ a b c;exact O9 a b c) :
  PSD X L O (.Assign [.Subscript o k pos'] value pos) (EX i fk fe) O':=
 PS.mono (PS.or (yG F ho hk hv hs)<|OH hv (hg ho hk set_list) ai hw) <| by
  rintro T σ H ⟨H0,A0,A,E,ρ,out,st,e,p⟩;obtain⟨z,ez,e⟩:=bind_some e;obtain⟨x,ex,e⟩:=bind_some e;obtain⟨y,ey,e⟩:=bind_some e;obtain⟨d,ed,rfl⟩:=map_some e;obtain⟨a,e1,N,e3,e4⟩:=st.own i _ (bT ex)<|gR hO;cases x with
  |dK l=>
   obtain⟨kk,e5,J⟩:=bind_some ed;by_cases Y:aZ l.length=cf
   .rw[ck Y]at J;cases J
    refine .inl ⟨H0,A0,A,E,ρ,z,st,ez,λv H1 U r1=>⟨_,e1,H0,A0,A,E,ρ,y,st.mono U,ey,λw H2 W r2=>?_⟩⟩;have q:=U.trans W;cases e4 with
    |@dK _ _ xs h4 ee r4=>
     have F:=q.ow _ _ N h4;have hl:xs.length=l.length:=by have:=congrArg zbt ee;simpa using this
     have:=qE e5 r2;subst this;refine⟨a,_,rfl,DPut.k F (by rw[hl];exact iT Y),?_⟩;obtain⟨e7,r7⟩:=wJ<|t8 kk (r1.ext W)<|uL ee<|r4.ext q;obtain⟨A',G⟩:=((st.mono q).write (o:=.dK _) (bT ex) (gR hO) e1 N e3 F trivial (.dK aI e7<|r7.put N F trivial)).shut<|Sub.mem h;exact p A' σ _ G
   .rw[cq Y]at J;cases J
  |dT l=>
   obtain⟨kk,e5,J⟩:=bind_some ed;by_cases Y:aZ l.length=cf
   .rw[ck Y]at J;cases J
    refine .inl ⟨H0,A0,A,E,ρ,z,st,ez,λv H1 U r1=>⟨_,e1,H0,A0,A,E,ρ,y,st.mono U,ey,λw H2 W r2=>?_⟩⟩;have q:=U.trans W;cases e4 with
    |@dT _ _ xs h4 ee r4=>
     have F:=q.ow _ _ N h4;have hl:xs.length=l.length:=by have:=congrArg zbt ee;simpa using this
     obtain⟨b,rfl,hb⟩:=qG e5 r2;refine⟨a,_,rfl,DPut.t F hb (by rw[hl];exact iT Y),?_⟩;obtain⟨e7,r7⟩:=wJ<|t8 kk (r1.ext W)<|uL ee<|r4.ext q;obtain⟨A',G⟩:=((st.mono q).write (o:=.dT _) (bT ex) (gR hO) e1 N e3 F trivial (.dT aI e7<|r7.put N F trivial)).shut<|Sub.mem h;exact p A' σ _ G
   .rw[cq Y]at J;cases J
  |lst l=>
   obtain⟨kk,e5,J⟩:=bind_some ed;obtain⟨j,e7,rfl⟩:=map_some J;refine .inr ⟨H0,A0,A,E,ρ,z,st,ez,λv H1 U r1=>⟨_,e1,H0,A0,A,E,ρ,y,st.mono U,ey,λw H2 W r2=>?_⟩⟩;have q:=U.trans W;cases e4 with
   |@lst _ _ xs h4 r4=>
    have F:=q.ow _ _ N h4;rw[tL e5]at r2;have:=r2.int_inv;subst this;refine⟨a,xs,kk,j,rfl,rfl,F,by rw[r4.length];exact e7,?_⟩;obtain⟨A',G⟩:=((st.mono q).write (o:=.lst _) (bT ex) (gR hO) e1 N e3 F trivial (.lst aI<|((r4.ext q).set j<|r1.ext W).put N F trivial)).shut<|Sub.mem h;exact p A' σ _ G
  |_=>cases ed
def K9(g:Int->Int->Option D):D->D->Option D
 |.int i,.int j=>g i j
 |_,_=>cb
def tO(h:K9 g x y=bx d):∃i j,x=.int i/\y=.int j/\g i j=bx d:=by
 cases x with
 |int i=>
  cases y with
  |int j=>exact⟨_,_,rfl,rfl,h⟩
  |_=>exact nn h
 |_=>exact nn h
def tU{f:Value->Value->Sem Value}{C:Int->Int->Prop}[∀i j,Decidable<|C i j]{g:Int->Int->Int}(h:OpR X f<|rI C λi j=>.int<|g i j):kT X f<|K9 λi j=>if C i j then bx (.int<|g i j)else cb:=
 OpR.mono h <| by
  rintro x y H Q ⟨A,dx,U,d,N,G,J,e,q⟩;obtain⟨i,j,rfl,rfl,z⟩:=tO e;have:=G.int_inv;subst this;have:=J.int_inv;subst this;by_cases F:C i j
  .rw[ck F]at z;cases z
   exact⟨i,j,rfl,rfl,F,q _ H (Ext.refl _ _)<|.int _⟩
  .rw[cq F]at z;cases z
def UN{f:Value->Value->Sem Value}{g:Int->Int->Int}(h:OpR X f<|U7 λi j=>.int<|g i j):kT X f<|K9 λi j=>bx<|.int<|g i j:=
 OpR.mono h <| by
  rintro x y H Q ⟨A,dx,J,d,G,z,F,e,q⟩;obtain⟨i,j,rfl,rfl,e⟩:=tO e;have:=z.int_inv;subst this;have:=F.int_inv;subst this;cases e;exact⟨i,j,rfl,rfl,q _ H (Ext.refl _ _)<|.int _⟩
def N1{f:Value->Value->Sem Value}{g:Int->Int->Bool}(h:OpR X f<|U7 λi j=>.bl<|g i j):kT X f<|K9 λi j=>bx<|.bl<|g i j:=
 OpR.mono h <| by
  rintro x y H Q ⟨A,dx,J,d,G,z,F,e,q⟩;obtain⟨i,j,rfl,rfl,e⟩:=tO e;have:=z.int_inv;subst this;have:=F.int_inv;subst this;cases e;exact⟨i,j,rfl,rfl,q _ H (Ext.refl _ _)<|.bl _⟩
instance:∀i j,Decidable<|My.EU i j:=λi j=>by unfold My.EU;infer_instance
instance:∀i j,Decidable<|U2 i j:=λi j=>by unfold U2;infer_instance
instance:∀i j,Decidable<|U4 i j:=λi j=>by unfold U4;infer_instance
def qbf:D->D->Option D:=K9 λi j=>bx<|.int<|i-j
def IC:D->D->Option D:=K9 λi j=>if My.EU i j then bx (.int<|i*j)else cb
def dI:D->D->Option D:=K9 λi j=>if 0<j then bx (.int<|i%j)else cb
def hV:D->D->Option D:=K9 λi j=>if U2 i j then bx (.int<|i/j)else cb
def P9:D->D->Option D:=K9 λi j=>if U4 i j then bx (.int<|i^j.toNat)else cb
def uR:D->D->Option D:=K9 λi j=>bx<|.bl<|decide (j<i)
def YW:kT X (zaQ .Sub) qbf:=UN WY
def XN:kT X (zaQ .Mult) IC:=tU My.QV
def fX:kT X (zaQ .Mod) dI:=tU XA
def EI:kT X (zaQ .FloorDiv) hV:=tU Q8
def XZ:kT X (zaQ .Pow) P9:=tU YT
def qq:kT X (zaC .Gt) uR:=N1 qaI
def UU(f:Ev):Ev:=λρ=>(f ρ).bind λd=>(Z6 d).map λi=>.int<|-i
def YA(G:PB X O a f):PD X O (.UnaryOp .USub a pos)<|UU f:=PE.mono (qaX YH G) <| by
 rintro σ H Q ⟨H0,A0,A,E,ρ,d,st,e,q⟩;obtain⟨x,ex,e⟩:=bind_some e;obtain⟨i,F,rfl⟩:=map_some e;rw[tL F]at ex;exact⟨H0,A0,A,E,ρ,_,st,ex,λv H1 z r1=>⟨i,r1.int_inv,q _ H1 z<|.int _⟩⟩
end
section
variable {X:Cx}{L:Lp}{O O':List Nat}
def UW:Sv:=λ_=>cb
def IP{st:Stmt}:PSD X L O st UW O':=λ_ _ _ _ _ _ ⟨_,_,_,_,_,_,_,e,_⟩=>nomatch e
abbrev Gv:=D->cA->Option cA
inductive tDG(O:List Nat)(g:Gv)(v:V)(σ:L2.St)(H:Hp)(Q:L2.St->Hp->Prop):Prop
 | mk (H0:Hp) (A0 A:Av) (E:List Fact) (ρ:cA) (d:D) (ρ':cA) (st:ST H0 A0 A E O σ H ρ) (r:Rep A H d v) (e:g d ρ=bx ρ') (q:∀σ',ST H0 A0 A E O σ' H ρ'->Q σ' H):tDG O g v σ H Q
def B7(X:Cx)(O:List Nat)(tg:Expr)(g:Gv):Prop:=PG X tg<|tDG O g
abbrev V7:=List D->cA->Option cA
inductive tDGs(O:List Nat)(g:V7)(vs:List V)(σ:L2.St)(H:Hp)(Q:L2.St->Hp->Prop):Prop
 | mk (H0:Hp) (A0 A:Av) (E:List Fact) (ρ:cA) (ds:List D) (ρ':cA) (st:ST H0 A0 A E O σ H ρ) (r:RepL A H ds vs) (e:g ds ρ=bx ρ') (q:∀σ',ST H0 A0 A E O σ' H ρ'->Q σ' H):tDGs O g vs σ H Q
def EZ(X:Cx)(O:List Nat)(q:List Expr)(g:V7):Prop:=PGs X q<|tDGs O g
def PG.mono(h:PG X tg t)(x:∀v σ H Q,t' v σ H Q->t v σ H Q):PG X tg t':=λpins s σ H v u Q I r w=>h pins s σ H v u Q I r<|x v σ H Q w
def PGs.mono(h:PGs X ts t)(x:∀v σ H Q,t' v σ H Q->t v σ H Q):PGs X ts t':=λpins s σ H v u Q I r w=>h pins s σ H v u Q I r<|x v σ H Q w
def aS(i:Nat):Gv:=λd ρ=>bx<|ρ.set i<|bx d
def mY(h:PG X tg<|gL i)(n:O.contains i=ci:=by rfl):B7 X O tg<|aS i:=PG.mono h <| by
 rintro v σ H Q ⟨H0,A0,A,E,ρ,d,ρ',st,r,e,q⟩;cases e;exact q _ (st.put r λz=>by
  have:O.contains i=cf:=by simpa using z
  rw[n]at this;cases this)
def uF:V7:=λds ρ=>match ds with
 |[]=>bx ρ
 |_=>cb
def eL(g:Gv)(k:V7):V7:=λds ρ=>match ds with
 |d::ds=>(g d ρ).bind λρ'=>k ds ρ'
 |_=>cb
def NG:EZ X O [] uF:=PGs.mono UM <| by
 rintro v σ H Q ⟨H0,A0,A,E,ρ,ds,ρ',st,r,e,q⟩;cases r with
 |nil=>cases e;exact⟨rfl,q _ st⟩
 |cons _ _=>cases e
def gX(N:∀ {t:TG} {u:WC},PG X e t->PGs X es u->PGs X (e::es) (VR t u))(h1:B7 X O e g)(h2:EZ X O es k):EZ X O (e::es)<|eL g k:=
 PGs.mono (N h1 h2) <| by
  rintro v σ H Q ⟨H0,A0,A,E,ρ,ds,ρ',st,r,e,q⟩;cases r with
  |nil=>cases e
  |cons h t=>
   obtain⟨z,G,e⟩:=bind_some e;exact⟨_,_,rfl,H0,A0,A,E,ρ,_,z,st,h,G,λJ F=>⟨H0,A0,A,E,z,_,ρ',F,t,e,q⟩⟩
def kQ(n:Nat)(k:V7):Gv:=λd ρ=>match d with
 |.tup l=>if l.length=n then k l ρ else cb
 |_=>cb
def FU(G:PG X tg<|qbk X.K n<|tDGs O k):B7 X O tg<|kQ n k:=PG.mono G <| by
 rintro v σ H Q ⟨H0,A0,A,E,ρ,d,ρ',st,r,e,q⟩;cases d with
 |tup l=>
  obtain⟨a,xs,rfl,h,F⟩:=RepB.tup_inv<|.of r;by_cases z:l.length=n
  .simp only[kQ,ck z]at e
   exact⟨a,xs,rfl,.inl<|.inl h,by rw[F.length];exact z,H0,A0,A,E,ρ,l,ρ',st,F,e,q⟩
  .simp only[kQ,cq z]at e;cases e
 |_=>exact nn e
def U3(f:Ev)(g:Gv):Sv:=λρ=>(f ρ).bind λd=>(g d ρ).map .nx
def nD(N:PD X O e f)(U:B7 X O tg g)(hs:zds [tg] e pos.line X.env=pure ci:=by rfl)(hw:zdt [tg] e X.env=pure cb:=by rfl)(h:Sub O' O=cf:=by rfl)(h1:(za8 [tg] X.env).map (·.2)=[zbf tg X.env]:=by rfl)(h1:(za8 [tg] X.env).map (·.2)=[zbf tg X.env]:=by rfl)(h1:(za8 [tg] X.env).map (·.2)=[zbf tg X.env]:=by rfl)(h1:(za8 [tg] X.env).map (·.2)=[zbf tg X.env]:=by rfl):PSD X L O (.Assign [tg] e pos) (U3 f g) O':=
 PS.mono (OH N U hs hw h1) <| by
  rintro T σ H ⟨H0,A0,A,E,ρ,out,st,e,p⟩;obtain⟨d,G,e⟩:=bind_some e;obtain⟨ρ',J,rfl⟩:=map_some e;refine⟨H0,A0,A,E,ρ,d,st,G,λv H' x r=>⟨H0,A0,A,E,ρ,d,ρ',st.mono x,r,J,λz F=>?_⟩⟩;obtain⟨A',q⟩:=F.shut<|Sub.mem h;exact p A' z H' q
def KZ(J:It)(q:List Fact)(items:List D):Prop:=
 ∀(A:Av) (H:Hp),Live A H->(∀p∈q,p.Holds A H)->∀i,(items.length<=i->J.stop i H)/\∀d,items[i]?=bx d->J.go i H/\∀x H',J.yld i H x H'->Ext A H H'/\Rep A H' d x
inductive tDI(O:List Nat)(f:Lv)(σ:L2.St)(H:Hp)(R:It->Hp->Prop):Prop
 | mk (H0:Hp) (A0 A:Av) (E:List Fact) (ρ:cA) (items:List D) (st:ST H0 A0 A E O σ H ρ) (e:f ρ=bx items) (q:∀J H' E1,Ext A H H'->(∀p∈E1,p.Holds A H')->KZ J E1 items->R J H'):tDI O f σ H R
def PDI(X:Cx)(O:List Nat)(tg e:Expr)(f:Lv):Prop:=PI X tg e<|tDI O f
def PI.mono(h:PI X tg e t)(x:∀σ H Q,t' σ H Q->t σ H Q):PI X tg e t':=λpins s σ H Q I w=>h pins s σ H Q I<|x σ H Q w
def PI.or(h:PI X tg e t)(k:PI X tg e u):PI X tg e λσ H Q=>t σ H Q\/u σ H Q:=λpins s σ H Q I w=>w.elim (h pins s σ H Q I)<|k pins s σ H Q I
def Q7{a:Addr}{l:List D}{K:zae}:KZ (Itl K a) [.rep (.lst l)<|.ref a] l:=by
 intro A H F h i;have r:Rep A H (.lst l)<|.ref a:=h _<|List.mem_singleton.mpr rfl;obtain⟨G,xs,e,h1,q⟩:=RepB.lst_inv<|.of r;cases e;refine⟨λhi=>⟨xs,.inl h1,by rw[q.length];exact hi⟩,λd hd=>?_⟩;obtain⟨v,z,r1⟩:=q.get' hd;refine⟨⟨xs,v,.inl h1,z⟩,λx H' y=>?_⟩;obtain⟨rfl,y⟩:=y;have:=y xs<|.inl h1;rw[z]at this;cases this;exact⟨Ext.refl _ _,r1⟩
def ZP{a:Addr}{l:List D}{K:zae}:KZ (Itt K a) [.rep (.tup l)<|.ref a] l:=by
 intro A H F h i;have r:Rep A H (.tup l)<|.ref a:=h _<|List.mem_singleton.mpr rfl;obtain⟨G,xs,e,h1,q⟩:=RepB.tup_inv<|.of r;cases e;refine⟨λhi=>⟨xs,.inl<|.inl h1,by rw[q.length];exact hi⟩,λd hd=>?_⟩;obtain⟨v,z,r1⟩:=q.get' hd;refine⟨⟨xs,v,.inl<|.inl h1,z⟩,λx H' y=>?_⟩;obtain⟨rfl,y⟩:=y;have:=y xs<|.inl<|.inl h1;rw[z]at this;cases this;exact⟨Ext.refl _ _,r1⟩
def aQ(lo c:Int)(n:Nat):List D:=(zas n).map λ(i:Nat)=>.int<|lo+(i:Int)*c
def bH(lo c:Int)(n:Nat):(aQ lo c n).length=n:=by simp[aQ]
def bV{lo c:Int}{n i:Nat}(h:(aQ lo c n)[i]?=bx d):i<n/\d=.int (lo+(i:Int)*c):=by
 unfold aQ at h;rw[zaD]at h;by_cases hi:i<n
 .rw[zdf hi]at h;cases h;exact⟨hi,rfl⟩
 .rw[List.getElem?_eq_none<|by simpa using hi]at h;cases h
def LL{lo:Int}{n:Nat}:KZ (Itr lo n) []<|aQ lo 1 n:=by
 intro A H q h i;refine⟨λhi=>by rw[bH]at hi;exact hi,λd hd=>?_⟩;obtain⟨hi,rfl⟩:=bV hd;exact⟨hi,λx H' ⟨e,y⟩=>by subst e y;rw[Int.mul_one];exact⟨Ext.refl _ _,.int _⟩⟩
def pP(i:Int):Bool:=decide (-1000000<=i) && decide (i<=1000000)
def bY:List D->Option (List D)
 |[.int j]=>if pP j then bx (aQ 0 1 j.toNat)else cb
 |_=>cb
def BS(h:pP i=cf):-(2^62)<=i/\i<2^62:=by
 simp only[pP,zaV,decide_eq_true_eq]at h
 lia
def lR(g:List D->Option (List D))(f:Lv):Lv:=λρ=>(f ρ).bind g
def RL.one(r:RL R A H [d] vs):∃v,vs=[v]/\R A H d v:=by
 cases r with|cons h t=>cases t;exact⟨_,rfl,h⟩
def RL.two(r:RL R A H [d,e] vs):∃v w,vs=[v,w]/\R A H d v/\R A H e w:=by
 cases r with|cons h t=>obtain⟨w,rfl,h2⟩:=RL.one t;exact⟨_,w,rfl,h,h2⟩
def xB(h:bY ds=bx l):∃j,ds=[.int j]/\pP j=cf/\l=aQ 0 1 j.toNat:=by
 unfold bY at h;split at h
 .split at h
  .cases h;exact⟨_,rfl,by assumption,rfl⟩
  .cases h
 .cases h
section
variable {tg a b c:Expr}{f:Lv}{p pos:Pos}
def CF(G:Gl X "range")(N:X.mg "range" = cb)(z:wV X O [a] f)(hs:zaf [a] X.env=[(ci,eval a X.env)]:=by rfl):PDI X O tg (.Call (.Name "range" p) [a] [] pos)<|lR bY f:=PI.mono (KL G N z hs) <| by
 rintro σ H R ⟨H0,A0,A,E,ρ,items,st,e,q⟩;obtain⟨ds,F,e⟩:=bind_some e;refine⟨H0,A0,A,E,ρ,ds,st,F,λvs H1 J r1=>?_⟩;obtain⟨j,rfl,h,rfl⟩:=xB e;obtain⟨v,rfl,h1⟩:=r1.one;have:=h1.int_inv;subst this;exact⟨j,rfl,(BS h).1,(BS h).2,q _ H1 [] J (λ_ h=>nomatch h) LL⟩
end
def KY:Key->D
 |.inl i=>.int i
 |.inr x=>.str x
def QI(f:Ev):Lv:=λρ=>(f ρ).bind λd=>match d with
 |.lst l=>bx l
 |.tup l=>bx l
 |.dT l=>bx<|l.map λp=>.tup<|p.1.map KY
 |_=>cb
theorem sY:∀k:List Key,RepL A H (k.map KY) (k.map kV)
 |[]=>.nil
 |.inl i::k=>.cons (.int i)<|sY k
 |.inr x::k=>.cons (.str x)<|sY k
def WQ(tl:TE):TI:=λσ H R=>tl σ H λx H1=>∃d kvs,x=.ref d/\((H1 d=bx (.dT kvs)/\∀o,R (My.ItD d o kvs)<|upd H1 d<|.frz o<|.dT kvs)\/∃o,H1 d=bx (.frz o<|.dT kvs)/\R (My.ItD d o kvs) H1)
def MG(hl:PE X l tl):PI X tg l<|WQ tl:=by
 intro pins s σ H R I h;refine cP (hl pins s σ H _ I h) λv z ⟨x,H1,N,r1,q1⟩=>?_
 obtain⟨d,kvs,rfl,q⟩:=q1;cases r1;have J:∀(o:Obj) (H2:Hp),(d == zbb)=ci->Inv X pins σ H2 z->z.heap.get? d=bx o->ObjOk X.prog X.w H2 z.heap d (.dT kvs)->R (My.ItD d o kvs) H2->wpAny (model X.prog X.w) X.A (pyIter<|.ref d) (PIE X pins σ tg R) X.xe z:=λo H2 lo F W ok q=>by
  obtain⟨_,_,es,ep,⟨o',r1,r2,r3⟩,G,_⟩:=My.t4 ok;rw[W]at r1;cases r1;refine My.NJ lo ⟨o,W,r2,r3⟩ ?_;refine⟨z.heap.objs.size,[z.heap.objs.size],_,_,_,rfl,F.kept (t':=z.toks) λb o e=>zam _ e,My.J9 d _ o kvs es ep r3 G,⟨_,zaF _ rfl,rfl,rfl⟩,λb Y=>?_,q⟩;have e:b=z.heap.objs.size:=by simpa using Y
  subst e;exact F.fpOk (zaj _)<|F.hok.fresh<|zaj _
 rcases q with⟨hd,q⟩|⟨o,hd,q⟩
 .have ok:=(show ObjOk X.prog X.w H1 z.heap d (.dT kvs)from N.hok d _ hd)
  obtain⟨lo,_,es,ep,⟨o,r1,r2,r3⟩,G,_⟩:=My.t4 ok;have F:=My.DD N hd r1;have U:=(show ObjOk X.prog X.w _ z.heap d (.frz o<|.dT kvs)from F.hok d _ aI);exact J o _ lo F r1 U.2<|q o
 .have ok:=(show ObjOk X.prog X.w H1 z.heap d (.frz o<|.dT kvs)from N.hok d _ hd)
  obtain⟨lo,_⟩:=My.t4 ok.2;exact J o H1 lo N ok.1 ok.2 q
def FC{a:Addr}{o:Obj}{xs:List (List Key×V)}{l:List (List Key×D)}(e:xs.map (·.1)=l.map (·.1)):KZ (My.ItD a o xs) [.fz a o<|.dT xs]<|l.map λp=>.tup<|p.1.map KY:=by
 intro A H W h i;have z:H a=bx (.frz o<|.dT xs):=h _<|List.mem_singleton.mpr rfl;have U:xs.length=l.length:=by have:=congrArg zbt e;simpa using this
 refine⟨λhi=>⟨z,by rw[zak]at hi;lia⟩,λd hd=>?_⟩;rw[zaD]at hd;obtain⟨p,q,rfl⟩:=map_some hd;have hi:i<l.length:=(List.getElem?_eq_some_iff.mp q).1;refine⟨⟨z,by lia⟩,λx H' ⟨J,k,v,b,N,F,G⟩=>?_⟩;subst J F;have:k=p.1:=by
  have h1:(xs.map (·.1))[i]?=bx k:=by rw[zaD,N];rfl
  rw[e,zaD,q]at h1;exact(zay h1).symm
 subst this;exact⟨Ext.refl _ _,.tup G<|sY _⟩
def QR(n:¬ A d)(hd:H d=bx u)(ob:qi u)(G:¬ Kp u):Ext A H (upd H d<|.frz o u) where
 rd:=λb w r=>by
  by_cases e:b=d
  .subst e
   rcases r with r|⟨q,r⟩
   .rw[hd]at r;cases r;exact .inr ⟨o,aI⟩
   .rw[hd]at r;cases r;exact ob.elim
  .exact gP e r
 kp:=λb w k r=>by rw[aG λz=>by subst z;rw[hd]at r;cases r;exact G k];exact r
 ow:=λb w F r=>by rw[aG λz=>n<|by rw[<- z];exact F];exact r
 fz:=λb q w r=>by rw[aG λz=>by subst z;rw[hd]at r;cases r;exact ob];exact r
def SO(h:PD X O e f):PDI X O tg e<|QI f:=PI.mono (PI.or (PI.or (T3 h)<|YQ h)<|MG h) <| by
 rintro σ H R ⟨H0,A0,A,E,ρ,items,st,e,q⟩;obtain⟨d,J,e⟩:=bind_some e;cases d with
 |lst l=>
  cases e;refine .inl<|.inl ⟨H0,A0,A,E,ρ,_,st,J,λv H1 G r1=>?_⟩;obtain⟨a,xs,rfl,h1,N⟩:=RepB.lst_inv<|.of r1;exact⟨a,rfl,⟨xs,.inl h1⟩,q _ H1 [.rep (.lst items)<|.ref a] G (λp F=>by rw[List.mem_singleton.mp F];exact r1) Q7⟩
 |tup l=>
  cases e;refine .inl<|.inr ⟨H0,A0,A,E,ρ,_,st,J,λv H1 G r1=>?_⟩;obtain⟨a,xs,rfl,h1,N⟩:=RepB.tup_inv<|.of r1;exact⟨a,rfl,⟨xs,.inl<|.inl h1⟩,q _ H1 [.rep (.tup items)<|.ref a] G (λp F=>by rw[List.mem_singleton.mp F];exact r1) ZP⟩
 |dT l=>
  cases e;refine .inr ⟨H0,A0,A,E,ρ,_,st,J,λv H1 G r1=>?_⟩;cases r1 with
  |@dT _ a xs n h ee N=>
   refine⟨a,xs,rfl,?_⟩;rcases h with h|⟨o,h⟩
   .refine .inl ⟨h,λo=>q _ _ [.fz a o<|.dT xs] (G.trans<|QR n h trivial λz=>z) (λp F=>by rw[List.mem_singleton.mp F];exact aI)<|FC ee⟩
   .exact .inr ⟨o,h,q _ H1 [.fz a o<|.dT xs] G (λp F=>by rw[List.mem_singleton.mp F];exact h)<|FC ee⟩
 |_=>exact nn e
def kA(g:Gv)(body:Sv):List D->cA->Option Out
 |[],ρ=>bx<|.nx ρ
 |x::xs,ρ=>(g x ρ).bind λρ1=>(body ρ1).bind λo=>match o with
  |.nx ρ2=>kA g body xs ρ2
  |.ct ρ2=>kA g body xs ρ2
  |.bk ρ2=>bx<|.nx ρ2
  |.rt d=>bx<|.rt d
def y9(f:Lv)(g:Gv)(q:Sv):Sv:=λρ=>(f ρ).bind λitems=>kA g q items ρ
def ST.both(s:ST H0 A0 A E O σ H ρ)(h:∀p∈E1,p.Holds A H):ST H0 A0 A (E1++E) O σ H ρ:=
 {s with ext:=λp q=>by rcases List.mem_append.mp q with e|e;exact h p e;exact s.ext p e}
def QW(hp:zca (model X.prog X.w) X.A X.env X.xe)(hc:X.calm=cf)(hi:PDI X O tg iter f)(hg:B7 X O1 tg g)(hb:PSDs X ⟨Ob,O1⟩ O1 body b O1)(h1:Sub O1 O=cf)(h2:Sub O' O1=cf)(h3:Sub O' Ob=cf)
  (hs:∀x,zbc iter X.env x=pure x:=by intro _;rfl):PSD X L O (.For tg iter body [] pos) (y9 f g b) O':=PS.mono (O6 hp hc hi hg hb hs) λT σ H ⟨H0,A0,A,E,ρ,out,st,e,p⟩=>by
 obtain⟨items,e1,e⟩:=bind_some e;refine⟨H0,A0,A,E,ρ,items,st,e1,λJ H1 U x1 ac J1=>?_⟩;obtain⟨A1,ad⟩:=((st.mono x1).both ac).shut<|Sub.mem h1;refine⟨λi m σ H=>m=items.length-i/\i<=items.length/\∃ρ A,ST H0 A0 A (U++E) O1 σ H ρ/\kA g b (items.drop i) ρ=bx out,⟨items.length,by simp,zaM _,ρ,A1,ad,e⟩,?_⟩;rintro i m σ H ⟨rfl,ay,ρ,A,st,e⟩;have hE:∀p∈U,p.Holds A H:=λp hp=>st.ext p<|zbq _ hp
 obtain⟨ab,go⟩:=J1 A H st.live hE i;have fin:∀ {O2:List Nat} {A:Av} {σ:L2.St} {H:Hp} {ρ:cA},Sub O' O2=cf->ST H0 A0 A (U++E) O2 σ H ρ->(∀A σ H,ST H0 A0 A E O' σ H ρ->T.nx σ H)->T.nx σ H:=λhs st k=>by
  obtain⟨F,ae⟩:=(st.less (E':=E) λq hq=>za1 _ hq).shut<|Sub.mem hs;exact k F _ _ ae
 by_cases N:i<items.length
 .have ed:items[i]?=bx items[i]:=by simp[N]
  obtain⟨ag,hy⟩:=go _ ed;rw[zdX N]at e;obtain⟨Y,eg,e⟩:=bind_some e;obtain⟨o,eo,e⟩:=bind_some e;refine .inr ⟨ag,λaa H'=>∃z F,ST H0 A0 F (U++E) O1 aa H' z/\kA g b (items.drop<|i+1) z=bx out,λaa H' ⟨z,F,G,e2⟩=>⟨items.length-(i+1),by lia,rfl,N,z,F,G,e2⟩,λx H' y=>?_⟩;obtain⟨x2,r2⟩:=hy x H' y;refine⟨H0,A0,A,U++E,ρ,_,Y,st.mono x2,r2,eg,λa2 s1=>⟨H0,A0,A,U++E,Y,o,s1,eo,?_⟩⟩;cases o with
  |nx z=>exact λF W H2 G=>⟨z,F,G,e⟩
  |ct z=>exact λF W H2 G=>⟨z,F,G,e⟩
  |bk z=>cases e;exact λF W H2 G=>fin h3 G p
  |rt d=>cases e;exact p
 .have ah:i=items.length:=by lia
  subst ah;rw[zeG]at e;cases e;exact .inl ⟨ab<|zaj _,fin h2 st p⟩
end
def gT(cells:List<|Str×Addr):List (Str×zbO)->List (Str×Addr)->List (Str×Addr)
 |[],cs=>cs
 |(x,k)::r,cs=>gT cells r<|if k == .free then(x,(cells.lookup x).getD 0)::cs else cs
theorem vX:∀(names:List<|Str×zbO) (q:List<|Str×Addr),(∀y∈names,y.2=.free->∃c,env.cells.lookup y.1=bx c)->
  (forIn names q λ(p:Str×zbO) (r:List (Str×Addr))=>if(p.2 == .free)=cf then(do let c <- cellOf env p.1;pure<|zcQ<|(p.1,c)::r)else(pure<|zcQ r:Sem _))=(pure<|gT env.cells names q:Sem _)
 |[],q,_=>by simp[gT]
 |(x,k)::r,q,h=>by
  have ih:=λq=>vX r q λy G=>h y<|zaq _ G
  rw[zeE];by_cases e:(k == zbu)=cf
  .have F:k=.free:=by simpa using e
   obtain⟨c,J⟩:=h (x,k) (zar ..) F;have z:env.cells.lookup x=bx c:=J;simp only[e,if_true,gT];have:cellOf env x=pure c:=by unfold cellOf;rw[z]
   rw[this];simp only[pure_bind,z,Option.getD_some];exact ih _
  .simp only[e,gT]
   simp only[zbA,if_false,pure_bind];exact ih _
def F7(h:∀y∈scope.names,y.2=.free->∃c,env.cells.lookup y.1=bx c):closureFor scope env=pure (gT env.cells scope.names []):=by
 have:=vX scope.names [] h;unfold closureFor;simp only[bind_pure];exact this
theorem sO:∀ {names:List (Str×zbO)} {cs:List (Str×Addr)} {c:Addr},(gT cells names cs).lookup x=bx c->(∃q,cs.lookup x=bx q/\c=q)\/((x,zbu)∈names/\c=(cells.lookup x).getD 0)
 |[],cs,c,h=>.inl ⟨c,h,rfl⟩
 |(y,k)::r,cs,c,h=>by
  rw[gT]at h;rcases sO h with⟨q,h1,h2⟩|⟨h1,h2⟩
  .by_cases e:(k == zbu)=cf
   .rw[ck e,zbI]at h1
    by_cases ex:(x == y)=cf
    .rw[ex]at h1
     have z:x=y:=by simpa using ex
     have F:k=.free:=by simpa using e
     subst z F;cases h1;exact .inr ⟨zar ..,h2⟩
    .rw[zdY]at ex
     rw[ex]at h1;exact .inl ⟨q,h1,h2⟩
   .rw[cq e]at h1
    exact .inl ⟨q,h1,h2⟩
  .exact .inr ⟨zaq _ h1,h2⟩
theorem sJ:∀ {names:List (Str×zbO)} {cs:List (Str×Addr)},((x,zbu)∈names\/∃c,cs.lookup x=bx c)->∃c,(gT cells names cs).lookup x=bx c
 |[],cs,h=>h.elim (λh=>nomatch h) id
 |(y,k)::r,cs,h=>by
  rw[gT];apply sJ;rcases h with h|⟨c,h⟩
  .rcases List.mem_cons.mp h with e|e
   .cases e
    refine .inr ⟨(cells.lookup x).getD 0,?_⟩;simp[zbI]
   .exact .inl e
  .right
   by_cases e:(k == zbu)=cf
   .rw[ck e,zbI]
    by_cases ex:(x == y)=cf
    .rw[ex];exact⟨_,rfl⟩
    .rw[zdY]at ex;rw[ex];exact⟨c,h⟩
   .rw[cq e];exact⟨c,h⟩
theorem fR{q:Type}{v:q}:∀ {l:List (Str×q)},l.lookup x=bx v->(x,v)∈l
 |(y,w)::r,h=>by
  rw[zbI]at h;by_cases ex:(x == y)=cf
  .rw[ex]at h;cases h;rw[show x=y by simpa using ex];exact zar ..
  .rw[zdY]at ex;rw[ex]at h;exact zaq _<|fR h
def BW(names outer:List<|Str×zbO):Bool:=
 names.all λy=>y.2 != .cell && (y.2 != .local || names.lookup y.1 == bx .local) && (y.2 != .free || outer.lookup y.1 == bx .cell)
def EB{X:Cx}{N:List Str}{scope:Scope}{n:Nat}(hk:scope.kind=.function)(h:BW scope.names X.env.scope.names=cf)(hc:X.env.cells=zcc n X.env.scope.names []):My.Clo X N scope<|gT X.env.cells scope.names []:=by
 have h':=List.all_eq_true.mp h;have c1:∀y∈scope.names,y.2≠.cell:=λy G=>by
  have:=h' y G;simp only[zaV]at this;simpa using this.1.1
 have c2:∀y∈scope.names,y.2=.local->scope.names.lookup y.1=bx .local:=λy G e=>by
  have:=h' y G;simp only[zaV,zdZ]at this;rcases this.1.2 with z|z
  .rw[e]at z;exact absurd z<|by decide
  .simpa using z
 have c3:∀y∈scope.names,y.2=.free->∃c,X.env.cells.lookup y.1=bx c:=λy G e=>by
  have:=h' y G;simp only[zaV,zdZ]at this;rcases this.2 with z|z
  .rw[e]at z;exact absurd z<|by decide
  .rw[hc];exact mS (sc:=X.env.scope)<|by simpa using z
 have F:∀x,((zbe scope X.env).names.lookup x=bx .cell\/(zbe scope X.env).names.lookup x=bx .free)->(x,zbu)∈scope.names:=λx hx=>by
  have U:∀W,(W=NameKind.cell\/W=zbu)->(x,W)∈(zbe scope X.env).names->(x,zbu)∈scope.names:=λW Y hm=>by
   obtain⟨⟨y,k⟩,G,e⟩:=List.mem_map.mp hm;dsimp only at e;by_cases q:(k == zbu && X.env.scope.kind == .function && X.env.kindOf y == bx .cell)=cf
   .rw[ck q]at e
    have:k=.free:=by simp only[zaV]at q;simpa using q.1.1
    cases e;subst this;exact G
   .rw[cq q]at e
    cases e;rcases Y with z|z
    .exact absurd z<|c1 _ G
    .subst z;exact G
  rcases hx with hx|hx
  .exact U _ (.inl rfl)<|fR hx
  .exact U _ (.inr rfl)<|fR hx
 refine⟨F7 c3,hk,c1,c2,λx c e=>?_,λx hx=>sJ<|.inl<|F x hx⟩;rcases sO e with⟨c',z,_⟩|⟨z1,z2⟩
 .cases z
 .obtain⟨c0,J⟩:=c3 _ z1 rfl
  have J:X.env.cells.lookup x=bx c0:=J;rw[z2,J];rfl
def dF(X:Cx)(scope:Scope):List Str->List (Option Nat)->Prop
 |[],[]=>True
 |_::N,cb::ms=>dF X scope N ms
 |x::N,bx i::ms=>(X.N[i]?=bx x/\((zbe scope X.env).names.lookup x == bx NameKind.local)=ci/\(X.env.kindOf x=bx .cell\/X.env.kindOf x=bx .free))/\dF X scope N ms
 |_,_=>False
def hW{q:Type}(ms:List<|Option Nat)(σ:List<|Option q):List<|Option q:=ms.map λo=>o.bind λi=>(σ[i]?).join
theorem jC:∀ {N:List Str} {ms:List (Option Nat)},dF X scope N ms->ms.length=N.length/\∀(j:Nat) (x:Str) (i:Nat),N[j]?=bx x->ms[j]?=bx (bx i)->X.N[i]?=bx x/\(zbe scope X.env).names.lookup x≠bx .local/\(X.env.kindOf x=bx .cell\/X.env.kindOf x=bx .free)
 |[],[],_=>⟨rfl,λj x i h _=>by simp at h⟩
 |y::N,cb::ms,h=>by
  obtain⟨l,g⟩:=jC (N:=N) (ms:=ms) h;refine⟨by simp[l],λj x i h1 h2=>?_⟩;cases j with
  |zero=>simp at h2
  |succ j=>exact g j x i (by simpa using h1)<|by simpa using h2
 |y::N,bx k::ms,h=>by
  obtain⟨l,g⟩:=jC (N:=N) (ms:=ms) h.2;refine⟨by simp[l],λj x i h1 h2=>?_⟩;cases j with
  |zero=>simp at h1 h2;subst h1 h2;exact⟨h.1.1,λz=>by have:=h.1.2.1;rw[z]at this;exact absurd this<|by decide,h.1.2.2⟩
  |succ j=>exact g j x i (by simpa using h1)<|by simpa using h2
 |[],_::_,h=>h.elim
 |_::_,[],h=>h.elim
def gI{q:Type}{ms:List (Option Nat)}{σ:List (Option q)}{j:Nat}{v:q}(h:(hW ms σ)[j]?=bx (bx v)):∃i:Nat,ms[j]?=bx (bx i)/\σ[i]?=bx (bx v):=by
 unfold hW at h;rw[zaD]at h;obtain⟨o,F,z⟩:=map_some h;cases o with
 |none=>cases z
 |some i=>exact⟨i,F,rJ z⟩
def LP{N:List Str}{ms:List (Option Nat)}(h:dF X scope N ms)(σ:L2.St):My.Start X N scope σ<|hW ms σ:=by
 obtain⟨l,g⟩:=jC h;refine⟨by unfold hW;rw[zak];exact l,λj x v h1 h2 _=>?_⟩;obtain⟨i,q,z⟩:=gI h2;obtain⟨a,b,c⟩:=g j x i h1 q;exact⟨b,i,a,z,c⟩
def ST.inner{E:List Fact}{O:List Nat}(s:ST H0 A0 A E O σ H ρ)(ms:List<|Option Nat)(n:∀i,bx i∈ms->i∉O):ST H0 A0 A E [] (hW ms σ) H (hW ms ρ) where
 ex:=s.ex
 sub:=s.sub
 l0:=s.l0
 live:=s.live
 len:=by simp[hW]
 val:=λj d h _=>by
  obtain⟨i,q,F⟩:=gI h;obtain⟨v,z,r⟩:=s.val i d F<|n i<|zax q;refine⟨v,?_,r⟩;unfold hW;rw[zaD,q];show bx ((σ[i]?).join)=_;rw[z];rfl
 own:=λj d _ h=>nomatch h
 inj:=λi j d d' a hi=>nomatch hi
 ext:=s.ext
def bD(g:Gv)(c:Bv)(f:Ev):List D->cA->Option (List D)
 |[],_=>bx []
 |x::xs,ρ=>(g x ρ).bind λρ1=>(c ρ1).bind λb=>if b=cf then(f ρ1).bind λd=>(bD g c f xs ρ1).bind λds=>bx (d::ds)else bD g c f xs ρ1
def dZ(ms:List<|Option Nat)(it:Lv)(g:Gv)(c:Bv)(f:Ev):Ev:=λρ=>(it ρ).bind λitems=>if aZ items.length then(bD g c f items<|hW ms ρ).map .lst else cb
def fN:Bv:=λ_=>bx cf
def MK:My.E3 X []<|tDT O fN:=λpins s σ H Q I ⟨H0,A0,A,E,ρ,b,st,e,q⟩=>My.QX pins s σ H Q I<|by cases e;exact q H<|Ext.refl _ _
def LH(h:uT X O c g):My.E3 X [c]<|tDT O g:=My.TY h
section
variable {X:Cx}{O:List Nat}
def GOk(Oi:List Nat)(g:Gv)(G:TG):Prop:=∀ {H0:Hp} {A0 A:Av} {E:List Fact} {σ:L2.St} {H:Hp} {ρ ρ':cA} {x:V} {d:D} {Q:L2.St->Hp->Prop},ST H0 A0 A E Oi σ H ρ->Rep A H d x->g d ρ=bx ρ'->(∀q,ST H0 A0 A E Oi q H ρ'->(∀j∈Oi,q[j]?=σ[j]?/\ρ'[j]?=ρ[j]?)->Q q H)->G x σ H Q
def AM(ay:dF X scope N ms)(bh:∀ {H0:Hp} {A0 A:Av} {E:List Fact} {σ:L2.St} {H:Hp} {ρ:cA},ST H0 A0 A E O σ H ρ->ST H0 A0 A E Oi (hW ms σ) H (hW ms ρ))(hG:GOk Oi g G)(σ:L2.St)(H:Hp)(Q:VK) :
  tF O (dZ ms it g c f) σ H Q->My.BY (tDI O it) G (tDT Oi c) (tD Rep Oi f) (My.Start X N scope) σ H Q:=λ⟨H0,A0,A,E,ρ,d,st,e,q⟩=>by
 obtain⟨items,e1,e⟩:=bind_some e;by_cases hz:aZ items.length=cf
 case neg=>rw[cq hz]at e;cases e
 rw[ck hz]at e;obtain⟨ds,e2,rfl⟩:=map_some e;refine⟨hW ms σ,LP ay σ,H0,A0,A,E,ρ,items,st,e1,λJ H1 E1 x1 a2 J1 D hD=>?_⟩;have s1:=bh<|(st.mono x1).both a2;have nA:¬ A D:=λz=>s1.live D z hD
 have n0:H D=cb:=x1.free hD
 -- the state of the block: the list that grows stands outside all that is borne
 refine⟨λi m aj us H2=>m=items.length-i/\i<=items.length/\∃ae done rest,ST H0 A0 (λb=>A b\/b=D) (E1++E) Oi aj H2 ae/\H2 D=bx (.lst us)/\Ext A H H2/\RepL (λb=>A b\/b=D) H2 done us/\bD g c f (items.drop i) ae=bx rest/\done++rest=ds/\done.length<=i/\∀j∈Oi,∀d a,ae[j]?=bx (bx d)->aj[j]?=bx (bx<|.ref a)->a≠D,⟨items.length,by simp,zaM _,hW ms ρ,[],ds,?_,aI,x1.trans<|Ext.new hD,.nil,e2,rfl,zaj _,λj Y d a h1 h2 z=>?_⟩,?_⟩
 .have up:∀a,(A a\/a=D)->A a\/H1 a=cb:=λa F=>F.imp id λz=>by rw[z];exact hD
  refine⟨s1.ex.trans<|Ext.new hD,λa F=>.inl<|s1.sub a F,s1.l0,λa F=>?_,s1.len,λi d h n=>?_,λi d h n=>?_,s1.inj,λp hp=>Fact.ext (Ext.new hD)<|Fact.av up<|s1.ext p hp⟩
  .rcases F with F|F
   .rw[aG λz=>by subst z;exact nA F];exact s1.live a F
   .subst F;rw[aI];exact λz=>nomatch z
  .obtain⟨v,h1,h2⟩:=s1.val i d h n
   exact⟨v,h1,(h2.av up).ext (Ext.new hD)⟩
  .obtain⟨a,h1,h2,h3,h4⟩:=s1.own i d h n
   exact⟨a,h1,.inl h2,h3,(h4.av up).ext (Ext.new hD) (.inl h2)⟩
 .obtain⟨a',g1,g2,_⟩:=s1.own j d h1 Y
  rw[h2]at g1;cases g1;exact nA<|z ▸ g2
 .rintro i m aj us H2 ⟨rfl,bu,ae,done,rest,s2,al,x2,ag,U,ed,bc,bd⟩
  obtain⟨ap,go⟩:=J1 _ H2 s2.live (λp hp=>s2.ext p<|zbq _ hp) i;by_cases ac:i<items.length
  .have eg:items[i]?=bx items[i]:=by simp[ac]
   obtain⟨ba,hy⟩:=go _ eg;rw[zdX ac]at U;obtain⟨ab,e3,U⟩:=bind_some U;obtain⟨b,e4,U⟩:=bind_some U;have ar:us.length<zai:=by
    rw[ag.length];exact zdK bc<|zaY ac<|iR hz
   refine .inr ⟨ba,ar,λx H3 y=>?_⟩;obtain⟨x3,r3⟩:=hy x H3 y;refine hG (s2.mono x3) r3 e3 λbb s3 same=>⟨H0,A0,_,E1++E,ab,b,s3,e4,λH5 x5=>?_⟩
   have ad:∀j∈Oi,∀d a,ab[j]?=bx (bx d)->bb[j]?=bx (bx<|.ref a)->a≠D:=λj Y d a h1 h2=>bd j Y d a (by rw[<- (same j Y).2,h1])<|by rw[<- (same j Y).1,h2]
   have af:=x3.trans x5;have as:H5 D=bx (.lst us):=af.ow D _ (.inr rfl) al;have ao:Ext A H H5:=x2.trans<|af.mono λa F=>.inl F;cases b with
   |false=>
    rw[cq zaB]at U;exact qbY ⟨as,items.length-(i+1),by lia,rfl,ac,ab,done,rest,s3.mono x5,as,ao,ag.ext af,U,ed,by lia,ad⟩
   |true=>
    rw[ck rfl]at U;refine qb8 ?_;obtain⟨d,e6,U⟩:=bind_some U;obtain⟨ak,e7,U⟩:=bind_some U;cases U;refine⟨H0,A0,_,E1++E,ab,d,s3.mono x5,e6,λv H6 x6 r6=>?_⟩;have aq:=af.trans x6;have W:H6 D=bx (.lst us):=aq.ow D _ (.inr rfl) al;have s6:=s3.mono<|x5.trans x6;refine⟨W,items.length-(i+1),by lia,rfl,ac,ab,done++[d],ak,⟨s6.ex.upN<|st.ex.free n0,s6.sub,s6.l0,λa F=>?_,s6.len,λi d h n=>?_,λi d h n=>?_,s6.inj,λp hp=>Fact.put (.inr rfl) W trivial (s6.ext p hp)⟩,aI,(ao.trans<|x6.mono λa F=>.inl F).upN n0,((ag.ext aq).append<|.cons r6 .nil).put (.inr rfl) W trivial,e7,by rw[<- ed];simp,by rw[zbk];show done.length+1<=i+1;lia,ad⟩
    .by_cases z:a=D
     .subst z;rw[aI];exact λz=>nomatch z
     .rw[aG z];exact s6.live a F
    .obtain⟨v,h1,h2⟩:=s6.val i d h n
     exact⟨v,h1,h2.put (.inr rfl) W trivial⟩
    .obtain⟨a,h1,h2,h3,h4⟩:=s6.own i d h n
     exact⟨a,h1,h2,h3,h4.put (.inr rfl) W trivial (ad i n d a h h1)⟩
  .have bg:i=items.length:=by lia
   subst bg;rw[zeG]at U;cases U;rw[zbi]at ed;subst ed;exact .inl ⟨ap<|zaj _,q D H2 x2 n0 nA<|.lst al ag⟩
def sF(G:dF X scope N ms)(J:(ms.all λo=>match o with|some i=>!O.contains i|none=>cf)=cf)(σ:L2.St)(H:Hp)(Q:VK) :
  tF O (dZ ms it g c f) σ H Q->My.BY (tDI O it) (tDG [] g) (tDT [] c) (tD Rep [] f) (My.Start X N scope) σ H Q:=
 AM G (λs=>s.inner ms λi hi z=>by
  have:=List.all_eq_true.mp J _ hi;simp only[Bool.not_eq_true']at this;have U:O.contains i=cf:=by simpa using z
  rw[U]at this;cases this) (λs r e q=>⟨_,_,_,_,_,_,_,s,r,e,λF W=>q F W λj h=>nomatch h⟩) σ H Q
def R5
  (W:X.calm=cf) (U:My.Clo X N scope cl) (q:dF X scope N ms) (F:(ms.all λo=>match o with|some i=>!O.contains i|none=>cf)=cf) (hi:PDI X O tg iter it) (J:∀C s H fp,B7 (My.aX X N scope cl C s H fp) [] tg g)
  (z:∀C s H fp,My.E3 (My.aX X N scope cl C s H fp) ifs<|tDT [] c) (G:∀C s H fp,PD (My.aX X N scope cl C s H fp) [] elt f) (hs:∀x,zbc iter X.env x=pure x:=by intro _;rfl) :
  PF X O (.ListComp elt [⟨tg,iter,ifs,0⟩] scope pos) (dZ ms it g c f):=PE.mono (My.FM W U hi J z G hs)<|sF q F
def aH(n:Nat)(ds:List D):cA:=ds.map bx++zb0 (n-ds.length) cb
def bE(n:Nat)(f:Sv)(ds:List D):Option D:=(f<|aH n ds).bind λo=>match o with
 |.rt d=>bx d
 |.nx _=>bx .non
 |_=>cb
def ST.begun(q:Live A H)(r:RepL A H ds vs):ST H A A [] [] (L2.start N vs) H (aH N.length ds) where
 ex:=Ext.refl _ _
 sub:=λ_ h=>h
 l0:=q
 live:=q
 len:=by unfold L2.start aH;simp[r.length]
 val:=λi d h _=>by
  unfold aH at h;by_cases hi:i<ds.length
  .rw[zen (by simpa using hi),zaD]at h
   obtain⟨d',z,F⟩:=map_some h;cases F;obtain⟨v,G,r3⟩:=r.get' z;refine⟨v,?_,r3⟩;unfold L2.start;rw[zen (by rw[zak,r.length];exact hi),zaD,G];rfl
  .rw[zdB (by simpa using hi),List.getElem?_replicate]at h
   split at h <;> cases h
 own:=λi d _ h=>nomatch h
 inj:=λi j d d' a hi=>nomatch hi
 ext:=λp J=>nomatch J
def uJ{P:zah}{w:World}{K:zae}{mg:Str->Option Value}{base:Heap}{x:Str}{st:Stmt}{N ps:List Str}{k:Nat}{f:Sv}{O':List Nat}(Df:My.DefAt K mg x st ps)(S:FnScope N ps<|aF st)
  (h:∀(F:Addr) (z:Value) (A:zal) (outer:List Env) (s:zab) (H:Hp) (E:XK),Room k (A.deeper<|zaH x (aF st) s.heap.objs.size F z)->∃g,PSDs (dC uS P w K mg base N x (aF st) F z A outer s H E).nox ⟨[],[]⟩ [] (bF st) g O'/\g=f) :
  Fn P w K mg base x (k+1) ps (bE N.length f):=by
 refine My.BodyOk.ok (λF z A outer s H vs Q E hr hsp=>?_) Df S (λvs H Q E hsp=>by obtain⟨A,ds,d,_,_,e,_⟩:=hsp;exact e);obtain⟨J,ds,d,lv,r,e,W,q⟩:=hsp;obtain⟨o,eo,G⟩:=bind_some W;obtain⟨g,hg,rfl⟩:=h F z A outer s H E hr;refine⟨_,hg,H,J,J,[],_,o,ST.begun lv r,eo,?_⟩;cases o with
 |nx ρ=>cases G;exact λA2 U H2 s2=>q .non H2 s2.ex .non
 |rt d'=>cases G;exact λv H2 Y r2=>q v H2 Y r2
 |bk _=>cases G
 |ct _=>cases G
def ON(K:zae):Bool:=K.all λp=>match p.2.cls with
 |.type "list" => ci
 |_=>cf
def JN{K:zae}(h:ON K=cf){a:Addr}{o:Obj}(e:K.lookup a=bx o):o.cls≠.type "list" := λz=>by
 have m:∀ {K:zae},K.lookup a=bx o->(a,o)∈K:=by
  intro K;induction K with
  |nil=>intro e;cases e
  |cons p r ih=>
   intro e;rw[zbI]at e;by_cases q:(a == p.1)=cf
   .rw[q]at e;cases e;rw[show a=p.1 by simpa using q];exact zar ..
   .rw[zdY]at q;rw[q]at e;exact zaq _<|ih e
 have:=List.all_eq_true.mp h _<|m e;dsimp only at this;rw[z]at this;exact absurd this<|by decide
def WX{P:zah}{w:World}{K:zae}{mg:Str->Option Value}{base:Heap}{st:Stmt}{N:List Str}{k:Nat}{f:Sv}{O':List Nat}(hK:ON K=cf)
  (h:∀(J:Addr) (F:Value) (A:zal) (outer:List Env) (s:zab) (H:Hp) (E:XK),Room k (A.deeper<|zaH "law" (aF st) s.heap.objs.size J F)->∃g,PSDs (dC uS P w K mg base N "law" (aF st) J F A outer s H E).nox ⟨[],[]⟩ [] (bF st) g O'/\g=f)
  (hv:∀ns:List Int,ns.length<=63->bE N.length f [.lst<|ns.map .int]=bx (.bl cf)):My.BodyOk P w K mg base "law" st N k<|My.BU K:=by
 refine λJ F A outer s H vs Q E hr hsp=>?_
 obtain⟨a,ns,rfl,W,hl,q⟩:=hsp;have Y:Rd H a<|.lst<|ns.map V.int:=by
  rcases W with W|⟨o,_,_,e,c,_⟩
  .exact W
  .exact absurd c<|JN hK e
 have lv:Live (λ_=>False) H:=λa h=>h.elim
 have G:∀ns:List Int,RepL (λ_=>False) H (ns.map .int)<|ns.map V.int:=λns=>by
  induction ns with
  |nil=>exact .nil
  |cons n ns ih=>exact .cons (.int n) ih
 obtain⟨o,eo,U⟩:=bind_some<|hv ns hl;obtain⟨g,hg,rfl⟩:=h J F A outer s H E hr;refine⟨_,hg,H,λ_=>False,λ_=>False,[],_,o,ST.begun lv<|.cons (.lst (λz=>z) Y<|G ns) .nil,eo,?_⟩;cases o with
 |nx ρ=>cases U
 |rt d'=>cases U;exact λv H2 x2 r2=>by cases r2;exact q _
 |bk _=>cases U
 |ct _=>cases U
end
mutual
def i8:D->Option My.Dx
 |.non=>bx .non
 |.bl b=>bx<|.bl b
 |.int i=>bx<|.int i
 |.str x=>bx<|.str x
 |.tup l=>(lV l).map .tup
 |.lst l=>(lV l).map .lst
 |.dK _=>cb
 |.dT _=>cb
 |.ob _ _=>cb
 |.mem _ _=>cb
def lV:List D->Option (List My.Dx)
 |[]=>bx []
 |d::ds=>(i8 d).bind λx=>(lV ds).bind λxs=>bx<|x::xs
end
mutual
theorem qC:∀ {d e:D} {x:My.Dx},i8 d=bx x->i8 e=bx x->d=e
 |.non,e,x,h,k=>by cases h;cases e <;> simp[i8]at k <;> first|rfl|(obtain⟨_,_,z⟩:=k;cases z)
 |.bl b,e,x,h,k=>by cases h;cases e <;> simp[i8]at k <;> first|(rw[k])|(obtain⟨_,_,z⟩:=k;cases z)
 |.int b,e,x,h,k=>by cases h;cases e <;> simp[i8]at k <;> first|(rw[k])|(obtain⟨_,_,z⟩:=k;cases z)
 |.str b,e,x,h,k=>by cases h;cases e <;> simp[i8]at k <;> first|(rw[k])|(obtain⟨_,_,z⟩:=k;cases z)
 |.tup l,e,x,h,k=>by
  rw[i8]at h;obtain⟨xs,h1,rfl⟩:=map_some h;cases e with
  |tup m=>
   rw[i8]at k;obtain⟨ys,k1,k2⟩:=map_some k;cases k2;rw[sH h1 k1]
  |lst m=>rw[i8]at k;obtain⟨ys,k1,k2⟩:=map_some k;cases k2
  |_=>simp[i8]at k
 |.lst l,e,x,h,k=>by
  rw[i8]at h;obtain⟨xs,h1,rfl⟩:=map_some h;cases e with
  |lst m=>
   rw[i8]at k;obtain⟨ys,k1,k2⟩:=map_some k;cases k2;rw[sH h1 k1]
  |tup m=>rw[i8]at k;obtain⟨ys,k1,k2⟩:=map_some k;cases k2
  |_=>simp[i8]at k
 |.dK _,e,x,h,k=>by rw[i8]at h;cases h
 |.dT _,e,x,h,k=>by rw[i8]at h;cases h
 |.ob _ _,e,x,h,k=>by rw[i8]at h;cases h
 |.mem _ _,e,x,h,k=>by rw[i8]at h;cases h
theorem sH:∀ {d e:List D} {x:List My.Dx},lV d=bx x->lV e=bx x->d=e
 |[],e,x,h,k=>by
  rw[lV]at h;cases h;cases e with
  |nil=>rfl
  |cons e es=>
   rw[lV]at k;obtain⟨_,_,k⟩:=bind_some k;obtain⟨_,_,k⟩:=bind_some k;cases k
 |d::ds,e,x,h,k=>by
  rw[lV]at h;obtain⟨y,h1,h⟩:=bind_some h;obtain⟨ys,h2,h⟩:=bind_some h;cases h;cases e with
  |nil=>rw[lV]at k;cases k
  |cons e es=>
   rw[lV]at k;obtain⟨z,k1,k⟩:=bind_some k;obtain⟨zs,k2,k⟩:=bind_some k;cases k;rw[qC h1 k1,sH h2 k2]
end
mutual
theorem yJ{K:zae}{A:Av}{H:Hp}:∀ {d:D} {x:My.Dx} {v:V},i8 d=bx x->Rep A H d v->My.Rep K H x v
 |.non,x,v,h,r=>by cases h;cases r;rw[My.Rep]
 |.bl b,x,v,h,r=>by cases h;cases r;rw[My.Rep]
 |.int b,x,v,h,r=>by cases h;cases r;rw[My.Rep]
 |.str b,x,v,h,r=>by cases h;cases r;rw[My.Rep]
 |.tup l,x,v,h,r=>by
  rw[i8]at h;obtain⟨xs,h1,rfl⟩:=map_some h;cases r with
  |tup hh rl=>rw[My.Rep];exact⟨_,_,rfl,.inl<|.inl hh,mQ h1 rl⟩
 |.lst l,x,v,h,r=>by
  rw[i8]at h;obtain⟨xs,h1,rfl⟩:=map_some h;cases r with
  |lst n hh rl=>rw[My.Rep];exact⟨_,_,rfl,.inl hh,mQ h1 rl⟩
 |.dK _,x,v,h,r=>by rw[i8]at h;cases h
 |.dT _,x,v,h,r=>by rw[i8]at h;cases h
theorem mQ{K:zae}{A:Av}{H:Hp}:∀ {d:List D} {x:List My.Dx} {v:List V},lV d=bx x->RepL A H d v->My.RepL K H x v
 |[],x,v,h,r=>by rw[lV]at h;cases h;cases r;rw[My.RepL]
 |d::ds,x,v,h,r=>by
  rw[lV]at h;obtain⟨y,h1,h⟩:=bind_some h;obtain⟨ys,h2,h⟩:=bind_some h;cases h;cases r with
  |cons r rs=>rw[My.RepL];exact⟨_,_,rfl,yJ h1 r,mQ h2 rs⟩
end
def jQ{K:zae}{A:Av}{H:Hp}{d:D}{x:My.Dx}{v:V}(h:i8 d=bx x)(r:RepB A H d v):My.Rep K H x v:=by
 cases r with
 |of r=>exact yJ h r
 |lst hh rl=>
  rw[i8]at h;obtain⟨xs,h1,rfl⟩:=map_some h;rw[My.Rep];exact⟨_,_,rfl,.inl hh,mQ h1 rl⟩
 |dK=>rw[i8]at h;cases h
 |dT=>rw[i8]at h;cases h
def i5(d:D):Bool:=match i8 d with
 |some x=>x.nb && decide (x.dep<=60)
 |none=>ci
def ZZ:D->Bool
 |.tup _=>cf | .lst _=>cf|_=>ci
def U9:D->D->Bool
 |.non,.non=>cf | .non,.int _=>cf | .int _,.non=>cf | .non,.bl _=>cf | .bl _,.non=>cf | .non,.str _=>cf | .str _,.non=>cf
 |.int _,.int _=>cf | .bl _,.bl _=>cf | .str _,.str _=>cf
 |.int _,.str _=>cf | .str _,.int _=>cf | .bl _,.str _=>cf | .str _,.bl _=>cf
 |_,_=>ci
open Classical in
def IG(d e:D):Option Bool:=if U9 d e=cf\/(ZZ d=cf/\ZZ e=cf/\i5 d=cf/\i5 e=cf)then bx (decide (d=e))else cb
def kI(d e:D):Option D:=(IG d e).map .bl
def wX(d e:D):Option D:=(IG d e).map λb=>.bl<|!b
def PV(h:U9 d e=cf)(r:RepB A H d v)(s:RepB A H e w):ZY v w=cf/\(v=w↔d=e):=by
 cases d with
 |non=>have:=r.non_inv;subst this;cases e <;> first|exact ff h|(have:=s.non_inv;subst this;exact⟨rfl,by simp⟩)|(have:=s.int_inv;subst this;exact⟨rfl,by simp⟩)|(have:=s.bl_inv;subst this;exact⟨rfl,by simp⟩)|(have:=s.str_inv;subst this;exact⟨rfl,by simp⟩)
 |int i=>have:=r.int_inv;subst this;cases e <;> first|exact ff h|(have:=s.non_inv;subst this;exact⟨rfl,by simp⟩)|(have:=s.int_inv;subst this;exact⟨rfl,by simp⟩)|(have:=s.bl_inv;subst this;exact⟨rfl,by simp⟩)|(have:=s.str_inv;subst this;exact⟨rfl,by simp⟩)
 |bl b=>have:=r.bl_inv;subst this;cases e <;> first|exact ff h|(have:=s.non_inv;subst this;exact⟨rfl,by simp⟩)|(have:=s.int_inv;subst this;exact⟨rfl,by simp⟩)|(have:=s.bl_inv;subst this;exact⟨rfl,by simp⟩)|(have:=s.str_inv;subst this;exact⟨rfl,by simp⟩)
 |str x=>have:=r.str_inv;subst this;cases e <;> first|exact ff h|(have:=s.non_inv;subst this;exact⟨rfl,by simp⟩)|(have:=s.int_inv;subst this;exact⟨rfl,by simp⟩)|(have:=s.bl_inv;subst this;exact⟨rfl,by simp⟩)|(have:=s.str_inv;subst this;exact⟨rfl,by simp⟩)
 |_=>exact ff h
section
variable {X:Cx}{O:List Nat}
def OpR.orM(h:OpR X f r)(h':OpR X f r')(x:∀a b H Q,r2 a b H Q->r a b H Q\/r' a b H Q):OpR X f r2:=OpR.mono (OpR.or h h') x
def n9(h:i5 d=cf):∃x,i8 d=bx x/\x.nb=cf/\x.dep<=60:=by
 unfold i5 at h;cases e:i8 d with
 |none=>rw[e]at h;cases h
 |some x=>rw[e]at h;simp only[zaV,decide_eq_true_eq]at h;exact⟨x,rfl,h.1,h.2⟩
def HW(h:ZZ d=cf)(e:i8 d=bx x):x.seq=cf:=by
 cases d with
 |tup l=>rw[i8]at e;obtain⟨xs,_,rfl⟩:=map_some e;rfl
 |lst l=>rw[i8]at e;obtain⟨xs,_,rfl⟩:=map_some e;rfl
 |_=>exact ff h
set_option tactic.hygienic true in
def qap(hu:X.A.units+64<cLine):kT X (zaC .Eq) kI:=OpR.orM qaG (My.ZD hu) <| by
 rintro x y H Q ⟨A,dx,dy,d,lv,W,Y,e,q⟩;obtain⟨b,G,rfl⟩:=map_some e;unfold IG at G;split at G
 case isFalse=>cases G
 rename_i hc;cases G;rcases hc with hs|⟨s1,s2,k1,k2⟩
 .left
  obtain⟨h1,h2⟩:=PV hs W Y;refine⟨h1,?_⟩;have:decide (x=y)=@decide (dx=dy) (zch _):=decide_eq_decide.mpr h2;rw[this];exact q _ H (Ext.refl _ _)<|.bl _
 .right
  obtain⟨U,J,a2,a3⟩:=n9 k1;obtain⟨N,F,b2,b3⟩:=n9 k2;refine⟨U,N,jQ J W,jQ F Y,HW s1 J,HW s2 F,a2,b2,a3,?_⟩;have:@decide (U=N) (zch _)=@decide (dx=dy) (zch _):=decide_eq_decide.mpr ⟨λz=>qC J<|z ▸ F,λz=>by subst z;rw[J]at F;exact zay F⟩;show Q (.bl<|@decide (U=N) (zch _)) H;rw[this];exact q _ H (Ext.refl _ _)<|.bl _
set_option tactic.hygienic true in
def qaa(hu:X.A.units+64<cLine):kT X (zaC .NotEq) wX:=OpR.orM qu (My.WN hu) <| by
 rintro x y H Q ⟨A,dx,dy,d,lv,W,Y,e,q⟩;obtain⟨b,G,rfl⟩:=map_some e;unfold IG at G;split at G
 case isFalse=>cases G
 rename_i hc;cases G;rcases hc with hs|⟨s1,s2,k1,k2⟩
 .left
  obtain⟨h1,h2⟩:=PV hs W Y;refine⟨h1,?_⟩;have:decide (x=y)=@decide (dx=dy) (zch _):=decide_eq_decide.mpr h2;rw[this];exact q _ H (Ext.refl _ _)<|.bl _
 .right
  obtain⟨U,J,a2,a3⟩:=n9 k1;obtain⟨N,F,b2,b3⟩:=n9 k2;refine⟨U,N,jQ J W,jQ F Y,HW s1 J,HW s2 F,a2,b2,a3,?_⟩;have:@decide (U=N) (zch _)=@decide (dx=dy) (zch _):=decide_eq_decide.mpr ⟨λz=>qC J<|z ▸ F,λz=>by subst z;rw[J]at F;exact zay F⟩;show Q (.bl<|!@decide (U=N) (zch _)) H;rw[this];exact q _ H (Ext.refl _ _)<|.bl _
def gK:D->Bool
 |.non=>cf|_=>ci
def ZX(d e:D):Option D:=if gK e then bx (.bl<|gK d)else cb
def ID(d e:D):Option D:=if gK e then bx (.bl<|!gK d)else cb
def F9(r:RepB A H d v):decide (v=.non)=gK d:=by
 cases d with
 |non=>have:=r.non_inv;subst this;rfl
 |bl b=>have:=r.bl_inv;subst this;rfl
 |int b=>have:=r.int_inv;subst this;rfl
 |str b=>have:=r.str_inv;subst this;rfl
 |tup l=>obtain⟨_,_,rfl,_⟩:=r.tup_inv;rfl
 |lst l=>obtain⟨_,_,rfl,_⟩:=r.lst_inv;rfl
 |dK l=>obtain⟨_,_,rfl,_⟩:=r.dK_inv;rfl
 |dT l=>obtain⟨_,_,rfl,_⟩:=r.dT_inv;rfl
 |ob C l=>obtain⟨_,_,_,rfl,_⟩:=r.ob_inv;rfl
 |mem d f=>obtain⟨_,rfl,_⟩:=r.mem_inv;rfl
def XX:kT X (zaC .Is) ZX:=OpR.mono WJ <| by
 rintro x y H Q ⟨A,dx,G,d,J,z,F,e,q⟩;unfold ZX at e;cases G with
 |non=>cases e;have:=F.non_inv;subst this;exact⟨rfl,by rw[F9 z];exact q _ H (Ext.refl _ _)<|.bl _⟩
 |_=>exact nn e
def UO:kT X (zaC .IsNot) ID:=OpR.mono QQ <| by
 rintro x y H Q ⟨A,dx,G,d,J,z,F,e,q⟩;unfold ID at e;cases G with
 |non=>cases e;have:=F.non_inv;subst this;exact⟨rfl,by rw[F9 z];exact q _ H (Ext.refl _ _)<|.bl _⟩
 |_=>exact nn e
def Inv.lstR(I:Inv X pins σ H s)(z:Rd H l<|.lst xs):xs.length<=zai/\∃(q:List Value) (n:Nat),Vals xs q/\xs.length=q.length/\s.heap.get? l=bx {cls:=.type "list",data:=.seq q.toArray n}:=by
 obtain⟨F,q,n,r,e⟩:=(show ObjOk X.prog X.w H s.heap l (.lst xs)from z.ok I.hok);exact⟨F,q,n,r,r.length,e⟩
def qaN:R2:=λx y H Q=>∃l b xs zs,x=.ref l/\y=.ref b/\Rd H l (.lst xs)/\Rd H b (.lst zs)/\xs.length+zs.length<=zai/\∀p,H p=cb->Q (.ref p) (upd H p<|.lst<|xs++zs)
def G6:OpR X (zaQ .Add) qaN:=by
 intro pins s σ H x y v u Q I N U h;obtain⟨l,b,xs,zs,rfl,rfl,Y,hB,hz,q⟩:=h;cases N;cases U;obtain⟨z,G,n,r,hl,e⟩:=Inv.lstR I Y;obtain⟨z2,F,n2,r2,J,W⟩:=Inv.lstR I hB;refine PySem.P.add_list e W ?_ (by rw[zaw,zaw];lia);have ea:G.toArray++F.toArray=(G++F).toArray:=by simp
 rw[ea];exact⟨.ref _,_,I.lnew (t':=s.toks) (r.append r2) (by rw[zbk];lia),rfl,q _ I.fresh⟩
end
section
variable {X:Cx}{O:List Nat}
def RepL.nil_iff(r:RepL A H ds vs):vs=[]↔ds=[]:=by cases r <;> simp
def wU:D->D->Option D
 |.int i,.int j=>bx<|.int<|i+j
 |.str i,.str j=>if aZ (i.length+j.length)then bx (.str<|i++j)else cb
 |.lst l,.lst m=>if aZ (l.length+m.length)then bx (.lst<|l++m)else cb
 |.tup (a::l),.tup m=>if aZ (l.length+1+m.length)then bx (.tup<|a::l++m)else cb
 |_,_=>cb
def ZE:kT X (zaQ .Add) wU:=OpR.mono (OpR.or (OpR.or XT CG)<|OpR.or G6 S8) <| by
 rintro x y H Q ⟨A,dx,J,d,W,N,U,e,q⟩;cases dx with
 |int i=>
  cases J with
  |int j=>cases e;have:=N.int_inv;subst this;have:=U.int_inv;subst this;exact .inl<|.inl ⟨i,j,rfl,rfl,q _ H (Ext.refl _ _)<|.int _⟩
  |_=>exact nn e
 |str i=>
  cases J with
  |str j=>
   simp only[wU]at e;by_cases F:aZ (i.length+j.length)=cf
   .rw[ck F]at e;cases e;have:=N.str_inv;subst this;have:=U.str_inv;subst this
    exact .inl<|.inr ⟨i,j,rfl,rfl,iR F,q _ H (Ext.refl _ _)<|.str _⟩
   .rw[cq F]at e;cases e
  |_=>exact nn e
 |lst l=>
  cases J with
  |lst m=>
   simp only[wU]at e;by_cases F:aZ (l.length+m.length)=cf
   .rw[ck F]at e;cases e
    obtain⟨a,xs,rfl,h1,r1⟩:=N.lst_inv;obtain⟨b,ys,rfl,h2,r2⟩:=U.lst_inv;exact .inr<|.inl ⟨a,b,xs,ys,rfl,rfl,h1,h2,by rw[r1.length,r2.length];exact iR F,λp G=>q _ _ (Ext.new G)<|.lst (λz=>W p z G) (.inl aI)<|(r1.append r2).ext (Ext.new G)⟩
   .rw[cq F]at e;cases e
  |_=>exact nn e
 |tup l=>
  cases l with
  |nil=>cases J <;> exact nn e
  |cons a0 l=>
   cases J with
   |tup m=>
    simp only[wU]at e;by_cases F:aZ (l.length+1+m.length)=cf
    .rw[ck F]at e;cases e
     obtain⟨a,xs,rfl,h1,r1⟩:=N.tup_inv;obtain⟨b,ys,rfl,h2,r2⟩:=U.tup_inv;refine .inr<|.inr ⟨a,b,xs,ys,rfl,rfl,.inl<|.inl h1,.inl<|.inl h2,λz=>(by have:=r1.nil_iff.mp z;cases this),by rw[r1.length,r2.length];exact iR F,λz=>?_,λ_ p G=>q _ _ (Ext.new G)<|.tup aI<|(r1.append r2).ext (Ext.new G)⟩;refine q _ H (Ext.refl _ _)<|.tup h1 ?_;have:=r2.nil_iff.mp z;subst this;rw[zbi];exact r1
    .rw[cq F]at e;cases e
   |_=>exact nn e
 |_=>exact nn e
def iX:List D->Option (List Int)
 |[]=>bx []
 |.int i::ds=>(iX ds).map (i::·)
 |_=>cb
theorem fS:∀ {ds:List D} {ns:List Int} {vs:List V},iX ds=bx ns->RepL A H ds vs->vs=ns.map V.int
 |[],ns,vs,h,r=>by cases h;cases r;rfl
 |.int i::ds,ns,vs,h,r=>by
  obtain⟨ms,h1,rfl⟩:=map_some h;cases r with
  |cons r rs=>cases r;rw[fS h1 rs];rfl
def dLt:D->D->Option D
 |.int i,.int j=>bx<|.bl<|decide (i<j)
 |.tup l,.tup m=>(iX l).bind λns=>(iX m).map λms=>.bl<|HT.lexLt ns ms
 |_,_=>cb
def YM(U:X.A.units<cLine):kT X (zaC .Lt) dLt:=OpR.mono (OpR.or qan<|Y9 U) <| by
 rintro x y H Q ⟨A,dx,G,d,W,z,F,e,q⟩;cases dx with
 |int i=>
  cases G with
  |int j=>cases e;have:=z.int_inv;subst this;have:=F.int_inv;subst this;exact .inl ⟨i,j,rfl,rfl,q _ H (Ext.refl _ _)<|.bl _⟩
  |_=>exact nn e
 |tup l=>
  cases G with
  |tup m=>
   obtain⟨ns,J,e⟩:=bind_some e;obtain⟨ms,N,rfl⟩:=map_some e;obtain⟨a,xs,rfl,h1,r1⟩:=z.tup_inv;obtain⟨b,ys,rfl,h2,r2⟩:=F.tup_inv;have:=fS J r1;subst this;have:=fS N r2;subst this;exact .inr ⟨a,b,ns,ms,rfl,rfl,.inl<|.inl h1,.inl<|.inl h2,q _ H (Ext.refl _ _)<|.bl _⟩
  |_=>exact nn e
 |_=>exact nn e
open Classical in
def UV(x y:D):Option Bool:=match y with
 |.dK _=>(nJ y x).map (·.isSome)
 |.dT _=>(nJ y x).map (·.isSome)
 |.lst l=>if i5 x=cf/\l.all i5=cf then bx (l.any λd=>decide (d=x))else cb
 |.tup l=>if i5 x=cf/\l.all i5=cf then bx (l.any λd=>decide (d=x))else cb
 |_=>cb
def yO(x y:D):Option D:=(UV x y).map λb=>.bl<|!b
open Classical in
def zW(I:Inv X pins σ H s)(hu:Ar.units+60<cLine)(kx:i5 x=cf)(rx:RepB A H x v)(ru:RelV v u)(kl:l.all i5=cf)(rl:RepL A H l xs)(rv:Vals xs F) :
  ∃f:Value->Bool,(∀y∈F,SeqAt.EqAt Ar s y u<|f y)/\F.any f=l.any λd=>decide (d=x):=by
 obtain⟨G,J,a2,a3⟩:=n9 kx;have U:My.Rep X.K H G v:=jQ J rx;let g:Value->Bool:=λy=>decide (∃w z,RelV w y/\My.Rep X.K H z w/\z=G)
 have one:∀ {d:D} {w:V} {y:Value},i5 d=cf->Rep A H d w->RelV w y->g y=decide (d=x)/\SeqAt.EqAt Ar s y u (g y):=by
  intro d w y kd rd Y;obtain⟨z,b1,b2,b3⟩:=n9 kd;have N:My.Rep X.K H z w:=yJ b1 rd;have e:g y=decide (z=G):=by
   refine decide_eq_decide.mpr ⟨λ⟨w',z',q1,q2,q3⟩=>?_,λe=>⟨w,z,Y,N,e⟩⟩;have:=RelV.inj Y q1;subst this;rw[My.Rep.inj I _ _ _ N q2,q3]
  have W:decide (z=G)=decide (d=x):=decide_eq_decide.mpr ⟨λq=>qC b1<|q ▸ J,λq=>by subst q;rw[b1]at J;exact zay J⟩;refine⟨e.trans W,?_⟩;rw[e];exact My.xT I 60 Ar z G w v y u b3 hu b2 a2 N U Y ru
 refine⟨g,?_,?_⟩
 .intro y hy
  obtain⟨j,hj⟩:=List.mem_iff_getElem?.mp hy;have ag:=rv.length;have au:j<F.length:=(List.getElem?_eq_some_iff.mp hj).1;have hx:xs[j]?=bx (xs[j]'(by lia)):=za0 (by lia);obtain⟨u',e1,r1⟩:=rv.get hx;rw[hj]at e1;cases e1;obtain⟨d,W,r2⟩:=rl.get hx;exact(one (List.all_eq_true.mp kl _<|zax W) r2 r1).2
 .have all:∀(l:List D) (xs:List V) (F:List Value),l.all i5=cf->RepL A H l xs->Vals xs F->F.any g=l.any λd=>decide (d=x):=by
   intro l;induction l with
   |nil=>intro xs F _ r v;cases r;cases v;rfl
   |cons d l ih=>
    intro xs F k r v;cases r with
    |cons h t=>
     cases v with
     |cons r rs=>
      rw[List.all_cons,zaV]at k;rw[zcf,zcf,(one k.1 h r).1,ih _ _ k.2 t rs]
  exact all l xs F kl rl rv
set_option tactic.hygienic true in
def MF(hu:X.A.units+64<cLine):kT X (zaC .NotIn) yO:=by
 intro pins s σ H x y v u Q I N Y h;obtain⟨A,dx,dy,d,lv,G,U,e,q⟩:=h;obtain⟨b,z,rfl⟩:=map_some e;have fin:∀k,k=(!b)->EP X pins σ Q (.bool k) s:=λk hk=>⟨.bl<|!b,H,I,by rw[hk];rfl,q _ H (Ext.refl _ _)<|.bl _⟩
 have J:X.A.units+1<cLine:=by lia
 have dict:∀o,nJ dy dx=bx o->o.isSome=b->wpAny (model X.prog X.w) X.A (zaC .NotIn v u) (EP X pins σ Q) X.xe s:=λo F ob=>by
  obtain⟨a,ov,rfl,_,g,e3⟩:=tR F U G;cases Y;refine RN J I g N λs' I'=>⟨.bl<|!b,H,I',?_,q _ H (Ext.refl _ _)<|.bl _⟩
  have:ov.isSome=b:=by rw[<- ob];rcases e3 with⟨rfl,rfl⟩|⟨_,_,rfl,rfl,_⟩ <;> rfl
  rw[this];rfl
 cases dy with
 |dK l=>obtain⟨o,F,ob⟩:=map_some z;exact dict o F ob
 |dT l=>obtain⟨o,F,ob⟩:=map_some z;exact dict o F ob
 |lst l=>
  simp only[UV]at z;split at z
  case isFalse=>cases z
  rename_i hc;cases z;obtain⟨a,xs,rfl,h1,r1⟩:=U.lst_inv;cases Y;obtain⟨W,r,pl,hz⟩:=I.list<|.inl h1;obtain⟨f,f1,f2⟩:=zW (Ar:=X.A.in1) I (by show X.A.units+1+60<cLine;lia) hc.1 G N hc.2 r1 r;refine SeqAt.notIn_listAt f (My.PlainL.isList pl) (λw hw=>f1 w<|by simpa using hw)<|fin _ ?_;rw[<- f2];simp
 |tup l=>
  simp only[UV]at z;split at z
  case isFalse=>cases z
  rename_i hc;cases z;obtain⟨a,xs,rfl,h1,r1⟩:=U.tup_inv;cases Y;obtain⟨W,r,pl,hz⟩:=I.tuple<|.inl<|.inl h1;obtain⟨f,f1,f2⟩:=zW (Ar:=X.A.in1) I (by show X.A.units+1+60<cLine;lia) hc.1 G N hc.2 r1 r;refine SeqAt.notIn_tupleAt f pl (λw hw=>f1 w<|by simpa using hw)<|fin _ ?_;rw[<- f2];simp
 |_=>cases z
def gB:List D->Option D
 |[.lst l]=>bx<|.int l.length
 |[.tup l]=>bx<|.int l.length
 |[.str z]=>if aZ z.length then bx (.int z.length)else cb
 |[.dK l]=>bx<|.int l.length
 |_=>cb
def YG:jZ X (.builtin "len") gB:=by
 intro pins s σ H xs J Q I r h;obtain⟨A,ds,d,lv,F,e,q⟩:=h
 match ds,F,e with
 |[.lst l],F,e=>
  cases e;obtain⟨v,rfl,h1⟩:=F.one;obtain⟨a,xs,rfl,h2,r2⟩:=h1.lst_inv;exact tK pins s σ H _ J Q I r ⟨_,_,rfl,.inl ⟨xs,.inl h2,rfl⟩,by rw[r2.length];exact q _ H (Ext.refl _ _)<|.int _⟩
 |[.tup l],F,e=>
  cases e;obtain⟨v,rfl,h1⟩:=F.one;obtain⟨a,xs,rfl,h2,r2⟩:=h1.tup_inv;exact tK pins s σ H _ J Q I r ⟨_,_,rfl,.inr ⟨xs,.inl<|.inl h2,rfl⟩,by rw[r2.length];exact q _ H (Ext.refl _ _)<|.int _⟩
 |[.str z],F,e=>
  simp only[gB]at e;by_cases G:aZ z.length=cf
  .rw[ck G]at e;cases e
   obtain⟨v,rfl,h1⟩:=F.one;have:=h1.str_inv;subst this;exact tK pins s σ H _ J Q I r ⟨_,_,rfl,⟨iR G,rfl⟩,q _ H (Ext.refl _ _)<|.int _⟩
  .rw[cq G]at e;cases e
 |[.dK l],F,e=>
  cases e;obtain⟨v,rfl,h1⟩:=F.one;obtain⟨a,xs,rfl,h2,W,r2⟩:=h1.dK_inv;obtain⟨u,rfl,Y⟩:=vals1 r;cases Y;have U:xs.length=l.length:=by have:=congrArg zbt W;simpa using this
  exact qao I h2 λt s' N=>⟨.int xs.length,H,N,⟨t,rfl⟩,by rw[U];exact q _ H (Ext.refl _ _)<|.int _⟩
 |[],_,e=>cases e
 |[.non],_,e=>cases e
 |[.bl _],_,e=>cases e
 |[.int _],_,e=>cases e
 |[.dT _],_,e=>cases e
 |_::_::_,_,e=>simp[gB]at e
def B1:List D->Option D
 |[.int i,.int j]=>bx<|.int<|if j<i then j else i
 |_=>cb
def IB:List D->Option D
 |[.int i,.int j]=>bx<|.int<|if j>i then j else i
 |_=>cb
def AG{ds:List D}{g:Int->Int->D}(h:(match ds with|[.int i,.int j]=>bx (g i j)|_=>cb)=bx d):∃i j,ds=[.int i,.int j]/\d=g i j:=by
 split at h
 .cases h;exact⟨_,_,rfl,rfl⟩
 .cases h
def T4(z:X.calm=cf):jZ X (.builtin "min") B1:=CallR.mono (JL z) <| by
 rintro xs H Q ⟨A,ds,d,F,r,e,q⟩;obtain⟨i,j,rfl,rfl⟩:=AG (g:=λi j=>.int<|if j<i then j else i) e;obtain⟨v,w,rfl,h1,h2⟩:=r.two;have:=h1.int_inv;subst this;have:=h2.int_inv;subst this;exact⟨i,j,rfl,q _ H (Ext.refl _ _)<|.int _⟩
def Q0(z:X.calm=cf):jZ X (.builtin "max") IB:=CallR.mono (JJ z) <| by
 rintro xs H Q ⟨A,ds,d,F,r,e,q⟩;obtain⟨i,j,rfl,rfl⟩:=AG (g:=λi j=>.int<|if j>i then j else i) e;obtain⟨v,w,rfl,h1,h2⟩:=r.two;have:=h1.int_inv;subst this;have:=h2.int_inv;subst this;exact⟨i,j,rfl,q _ H (Ext.refl _ _)<|.int _⟩
def jY:List D->Option D
 |[.lst l]=>bx<|.tup l
 |[.tup l]=>bx<|.tup l
 |_=>cb
def HZ:List D->Option D
 |[.lst l]=>bx<|.lst l
 |[.tup l]=>bx<|.lst l
 |_=>cb
def FY{ds:List D}{g:List D->D}(h:(match ds with|[.lst l]=>bx (g l)|[.tup l]=>bx (g l)|_=>cb)=bx d):∃l,(ds=[.lst l]\/ds=[.tup l])/\d=g l:=by
 split at h
 .cases h;exact⟨_,.inl rfl,rfl⟩
 .cases h;exact⟨_,.inr rfl,rfl⟩
 .cases h
def jO:jZ X (.type "tuple") jY:=CallR.mono uW <| by
 rintro xs H Q ⟨A,ds,d,G,r,e,q⟩;obtain⟨l,F,rfl⟩:=FY (g:=.tup) e;rcases F with rfl|rfl
 .obtain⟨v,rfl,h1⟩:=r.one
  obtain⟨a,xs,rfl,h2,r2⟩:=h1.lst_inv;exact⟨a,xs,rfl,.inl ⟨.inl h2,λp z=>q _ _ (Ext.new z)<|.tup aI<|r2.ext<|Ext.new z⟩⟩
 .obtain⟨v,rfl,h1⟩:=r.one
  obtain⟨a,xs,rfl,h2,r2⟩:=h1.tup_inv;exact⟨a,xs,rfl,.inr ⟨.inl<|.inl h2,q _ H (Ext.refl _ _)<|.tup h2 r2⟩⟩
def RC:IE X (.type "list") HZ:=CallR.mono xA <| by
 rintro xs H Q ⟨A,ds,d,G,r,e,q⟩;obtain⟨l,J,rfl⟩:=FY (g:=.lst) e;rcases J with rfl|rfl
 .obtain⟨v,rfl,h1⟩:=r.one
  obtain⟨a,xs,rfl,h2,r2⟩:=h1.lst_inv;exact⟨a,xs,rfl,.inl<|.inl h2,λp F=>q p _ (Ext.new F) F (λz=>G p z F)<|.lst aI<|r2.fresh F⟩
 .obtain⟨v,rfl,h1⟩:=r.one
  obtain⟨a,xs,rfl,h2,r2⟩:=h1.tup_inv;exact⟨a,xs,rfl,.inr<|.inl<|.inl h2,λp F=>q p _ (Ext.new F) F (λz=>G p z F)<|.lst aI<|r2.fresh F⟩
end
section
variable {X:Cx}{O:List Nat}
def tyN:D->String
 |.non => "NoneType" | .bl _ => "bool" | .int _ => "int" | .str _ => "str" | .tup _ => "tuple" | .lst _ => "list" | .dK _ => "dict" | .dT _ => "dict" | .ob _ _ => "" | .mem _ _ => ""
def uO:D->Bool
 |.ob _ _=>ci | .mem _ _=>ci|_=>cf
def qb5(K:zae):List V->Hp->VK->Prop:=λxs H Q=>∃A d x n b,xs=[x,.ty n]/\uO d=cf/\RepB A H d x/\zbp K (.type<|tyN d) (.type n)=bx b/\Q (.bl b) H
def NO:CallR X (.builtin "isinstance")<|qb5 X.K:=by
 intro pins s σ H xs N Q I r h;obtain⟨A,d,x,n,b,rfl,J,F,e,q⟩:=h;have G:∀t,TyOf X.K H x t->t=.type (tyN d)->wpAny (model X.prog X.w) X.A (call (.builtin "isinstance") N) (EP X pins σ Q) X.xe s:=λt Y U=>by
  subst U;exact My.LG pins s σ H _ N Q I r ⟨x,n,_,b,rfl,Y,e,q⟩
 cases d with
 |non=>have:=F.non_inv;subst this;exact G _ .non rfl
 |bl c=>have:=F.bl_inv;subst this;exact G _ (.bl c) rfl
 |int c=>have:=F.int_inv;subst this;exact G _ (.int c) rfl
 |str c=>have:=F.str_inv;subst this;exact G _ (.str c) rfl
 |tup l=>obtain⟨a,xs,rfl,h1,_⟩:=F.tup_inv;exact G _ (.tup h1) rfl
 |lst l=>
  obtain⟨a,xs,rfl,h1,_⟩:=F.lst_inv;rcases h1 with h1|⟨o,h1⟩
  .exact G _ (.lst h1) rfl
  .exact G _ (.frz h1) rfl
 |dK l=>
  obtain⟨a,xs,rfl,h1,_⟩:=F.dK_inv;obtain⟨u,W,rfl,r1,r2⟩:=vals2 r;cases r1;cases r2;obtain⟨_,_,vs,_,p⟩:=(show ObjOk X.prog X.w H s.heap a (.dK xs)from h1.ok I.hok);obtain⟨o,es,ep,h1,h2,_⟩:=p;exact zbh zdz I.kIn ⟨o,h1,h2.1⟩ e (λz=>nomatch z) λtk=>⟨.bl b,H,I.tok tk,rfl,q⟩
 |dT l=>
  obtain⟨a,xs,rfl,h1,_⟩:=F.dT_inv;obtain⟨u,W,rfl,r1,r2⟩:=vals2 r;cases r1;cases r2;obtain⟨_,_,xs,_,o,es,ep,h1,h2,_⟩:=(show ObjOk X.prog X.w H s.heap a (.dT xs)from h1.ok I.hok);exact zbh zdz I.kIn ⟨o,h1,h2.1⟩ e (λz=>nomatch z) λtk=>⟨.bl b,H,I.tok tk,rfl,q⟩
 |ob _ _=>cases J
 |mem _ _=>cases J
def ER(n:String)(d:D):Bool:=match d with
 |.non=>ci
 |.bl _=>n == "bool" || n == "int"
 |.int _=>n == "int"
 |.str _=>n == "str"
 |.tup _=>n == "tuple"
 |.lst _=>n == "list"
 |.dK _=>n == "dict"
 |.dT _=>n == "dict"
 |_=>ci
def Kit(n:String):Prop:=∀(K:zae) (d:D),uO d=cf->zbp K (.type<|tyN d) (.type n)=bx (ER n d)
def T7:Kit "int" := λK d h=>by cases d <;> first|rfl|cases h
def MA:Kit "bool" := λK d h=>by cases d <;> first|rfl|cases h
def kit_tuple:Kit "tuple" := λK d h=>by cases d <;> first|rfl|cases h
def LZ:Kit "list" := λK d h=>by cases d <;> first|rfl|cases h
def K3(n:String)(f:Ev):Ev:=λρ=>(f ρ).bind λd=>if uO d=cf then bx (.bl<|ER n d)else cb
def uA(J:Kit n)(W:Gl X "isinstance")(hm:X.mg "isinstance" = cb)(G:Gl X x)(F:X.mg x=cb)(N:zaL x=bx (.type n))(U:PB X O e f)(z:x ≠ "__name__" := by decide)(hd:(x == ("__debug__" : Str))=ci:=by decide)
  (h1:zaf [e,.Name x p2] X.env=(ci,eval e X.env)::zaf [.Name x p2] X.env:=by rfl) (h2:(zaG pos<|zaf [.Name x p2] X.env).any (·.1)=ci:=by rfl) (h3:zaf [.Name x p2] X.env=(ci,eval (.Name x p2) X.env)::zaf [] X.env:=by rfl) :
  PD X O (.Call (.Name "isinstance" p) [e,.Name x p2] [] pos) (K3 n f):=
 PE.mono (mZ NO W hm My.boot_isinstance (bX U (bX (G7 (v:=.ty n) G F N rfl z hd) eK h3) h1) (by decide) (by decide) h1 h2) <| by
  rintro σ H Q ⟨H0,A0,A,E,ρ,d,st,e,q⟩;obtain⟨x,ex,e⟩:=bind_some e;by_cases z:uO x=cf
  .rw[ck z]at e
   cases e;exact⟨H0,A0,A,E,ρ,x,st,ex,λv H1 Y r1=>⟨A,x,v,n,_,rfl,z,r1,J _ _ z,q _ H1 Y<|.bl _⟩⟩
  .rw[cq z]at e;cases e
def ins{α:Type}(p:List Int×α):List (List Int×α)->List (List Int×α)
 |[]=>[p]
 |q::r=>if HT.lexLt p.1 q.1=cf then p::q::r else q::ins p r
def V0(g:D->Option D)(f:Ev):Ev:=λρ=>(f ρ).bind g
end
def y3:D->Option Int->Option Int->Option D
 |.tup l,lo,hi=>bx<|.tup<|cutD l lo hi
 |.lst l,lo,hi=>bx<|.lst<|cutD l lo hi
 |_,_,_=>cb
def qcc:SlR X<|rS y3:=SlR.mono (SlR.or qcp<|SlR.mono qbV λx lo hi H Q (h:rS qaY x lo hi H Q)=>by
  obtain⟨A,dx,d,z,F,e,q⟩:=h;exact⟨A,dx,d,z,F,e,λa H' x n J o=>q _ H' x<|(o.av (A':=A) λb G=>.inl<|.inl G).rep J⟩) λx lo hi H Q ⟨A,dx,d,z,F,e,q⟩=>by
 cases dx with
 |tup l=>exact .inl ⟨A,_,d,z,F,e,q⟩
 |lst l=>exact .inr ⟨A,_,d,z,F,e,q⟩
 |_=>exact nn e
section
variable {ρ:cA}{f g:Ev}{d x y:D}{i j:Int}{k:Nat}
@[simp] theorem q_seq{f g:Sv}:dD f g ρ=(f ρ).bind λo=>match o with | .nx ρ'=>g ρ'|o=>bx o:=rfl
@[simp] theorem q_set:d9 k f ρ=(f ρ).map λd=>.nx<|ρ.set k<|bx d:=rfl
@[simp] theorem q_if{c:Bv}{f g:Sv}:B9 c f g ρ=(c ρ).bind λb=>if b=cf then f ρ else g ρ:=rfl
@[simp] theorem q_rt:B5 f ρ=(f ρ).map .rt:=rfl
@[simp] theorem q_nx:LA ρ=bx (.nx ρ):=rfl
@[simp] theorem q_bad:UW ρ=cb:=rfl
@[simp] theorem q_asg{g:Gv}:U3 f g ρ=(f ρ).bind λd=>(g d ρ).map .nx:=rfl
@[simp] theorem q_for{f:Lv}{g:Gv}{b:Sv}:y9 f g b ρ=(f ρ).bind λitems=>kA g b items ρ:=rfl
@[simp] theorem q_app:KS k f ρ=(aD k ρ).bind λx=>match x with
 |.lst l=>(f ρ).bind λd=>if aZ l.length then bx (.nx<|ρ.set k<|bx<|.lst<|l++[d])else cb
 |_=>cb:=rfl
@[simp] theorem q_put:EX k f g ρ=(g ρ).bind λe=>(aD k ρ).bind λx=>(f ρ).bind λq=>(kJ x q e).map λd=>.nx<|ρ.set k<|bx d:=rfl
@[simp] theorem q_var:aD k ρ=(ρ[k]?).join:=rfl
@[simp] theorem q_c:eC d ρ=bx d:=rfl
@[simp] theorem q_op:bB o f g ρ=(f ρ).bind λx=>(g ρ).bind λy=>o x y:=rfl
@[simp] theorem q_call:aR F l ρ=(l ρ).bind F:=rfl
@[simp] theorem q_lnil:aY ρ=bx []:=rfl
@[simp] theorem q_lcons:aC f l ρ=(f ρ).bind λx=>(l ρ).bind λxs=>bx<|x::xs:=rfl
@[simp] theorem q_tup:fA l ρ=(l ρ).map .tup:=rfl
@[simp] theorem q_lst:QF l ρ=(l ρ).map .lst:=rfl
@[simp] theorem q_bind:V0 o f ρ=(f ρ).bind o:=rfl
@[simp] theorem q_bof:pS f ρ=(f ρ).bind U5:=rfl
@[simp] theorem q_asB:U5 (.bl b)=bx b:=rfl
@[simp] theorem q_asI:Z6 (.int i)=bx i:=rfl
@[simp] theorem q_bnot:QJ c ρ=(c ρ).map (!·):=rfl
@[simp] theorem q_band:K7 a b ρ=(a ρ).bind λx=>if x=cf then b ρ else bx ci:=rfl
@[simp] theorem q_bor:WB a b ρ=(a ρ).bind λx=>if x=cf then bx cf else b ρ:=rfl
@[simp] theorem q_and:QH f g ρ=(f ρ).bind λx=>(U5 x).bind λb=>if b=cf then g ρ else bx<|.bl ci:=rfl
@[simp] theorem q_not:qa6 f ρ=(f ρ).bind λx=>(U5 x).map λb=>.bl<|!b:=rfl
@[simp] theorem q_neg:UU f ρ=(f ρ).bind λd=>(Z6 d).map λi=>.int<|-i:=rfl
@[simp] theorem q_ifx:eIf c f g ρ=(c ρ).bind λb=>if b=cf then f ρ else g ρ:=rfl
@[simp] theorem q_isi:K3 n f ρ=(f ρ).bind λd=>if uO d=cf then bx (.bl<|ER n d)else cb:=rfl
@[simp] theorem no_int:uO (.int i)=cf:=rfl
@[simp] theorem no_tup{l:List D}:uO (.tup l)=cf:=rfl
@[simp] theorem no_lst{l:List D}:uO (.lst l)=cf:=rfl
@[simp] theorem no_bl{b:Bool}:uO (.bl b)=cf:=rfl
@[simp] theorem no_str{x:Str}:uO (.str x)=cf:=rfl
@[simp] theorem no_non:uO .non=cf:=rfl
@[simp] theorem q_sl:Z5 o f a b ρ=(f ρ).bind λx=>(a ρ).bind λlo=>(b ρ).bind λhi=>o x lo hi:=rfl
@[simp] theorem q_oN:HQ ρ=bx cb:=rfl
@[simp] theorem q_oS:wL f ρ=(f ρ).bind λd=>(Z6 d).map bx:=rfl
@[simp] theorem q_lR:lR o l ρ=(l ρ).bind o:=rfl
@[simp] theorem q_lSeq:QI f ρ=(f ρ).bind λd=>match d with
 |.lst l=>bx l
 |.tup l=>bx l
 |.dT l=>bx<|l.map λp=>.tup<|p.1.map KY
 |_=>cb:=rfl
@[simp] theorem q_comp{ms:List (Option Nat)}{it:Lv}{g:Gv}{c:Bv}:dZ ms it g c f ρ=(it ρ).bind λitems=>if aZ items.length then(bD g c f items<|hW ms ρ).map .lst else cb:=rfl
@[simp] theorem q_yes:fN ρ=bx cf:=rfl
@[simp] theorem q_name:aS k d ρ=bx (ρ.set k<|bx d):=rfl
@[simp] theorem q_gnil:uF [] ρ=bx ρ:=rfl
@[simp] theorem q_gcons{g:Gv}{h:V7}{ds:List D}:eL g h (d::ds) ρ=(g d ρ).bind λρ'=>h ds ρ':=rfl
@[simp] theorem q_gtup:kQ n h (.tup l) ρ=if l.length=n then h l ρ else cb:=rfl
@[simp] theorem q_sub:qbf (.int i) (.int j)=bx (.int<|i-j):=rfl
@[simp] theorem q_addI:wU (.int i) (.int j)=bx (.int<|i+j):=rfl
@[simp] theorem q_ltI:dLt (.int i) (.int j)=bx (.bl<|decide (i<j)):=rfl
@[simp] theorem q_gtI:uR (.int i) (.int j)=bx (.bl<|decide (j<i)):=rfl
@[simp] theorem q_eqI:kI (.int i) (.int j)=bx (.bl<|decide (i=j)):=by
 unfold kI IG;rw[ck<|.inl rfl];simp
@[simp] theorem q_neI:wX (.int i) (.int j)=bx (.bl<|!decide (i=j)):=by
 unfold wX IG;rw[ck<|.inl rfl];simp
@[simp] theorem q_eqB:kI (.bl a) (.bl b)=bx (.bl<|decide (a=b)):=by
 unfold kI IG;rw[ck<|.inl rfl];simp
@[simp] theorem q_neB:wX (.bl a) (.bl b)=bx (.bl<|!decide (a=b)):=by
 unfold wX IG;rw[ck<|.inl rfl];simp
def bO(h:0<j):dI (.int i) (.int j)=bx (.int<|i%j):=ck h
def g9(h:0<j)(h2:j<1073741824):hV (.int i) (.int j)=bx (.int<|i/j):=ck ⟨h,h2⟩
def qaJ(h:My.EU i j):IC (.int i) (.int j)=bx (.int<|i*j):=ck h
def HX(h:0<=j)(h2:j<=1000000)(q:i.natAbs<2^64):P9 (.int i) (.int j)=bx (.int<|i^j.toNat):=ck ⟨h,h2,q⟩
@[simp] theorem q_isN:ZX d .non=bx (.bl<|gK d):=rfl
@[simp] theorem q_notN:ID d .non=bx (.bl<|!gK d):=rfl
@[simp] theorem q_lenL:gB [.lst l]=bx (.int l.length):=rfl
@[simp] theorem q_lenT:gB [.tup l]=bx (.int l.length):=rfl
@[simp] theorem q_min:B1 [.int i,.int j]=bx (.int<|if j<i then j else i):=rfl
@[simp] theorem q_max:IB [.int i,.int j]=bx (.int<|if j>i then j else i):=rfl
@[simp] theorem q_tuL:jY [.lst l]=bx (.tup l):=rfl
@[simp] theorem q_tuT:jY [.tup l]=bx (.tup l):=rfl
@[simp] theorem q_liL:HZ [.lst l]=bx (.lst l):=rfl
@[simp] theorem q_liT:HZ [.tup l]=bx (.lst l):=rfl
@[simp] theorem q_slT{l:List D}{lo hi:Option Int}:y3 (.tup l) lo hi=bx (.tup<|cutD l lo hi):=rfl
@[simp] theorem q_slL{l:List D}{lo hi:Option Int}:y3 (.lst l) lo hi=bx (.lst<|cutD l lo hi):=rfl
@[simp] theorem q_itL:aJ (.lst l) (.int i)=gC l i:=rfl
@[simp] theorem q_itT:aJ (.tup l) (.int i)=gC l i:=rfl
@[simp] theorem q_itD:aJ (.dT l) d=(nJ (.dT l) d).join:=rfl
@[simp] theorem isi_int_int:ER "int" (.int i)=cf:=rfl
@[simp] theorem isi_bool_int:ER "bool" (.int i)=ci:=rfl
@[simp] theorem isi_tuple_tup:ER "tuple" (.tup l)=cf:=rfl
@[simp] theorem isi_list_lst:ER "list" (.lst l)=cf:=rfl
end
def turn(g:Gv)(b:Sv)(x:D):Sv:=λρ=>(g x ρ).bind b
def t6(I:Nat->cA->Prop)(h0:I 0 ρ)(hs:∀i x ρ,items[i]?=bx x->I i ρ->∃ρ',turn g b x ρ=bx (.nx ρ')/\I (i+1) ρ'):∃ρ',kA g b items ρ=bx (.nx ρ')/\I items.length ρ':=by
 have F:∀(m:List D) (k:Nat) (ρ:cA),items.drop k=m->k<=items.length->I k ρ->∃ρ',kA g b m ρ=bx (.nx ρ')/\I items.length ρ':=by
  intro m;induction m with
  |nil=>
   intro k ρ e N h;have:items.length<=k:=by rw[List.drop_eq_nil_iff]at e;exact e
   have:k=items.length:=by lia
   subst this;exact⟨ρ,rfl,h⟩
  |cons x m ih=>
   intro k ρ e N h;have q:k<items.length:=by
    rcases Nat.lt_or_ge k items.length with z|z
    .exact z
    .rw[List.drop_eq_nil_iff.mpr z]at e;cases e
   rw[zdX q]at e;injection e with e1 e2
   obtain⟨ρ',h1,h2⟩:=hs k x ρ (by rw[<- e1];simp[q]) h;obtain⟨G,W,h4⟩:=ih (k+1) ρ' e2 q h2;refine⟨G,?_,h4⟩;unfold turn at h1;obtain⟨J,U,Y⟩:=bind_some h1;unfold kA;rw[U];show(b J).bind _=_;rw[Y];exact W
 exact F items 0 ρ rfl (zaM _) h0
def aL(h:f (aH n ds)=bx (.rt d)):bE n f ds=bx d:=by
 unfold bE;rw[h];rfl
def aE(h:f ρ=bx (.nx ρ')):dD f g ρ=g ρ':=by
 unfold dD;rw[h];rfl
def uD(h:f ρ=bx (.rt d)):dD f g ρ=bx (.rt d):=by
 unfold dD;rw[h];rfl
def qci(h:c ρ=bx cf):B9 c f g ρ=f ρ:=by
 unfold B9;rw[h];rfl
def QK(h:c ρ=bx ci):B9 c f g ρ=g ρ:=by
 unfold B9;rw[h];rfl
def aM(h:f ρ=bx d):d9 k f ρ=bx (.nx<|ρ.set k<|bx d):=by
 unfold d9;rw[h];rfl
def qcw(h:f ρ=bx d):B5 f ρ=bx (.rt d):=by
 unfold B5;rw[h];rfl
def iP{f:Lv}{g:Gv}{b rest:Sv}{ρ:cA}{items:List D}{out:Option Out}(q:f ρ=bx items)(I:Nat->cA->Prop)(h0:I 0 ρ)(hs:∀i x ρ,items[i]?=bx x->I i ρ->∃ρ',turn g b x ρ=bx (.nx ρ')/\I (i+1) ρ')(k:∀ρ',I items.length ρ'->rest ρ'=out):dD (y9 f g b) rest ρ=out:=by
 obtain⟨ρ',e,h⟩:=t6 (g:=g) (b:=b) I h0 hs;rw[aE<|by rw[q_for,q];exact e];exact k ρ' h
open My (look put ZI qa8 qaW)
def tupI(k:List Int):D:=.tup<|k.map .int
theorem vI:∀k:List Int,P8 (k.map .int)=bx (k.map zby)
 |[]=>rfl
 |i::k=>by rw[zan,P8,vI k];rfl
@[simp] theorem asT_tupI(k:List Int):WD (tupI k)=bx (k.map zby):=vI k
theorem fT{ns:List Int}{k:Int}(h0:0<=k)(h:k<(ns.length:Int)):∃c,gC (ns.map D.int) k=bx (.int c)/\ns[k.toNat]?=bx c:=by
 obtain⟨j,rfl⟩:∃j:Nat,k=(j:Int):=⟨k.toNat,by lia⟩;have q:j<ns.length:=by lia
 exact⟨ns[j],bS<|by simp[q],by simp[q]⟩
def gJ:D->Option (List D)
 |.lst l=>bx l
 |.tup l=>bx l
 |_=>cb
def lU:List D->List D->List D
 |x::xs,y::ys=>.tup [x,y]::lU xs ys
 |_,_=>[]
def UX(f:Lv):Lv:=λρ=>(f ρ).bind λds=>match ds with
 |[a,b]=>(gJ a).bind λxs=>(gJ b).map λys=>lU xs ys
 |_=>cb
theorem AU:∀ {xs ys:List D} {i:Nat} {d:D},(lU xs ys)[i]?=bx d->∃x y,xs[i]?=bx x/\ys[i]?=bx y/\d=.tup [x,y]
 |[],_,i,d,h=>by simp[lU]at h
 |_::_,[],i,d,h=>by simp[lU]at h
 |x::xs,y::ys,0,d,h=>by simp[lU]at h;exact⟨x,y,rfl,rfl,h.symm⟩
 |x::xs,y::ys,i+1,d,h=>AU (xs:=xs) (ys:=ys) (i:=i)<|by simpa[lU]using h
theorem BG:∀ {xs ys:List D} {i:Nat},(lU xs ys).length<=i->xs.length<=i\/ys.length<=i
 |[],_,i,_=>.inl<|zaM _
 |_::_,[],i,_=>.inr<|zaM _
 |x::xs,y::ys,0,h=>by simp[lU]at h
 |x::xs,y::ys,i+1,h=>(BG (xs:=xs) (ys:=ys) (i:=i)<|by simpa[lU]using h).imp (λz=>by simpa using z) λz=>by simpa using z
def yA{A:Av}{H:Hp}{K:zae}{d:D}{l:List D}{v:V}(h:gJ d=bx l)(r:Rep A H d v):∃t a xs,v=.ref a/\My.B8 K t H a xs/\RepL A H l xs/\∀A' H',Rep A' H' d v->∃ys,My.B8 K t H' a ys/\RepL A' H' l ys:=by
 cases d with
 |lst m=>
  cases h;obtain⟨a,xs,rfl,h1,r1⟩:=RepB.lst_inv<|.of r;refine⟨ci,a,xs,rfl,.inl h1,r1,λA' H' q=>?_⟩;obtain⟨z,ys,e,h2,r2⟩:=RepB.lst_inv<|.of q;cases e;exact⟨ys,.inl h2,r2⟩
 |tup m=>
  cases h;obtain⟨a,xs,rfl,h1,r1⟩:=RepB.tup_inv<|.of r;refine⟨cf,a,xs,rfl,.inl<|.inl h1,r1,λA' H' q=>?_⟩;obtain⟨z,ys,e,h2,r2⟩:=RepB.tup_inv<|.of q;cases e;exact⟨ys,.inl<|.inl h2,r2⟩
 |_=>exact nn h
set_option tactic.hygienic true in
def UJ{X:Cx}{O:List Nat}{N:List Expr}{x1}{tp:Pos}{a b:Expr}{f:Lv}{p pos:Pos}(hg:Gl X "zip")(hm:X.mg "zip" = cb)(ha:wW X O [a,b] f)(hs:zaf [a,b] X.env=[(ci,eval a X.env),(ci,eval b X.env)]:=by rfl)(ab:zaf [b] X.env=[(ci,eval b X.env)]:=by rfl) :
  PDI X O (.Tuple N x1 tp) (.Call (.Name "zip" p) [a,b] [] pos) (UX f):=PI.mono (My.W3 hg hm ha hs ab) λσ H R ⟨H0,A0,A,E,ρ,items,st,e,q⟩=>by
 obtain⟨ds,e1,e⟩:=bind_some e;refine⟨H0,A0,A,E,ρ,ds,st,e1,λvs H1 x1 r1=>?_⟩;split at e
 case h_2=>cases e
 rename_i da db;obtain⟨xs,e2,e⟩:=bind_some e;obtain⟨ys,e3,rfl⟩:=map_some e;obtain⟨v,w,rfl,r2,r3⟩:=r1.two;obtain⟨t1,W,us,rfl,q1,_,k1⟩:=yA (K:=X.K) e2 r2;obtain⟨t2,Y,ws,rfl,q2,_,k2⟩:=yA (K:=X.K) e3 r3;refine⟨t1,t2,W,Y,us,ws,rfl,q1,q2,q _ H1 [.rep da<|.ref W,.rep db<|.ref Y] x1 (λp hp=>?_) ?_⟩
 .rcases List.mem_cons.mp hp with z|z
  .rw[z];exact r2
  .rw[List.mem_singleton.mp z];exact r3
 .intro A' H' lv hE i
  have a1:Rep A' H' da<|.ref W:=hE (.rep da<|.ref W)<|zar ..;have a2:Rep A' H' db<|.ref Y:=hE (.rep db<|.ref Y)<|zaq _<|zar ..;obtain⟨G,g1,J⟩:=k1 A' H' a1;obtain⟨F,g2,U⟩:=k2 A' H' a2;refine⟨λhi=>⟨G,F,g1,g2,(BG hi).imp (λz=>by rw[J.length];exact z) λz=>by rw[U.length];exact z⟩,λd hd=>?_⟩;obtain⟨x,y,ex,ey,rfl⟩:=AU hd;obtain⟨u,eu,ru⟩:=J.get' ex;obtain⟨w,ew,ac⟩:=U.get' ey;refine⟨⟨G,F,g1,g2,(List.getElem?_eq_some_iff.mp eu).1,(List.getElem?_eq_some_iff.mp ew).1⟩,λx' H2 ⟨p,u',w',e4,n,e5,e6⟩=>?_⟩;subst e4 e5;obtain⟨z1,z2⟩:=e6 G F g1 g2;rw[eu]at z1;cases z1;rw[ew]at z2;cases z2;exact⟨Ext.new n,.tup aI<|.cons (ru.ext<|Ext.new n)<|.cons (ac.ext<|Ext.new n) .nil⟩
@[simp] theorem q_zip:UX f ρ=(f ρ).bind λds=>match ds with
 |[a,b]=>(gJ a).bind λxs=>(gJ b).map λys=>lU xs ys
 |_=>cb:=rfl
@[simp] theorem q_seqL:gJ (.lst l)=bx l:=rfl
@[simp] theorem q_seqT:gJ (.tup l)=bx l:=rfl
theorem D4(h1:-A<a)(h2:a<A)(z:-B<b)(F:b<B):-(A*B)<a*b/\a*b<A*B:=by
 have e:(a*b).natAbs<(A*B).natAbs:=by
  rw[Int.natAbs_mul,Int.natAbs_mul];exact Nat.mul_lt_mul_of_lt_of_le (by lia) (by lia)<|by lia
 have q:0<=A*B:=zdg (by lia)<|by lia
 lia
end P
namespace P
def pick{α:Type}(l:List α)(lo hi st:Option Int):List α:=(sliceRange (zbS lo hi st l.length).1 (zbS lo hi st l.length).2.1 (zbS lo hi st l.length).2.2).filterMap (l[·]?)
end P
namespace My
open PySem.SeqAt
section
variable {X:Cx}
def Inv.gone(I:Inv X pins σ H s)(f:kC X pins H C)(hs:za6 C s.heap h'):Inv X pins σ H {s with heap:=h'}:=by
 obtain⟨G,f1,f2,N,W,J⟩:=f;refine I.call' (s':={s with heap:=h'}) (ch:=[C]) rfl ⟨λb o e n F hx=>?_,λb o e n F hx=>?_,λ_ _ _ n _=>n,λb o e hx=>?_,λ_ _ q=>q,λ_ _ _ q=>q,λ_ ps q=>⟨#[],by simpa using q⟩⟩ ?_ I.bare λb F=>?_
 .exact(hs.2 b λz=>hx<|z ▸ List.mem_singleton.mpr rfl).trans e
 .exact⟨o.slots,(hs.2 b λz=>hx<|z ▸ List.mem_singleton.mpr rfl).trans e⟩
 .exact⟨o,(hs.2 b λz=>hx<|z ▸ List.mem_singleton.mpr rfl).trans e⟩
 .intro b ob e
  refine(I.hok b ob e).stay (λc Y U q=>(hs.2 c ?_).trans q) (λ_ q=>q) λ_ _ q=>q
  rintro rfl;rcases U with z|z
  .subst z;rw[G]at e;cases e
  .rw[G]at z;cases z
 .rw[List.mem_singleton.mp F]
  exact⟨N,f1,W,J⟩
def FA(hN:X.N.Nodup)(ac:X.N[i]?=bx x)(hx:Loc X.env.scope x)
  (hc:X.calm=cf) (G:Clo X N scope cl) (hi:PI X tg iter wi) (hg:∀C s H fp,PG (aX X N scope cl C s H fp) tg g) (ht:∀C s H fp,E3 (aX X N scope cl C s H fp) ifs tt) (he:∀C s H fp,PE (aX X N scope cl C s H fp) elt te)
  (hs:∀x,zbc iter X.env x=pure x:=by intro _;rfl) (ae:zaz (.ListComp elt [⟨tg,iter,ifs,0⟩] scope pos) (bx<|.Name x pos') spos.line X.env=pure cf:=by rfl)
  (hf:X.fn x=cf\/X.env.scope.names.lookup x=bx .local:=by first|exact .inl rfl|exact .inr rfl) :
  PS X (.Assign [.Name x pos'] (.ListComp elt [⟨tg,iter,ifs,0⟩] scope pos) spos) (EQ (BY wi g tt te<|Start X N scope)<|gL i):=by
 intro pins s σ H D I h;obtain⟨as,sS,hw⟩:=h;rw[exec_Assign_Name_used _ _ _ _ ae];refine zaa<|zdr<|zaa ?_;show wpAny _ X.A (do let _ <- comprehension (.ListComp elt [⟨tg,iter,ifs,0⟩] scope pos) scope X.env _ (newList []) ci (eval iter X.env)<|bx<|zbf (.Name x pos') X.env) _ _ s;refine zaa (zaJ (wpAny_comprehension_free (use:=bx<|zbf (.Name x pos') X.env) (Q:=λ_ s'=>SP X pins D .next s') rfl hs G.clos G.kind G.names
  (cP (hi pins s σ H _ I hw) λv s1 h1=>cP h1 λa1 s2 h2=>?_)) (λ_ s' hq=>zag<|zag hq) λ_ _ e=>e)
 obtain⟨it,fp,tn,J,H2,e,I2,T,ad,f2,q2⟩:=h2;subst e;refine vE (wi:=wi) (Q:=λv H1=>gL i v σ H1 D.nx) (RR:=λacc C=>compPost (model X.prog X.w) X.A X.xe (bx<|zbf (.Name x pos') X.env) (λ_ s'=>SP X pins D .next s') acc C) hc G hg ht he I2 T ad f2 sS q2 ?_
 intro s3 s5 H3 H5 a3 D1 I3 f3 U q;obtain⟨m,hn,_⟩:=id U.loc;have I6:Inv X pins σ H5 s5:=comp_back I3 f3 U<|Heap.SameBut.refl _ _;have fc:kC X pins H5 s3.heap.objs.size:=I3.fpOk (zaj _) U.free;show wpAny _ X.A (zbf (.Name x pos') X.env<|.ref D1) _ _ s5;refine wpAny_assign_Name<|wH (v:=.ref D1) I6 hN ac hx rfl (λs7 I7 ⟨a,Y,F⟩=>?_) hf;have ne:s3.heap.objs.size≠a:=λz=>by
  rcases F with F|F
  .exact fc.2.1<|z.trans F
  .exact fc.2.2.2.2.1 x a F z.symm
 exact⟨m,Heap.Ns.sameBut hn Y ne,λh' W=>⟨_,H5,Inv.gone I7 fc W,q⟩⟩
end
end My
namespace P
open PySem.SeqAt
section
variable {X:Cx}{O O':List Nat}{L:Lp}
def DE(W:PS X (.Assign [.Name x pos'] e pos)<|EQ (tD Rep O f)<|gL i)(h:Sub O' (O.filter (· != i))=cf):PSD X L O (.Assign [.Name x pos'] e pos) (d9 i f) O':=
 PS.mono W <| by
  rintro T σ H ⟨H0,A0,A,E,ρ,out,st,e,p⟩;obtain⟨d,U,rfl⟩:=map_some e;refine⟨H0,A0,A,E,ρ,d,st,U,λv H' x r=>?_⟩;have G:=(st.mono x).more r;obtain⟨A',F⟩:=G.shut (O':=O') λj J=>(Sub.er h J).1
  exact p A' _ H'<|(F.put (F.ext _<|zar ..) λz=>(Sub.er h z).2 rfl).less λq N=>zaq _ N
def zV(W:PS X (.Assign [.Name x pos'] e pos)<|EQ (tF O f)<|gL i)(h:Sub O' (i::O)=cf)(N:O.contains i=ci):PSD X L O (.Assign [.Name x pos'] e pos) (d9 i f) O':=
 PS.mono W <| by
  rintro T σ H ⟨H0,A0,A,E,ρ,out,st,e,p⟩;obtain⟨d,F,rfl⟩:=map_some e;refine⟨H0,A0,A,E,ρ,d,st,F,λa H' x n U o=>?_⟩;have J:i∉O:=λz=>by
   have:O.contains i=cf:=by simpa using z
   rw[N]at this;cases this
  obtain⟨G,q⟩:=(st.own_put x n U o J).shut<|Sub.mem h;exact p G _ H' q
def qaD:tD Rep O f σ H Q->tF O f σ H Q:=λ⟨H0,A0,A,E,ρ,d,st,e,q⟩=>
 ⟨H0,A0,A,E,ρ,d,st,e,λa H' x n F o=>q _ H' x<|(o.av (A':=A) λb z=>.inl<|.inl z).rep F⟩
def N2(hN:X.N.Nodup)(z:X.N[i]?=bx x)(hx:Loc X.env.scope x)
  (Y:X.calm=cf) (cc:My.Clo X N scope cl) (F:dF X scope N ms) (J:(ms.all λo=>match o with|some i=>!O.contains i|none=>cf)=cf) (hi:PDI X O tg iter it) (W:∀C s H fp,B7 (My.aX X N scope cl C s H fp) [] tg g)
  (ht:∀C s H fp,My.E3 (My.aX X N scope cl C s H fp) ifs<|tDT [] c) (U:∀C s H fp,PD (My.aX X N scope cl C s H fp) [] elt f) (h:Sub O' (O.filter (· != i))=cf:=by rfl) (hs:∀x,zbc iter X.env x=pure x:=by intro _;rfl)
  (q:zaz (.ListComp elt [⟨tg,iter,ifs,0⟩] scope pos) (bx<|.Name x pos') spos.line X.env=pure cf:=by rfl) (G:X.fn x=cf\/X.env.scope.names.lookup x=bx .local:=by first|exact .inl rfl|exact .inr rfl) :
  PSD X L O (.Assign [.Name x pos'] (.ListComp elt [⟨tg,iter,ifs,0⟩] scope pos) spos) (d9 i<|dZ ms it g c f) O':=
 DE (PS.mono (My.FA hN z hx Y cc hi W ht U hs q G) λT σ H w=>sF F J _ _ _<|qaD w) h
def JX(hN:X.N.Nodup)(F:X.N[i]?=bx x)(hx:Loc X.env.scope x)
  (hc:X.calm=cf) (cc:My.Clo X N scope cl) (G:dF X scope N ms) (U:(ms.all λo=>match o with|some i=>!O.contains i|none=>cf)=cf) (hi:PDI X O tg iter it) (Y:∀C s H fp,B7 (My.aX X N scope cl C s H fp) [] tg g)
  (ht:∀C s H fp,My.E3 (My.aX X N scope cl C s H fp) ifs<|tDT [] c) (W:∀C s H fp,PD (My.aX X N scope cl C s H fp) [] elt f) (h:Sub O' (i::O)=cf:=by rfl) (q:O.contains i=ci:=by rfl) (hs:∀x,zbc iter X.env x=pure x:=by intro _;rfl)
  (z:zaz (.ListComp elt [⟨tg,iter,ifs,0⟩] scope pos) (bx<|.Name x pos') spos.line X.env=pure cf:=by rfl) (J:X.fn x=cf\/X.env.scope.names.lookup x=bx .local:=by first|exact .inl rfl|exact .inr rfl) :
  PSD X L O (.Assign [.Name x pos'] (.ListComp elt [⟨tg,iter,ifs,0⟩] scope pos) spos) (d9 i<|dZ ms it g c f) O':=
 zV (PS.mono (My.FA hN F hx hc cc hi Y ht W hs z J) λT σ H w=>sF G U _ _ _ w) h q
end
end P
namespace My
open PySem.SeqAt
def qbd(K:zae)(n:Nat)(t:WC):TG:=λv σ H Q=>∃a xs,v=.ref a/\(SqT K H a xs\/SqL K H a xs)/\xs.length=n/\t xs σ H Q
def tX(U:X.calm=cf)(h:PGs X es t)
  (N:(za8 es X.env).length=n:=by rfl) (z:(za8 es X.env).findIdx? (·.1)=cb:=by rfl):PG X (.Tuple es k pos)<|qbd X.K n t:=by
 intro pins s σ H v u Q I r hw;obtain⟨a,xs,Y,q,G,hw⟩:=hw;subst Y;rcases q with q|q
 .exact D5 U h N z pins s σ H _ u Q I r ⟨a,xs,rfl,q,G,hw⟩
 .cases r
  obtain⟨F,J,ht,hz⟩:=I.list q;have hsz:(za8 es X.env).length=F.toArray.size:=by simp[N,<- G,J.length]
  rw[assign_Tuple];refine zaa<|zdr ?_;unfold unpack;rw[hsz,z];refine zaa<|zbM<|PySem.W.kun_itemsOf (I.ok.hd U) (My.PlainL.isList ht) λh' hx=>?_;have I1:Inv X pins σ H {s with heap:=h'}:=I.kept (t':=s.toks) λb o e=>hx b o (zaE<|zao e) e
  exact h pins _ σ H xs _ Q I1 (by simpa using J) hw
end My
namespace P
open PySem.SeqAt
def uI(n:Nat)(k:V7):Gv:=λd ρ=>match d with
 |.tup l=>if l.length=n then k l ρ else cb
 |.lst l=>if l.length=n then k l ρ else cb
 |_=>cb
def nE(G:PG X tg<|My.qbd X.K n<|tDGs O k):B7 X O tg<|uI n k:=PG.mono G <| by
 rintro v σ H Q ⟨H0,A0,A,E,ρ,d,ρ',st,r,e,q⟩;cases d with
 |tup l=>
  obtain⟨a,xs,rfl,h,F⟩:=RepB.tup_inv<|.of r;by_cases z:l.length=n
  .simp only[uI,ck z]at e
   exact⟨a,xs,rfl,.inl<|.inl<|.inl h,by rw[F.length];exact z,H0,A0,A,E,ρ,l,ρ',st,F,e,q⟩
  .simp only[uI,cq z]at e;cases e
 |lst l=>
  obtain⟨a,xs,rfl,h,F⟩:=RepB.lst_inv<|.of r;by_cases z:l.length=n
  .simp only[uI,ck z]at e
   exact⟨a,xs,rfl,.inr<|.inl h,by rw[F.length];exact z,H0,A0,A,E,ρ,l,ρ',st,F,e,q⟩
  .simp only[uI,cq z]at e;cases e
 |_=>exact nn e
@[simp] theorem q_gseqT:uI n h (.tup l) ρ=if l.length=n then h l ρ else cb:=rfl
@[simp] theorem q_gseqL:uI n h (.lst l) ρ=if l.length=n then h l ρ else cb:=rfl
end P
namespace P
def iW{f:Lv}{g:Gv}{b rest:Sv}{ρ:cA}{items:List D}{R:D->Prop}(q:f ρ=bx items)(I:Nat->cA->Prop)(h0:I 0 ρ)(hs:∀i x ρ,items[i]?=bx x->I i ρ->∃ρ',turn g b x ρ=bx (.nx ρ')/\I (i+1) ρ')(k:∀ρ',I items.length ρ'->∃d,rest ρ'=bx (.rt d)/\R d):∃d,dD (y9 f g b) rest ρ=bx (.rt d)/\R d:=by
 obtain⟨ρ',e,h⟩:=t6 (g:=g) (b:=b) I h0 hs;rw[aE<|by rw[q_for,q];exact e];exact k ρ' h
def dQ{n:Nat}{ds:List D}{R:D->Prop}(h:∃d,f (aH n ds)=bx (.rt d)/\R d):∃d,bE n f ds=bx d/\R d:=by
 obtain⟨d,e,r⟩:=h;exact⟨d,aL e,r⟩
def JV:cutD (as++bs) cb (bx (as.length:Int))=as:=by
 have e:HT.sIx (as++bs).length (as++bs).length (bx (as.length:Int))=as.length:=by
  unfold HT.sIx;simp
  try lia
 unfold cutD;rw[e];show((as++bs).drop 0).take (as.length-0)=as;simp
end P
namespace My
section
variable {X:Cx}
theorem oR(ns:List Int):∀n,n<=ns.length->preSum (λi=>(ns[i]?).getD 0) n=(ns.take n).sum
 |0,_=>by simp[preSum]
 |n+1,h=>by
  have e:ns[n]?=bx (ns[n]'(by lia)):=by simp
  rw[preSum,oR ns n<|by lia,zdh,List.sum_append_int,e];simp
def BE{ns:List Int}{q:List Value}(r:Vals (ns.map V.int) q){i:Nat}(h:q[i]?=bx v):∃t,v=.int ((ns[i]?).getD 0) t:=by
 have z:=r.length;rw[zak]at z;have hi:i<ns.length:=by rw[z];exact(List.getElem?_eq_some_iff.mp h).1
 have e:(ns.map V.int)[i]?=bx (.int ns[i]):=by simp[hi]
 obtain⟨u,F,G⟩:=r.get e;rw[h]at F;cases F;obtain⟨t,rfl⟩:=G;exact⟨t,by simp[hi]⟩
def JY(hc:X.calm=cf):CallR X (.builtin "sum") λxs H Q=>∃(p:Addr) (ns:List Int),xs=[.ref p]/\SqL X.K H p (ns.map V.int)/\Q (.int ns.sum) H:=by
 intro pins s σ H xs us Q I r h;obtain⟨p,ns,rfl,hq,q⟩:=h;obtain⟨u,rfl,rx⟩:=vals1 r;cases rx;obtain⟨G,r',pl,hz⟩:=I.list hq;have N:s.heap.IsList p G.toArray:=pl.isList;obtain⟨o,ho,ah,n,hd⟩:=id N;have U:p≠s.heap.objs.size:=zaE<|zao ho;have W:=(Walks.list (prog:=X.prog) (w:=X.w) (A:=X.A.in1) (I.ok.hd hc) s.heap.objs.size p U G.toArray).toS;refine call_sum_walkAnyS<|zcb N ?_;refine⟨s.heap.objs.size,_,_,_,_,_,_,(λi=>(ns[i]?).getD 0),rfl,W,⟨⟨_,zaF _ rfl,rfl,rfl⟩,N.at λo e=>zam _ e⟩,λb F=>?_,λi v hP=>BE r' (by simpa using hP),λs' t' J=>?_⟩
 .rcases List.mem_cons.mp F with rfl|F
  .exact zao<|zaF _ rfl
  .obtain rfl:=List.mem_singleton.mp F
   exact zao<|zam _ ho
 .obtain⟨h',g',d',Y,aa⟩:=s'
  have e1:g'=s.gens:=J.gens;have e2:d'=s.drawn:=J.drawn;have e3:aa=s.os:=J.os;subst e1 e2 e3;have hk:∀b o,s.heap.get? b=bx o->h'.get? b=bx o:=λb o e=>J.heap b o (λF=>absurd (zao e)<|(List.mem_singleton.mp F) ▸ zb9 _)<|zam _ e
  refine⟨.int ns.sum,H,I.kept (t':=Y) hk,⟨t',?_⟩,q⟩;have z:=r'.length;rw[zak]at z;rw[zaw,<- z,oR ns ns.length<|zaj _,zb3]
def QT:OpR X (zaQ .Add) λx y H Q=>∃a b ys,x=.ref a/\y=.ref b/\SqT X.K H a []/\SqT X.K H b ys/\Q (.ref b) H:=by
 intro pins s σ H x y v u Q I rx ry h;obtain⟨a,b,ys,rfl,rfl,ha,hb,q⟩:=h;cases rx;cases ry;obtain⟨ad,r1,p1,_⟩:=I.tuple ha;obtain⟨z,r2,p2,_⟩:=I.tuple hb;have e1:ad=[]:=r1.nil_iff.mpr rfl;subst e1;obtain⟨⟨cls,dd,data,sl⟩,ho,hc,n,hd⟩:=p1;obtain⟨⟨J,ac,F,Y⟩,G,W,n2,ae⟩:=p2;have ab:cls=.type "tuple" := hc;have aa:data=.seq #[] n:=hd;have U:J=.type "tuple" := W;have N:F=.seq z.toArray n2:=ae;subst ab aa U N;exact concat_meets ⟨_,ho,rfl⟩ ⟨_,G,rfl⟩ zep seq_tuple_add zeq zer (zes _ _)
  (tuple_addW0 a b #[] z.toArray n n2 dd ac sl Y rfl) ⟨ho,G,.ref b,H,I,rfl,q⟩
def AJ:V->List V->Hp->VK->Prop:=λx vs H Q=>∃l b xs zs,x=.ref l/\vs=[.ref b]/\H l=bx (.lst xs)/\Rd H b (.lst zs)/\xs.length+zs.length<=zai/\Q .non (upd H l<|.lst<|xs++zs)
def rM:MtM X "list.extend" AJ:=by
 intro pins s σ H x vs v us Q I Y rv h;obtain⟨l,b,xs,zs,rfl,rfl,U,hB,hz,q⟩:=h;cases Y;obtain⟨u,rfl,ru⟩:=rv.one;cases ru;obtain⟨z,J,n,r,hl,e⟩:=I.lstM U;obtain⟨z2,G,n2,r2,W,e2⟩:=P.Inv.lstR I hB;have hsz:J.toArray.size+G.toArray.size<=zai:=by rw[zaw,zaw];lia
 have N:¬ (!J.toArray.isEmpty && zex (J.toArray.size+G.toArray.size))=cf:=by
  rw[MS hsz,Bool.and_false];exact zaB
 refine zdd F.slot_list_extend ⟨_,e,rfl⟩ F.entry_list_extend (F.args_list_extend_2 _ _)
  (AutoSeq1.list_extend_list_list_0 l J.toArray n b G.toArray n2 N (by rw[zaw];lia)<|by lia) ⟨e,e2,?_⟩
 refine⟨.non,_,I.lset (its':=J++G) U e (by simp) (r.append r2) ?_,rfl,q⟩;rw[zbk]
 lia
end
end My
namespace P
def aA{q β:Type}(a:q)(f:q->Option β):(bx a).bind f=f a:=by rw[zad]
def aB{q β:Type}(a:q)(f:q->β):(bx a).map f=bx (f a):=by rw[zac]
section
variable {X:Cx}{O O':List Nat}{L:Lp}
def EV:List D->Option D
 |[.int i]=>bx<|.int i
 |[.bl b]=>bx<|.int<|if b then 1 else 0
 |_=>cb
def YO:jZ X (.type "int") EV:=CallR.mono JM <| by
 rintro xs H Q ⟨A,ds,d,F,r,e,q⟩;unfold EV at e;split at e
 .cases e
  obtain⟨v,rfl,z⟩:=r.one;cases z.int_inv;exact .inl ⟨_,rfl,q _ H (Ext.refl _ _)<|.int _⟩
 .cases e
  obtain⟨v,rfl,z⟩:=r.one;cases z.bl_inv;exact .inr ⟨_,rfl,q _ H (Ext.refl _ _)<|.int _⟩
 .cases e
@[simp] theorem q_intB:EV [.bl b]=bx (.int<|if b then 1 else 0):=rfl
@[simp] theorem q_intI:EV [.int i]=bx (.int i):=rfl
open Classical in
def cV:D->D->Option D:=K9 λi j=>if My.EU i j then bx (.int<|i*j)else cb
def GV:cV=IC:=by
 unfold cV IC;congr 1
def cM:kT X (zaQ .Mult) cV:=by rw[GV];exact XN
def ZK(h:My.EU i j):cV (.int i) (.int j)=bx (.int<|i*j):=by rw[GV];exact qaJ h
def cE(h:-(10^250)<i)(h1:i<10^250)(h2:-(10^250)<j)(q:j<10^250):cV (.int i) (.int j)=bx (.int<|i*j):=ZK ⟨⟨h,h1⟩,h2,q⟩
def UZ:List D->Option D
 |[.lst l]=>(iX l).map λns=>.int ns.sum
 |_=>cb
def OA(G:X.calm=cf):jZ X (.builtin "sum") UZ:=CallR.mono (My.JY G) <| by
 rintro xs H Q ⟨A,ds,d,J,r,e,q⟩;unfold UZ at e;split at e
 .obtain⟨ns,z,rfl⟩:=map_some e
  obtain⟨v,rfl,F⟩:=r.one;obtain⟨a,N,rfl,h1,r1⟩:=F.lst_inv;rw[fS z r1]at h1;exact⟨a,ns,rfl,.inl h1,q _ H (Ext.refl _ _)<|.int _⟩
 .cases e
theorem jK:∀ns:List Int,iX (ns.map .int)=bx ns
 |[]=>rfl
 |n::ns=>by rw[zan,iX,jK ns];rfl
@[simp] theorem q_sum{ns:List Int}:UZ [.lst<|ns.map .int]=bx (.int ns.sum):=by unfold UZ;simp only[jK];rfl
def dR(x y:D):Option D:=match x,y with
 |.tup l,.tup m=>if aZ (l.length+m.length)then bx (.tup<|l++m)else cb
 |x,y=>wU x y
set_option tactic.hygienic true in
def eD:kT X (zaQ .Add) dR:=OpR.mono (OpR.or ZE My.QT) <| by
 rintro x y H Q ⟨A,dx,N,d,J,z,F,e,q⟩;unfold dR at e;split at e
 .rename_i l m
  cases l with
  |nil=>
   by_cases G:aZ (([]:List D).length+m.length)=cf
   .rw[ck G]at e
    cases e;obtain⟨a,xs,rfl,h1,r1⟩:=z.tup_inv;obtain⟨b,ys,rfl,h2,r2⟩:=F.tup_inv;cases r1;exact .inr ⟨a,b,ys,rfl,rfl,.inl<|.inl h1,.inl<|.inl h2,q _ H (Ext.refl _ _)<|.tup h2 r2⟩
   .rw[cq G]at e;cases e
  |cons a l=>
   refine .inl ⟨A,_,_,d,J,z,F,?_,q⟩;rw[<- e];rfl
 .exact .inl ⟨A,_,_,d,J,z,F,e,q⟩
@[simp] theorem q_addAI:dR (.int i) (.int j)=bx (.int<|i+j):=rfl
@[simp] theorem q_addAT:dR (.tup l) (.tup m)=if aZ (l.length+m.length)then bx (.tup<|l++m)else cb:=rfl
@[simp] theorem q_addAL:dR (.lst l) (.lst m)=if aZ (l.length+m.length)then bx (.lst<|l++m)else cb:=rfl
@[simp] theorem q_addAS:dR (.str l) (.str m)=if aZ (l.length+m.length)then bx (.str<|l++m)else cb:=rfl
def U1(i:Nat)(f:Ev):Sv:=λρ=>(aD i ρ).bind λx=>match x with
 |.lst l=>(f ρ).bind λd=>match d with
  |.lst m=>if aZ (l.length+m.length)then bx (.nx<|ρ.set i<|bx<|.lst<|l++m)else cb
  |_=>cb
 |_=>cb
def rX(ho:PE X o<|cN i)(he:PD X O e f)(J:mem O i=cf)(hp:PE X (.Call (.Attribute o "extend" apos) [e] [] cpos)<|tBM X.K "list" My.AJ (cN i)<|wQ (tD Rep O f) UY)
  (hs:zaz (.Call (.Attribute o "extend" apos) [e] [] cpos) cb pos.line X.env=pure ci:=by rfl) (h:Sub O' O=cf:=by rfl):PSD X L O (.Expr (.Call (.Attribute o "extend" apos) [e] [] cpos) pos) (U1 i f) O':=
 PS.mono (xM hp hs) <| by
  rintro T σ H ⟨H0,A0,A,E,ρ,out,st,e,p⟩;obtain⟨x,ex,e⟩:=bind_some e;cases x with
  |lst l=>
   obtain⟨d,ed,e⟩:=bind_some e;cases d with
   |lst m=>
    dsimp only at e;by_cases z:aZ (l.length+m.length)=cf
    .rw[ck z]at e
     cases e;obtain⟨a,G,q,e3,W⟩:=st.own i _ (bT ex)<|gR J;cases W with
     |lst h4 r4=>
      refine⟨_,G,.inl ⟨rfl,_,SqL.of h4⟩,H0,A0,A,E,ρ,_,st,ed,λv H' x r=>?_⟩;obtain⟨b,zs,rfl,Y,U⟩:=RepB.lst_inv<|.of r;refine⟨a,b,_,zs,rfl,rfl,x.ow _ _ q h4,Y,by rw[r4.length,U.length];exact iR z,?_⟩;have N:=x.ow _ _ q h4;obtain⟨A',F⟩:=((st.mono x).write (o:=.lst _) (bT ex) (gR J) G q e3 N trivial (.lst aI<|((r4.ext x).append U).put q N trivial)).shut<|Sub.mem h;exact p A' σ _ F
    .rw[cq z]at e;cases e
   |_=>exact nn e
  |_=>exact nn e
def eY(c:Bv)(b:Sv):Nat->cA->Option Out
 |0,_=>cb
 |n+1,ρ=>(c ρ).bind λt=>if t=cf then(b ρ).bind λo=>match o with
   |.nx ρ'=>eY c b n ρ'
   |.ct ρ'=>eY c b n ρ'
   |.bk ρ'=>bx<|.nx ρ'
   |.rt d=>bx<|.rt d
  else bx<|.nx ρ
def lQ(c:Bv)(b:Sv):Sv:=λρ=>eY c b 100000 ρ
def KC(hp:zca (model X.prog X.w) X.A X.env X.xe)(hc:uT X O1 c g)(hb:PSDs X ⟨Ob,O1⟩ O1 body b O1)(h1:Sub O1 O=cf)(h2:Sub O' O1=cf)(h3:Sub O' Ob=cf) :
  PSD X L O (.While c body [] pos) (lQ g b) O':=PS.mono (LS hp hc hb) λT σ H ⟨H0,A0,A,E,ρ,out,st,e,p⟩=>by
 obtain⟨A1,N⟩:=st.shut<|Sub.mem h1;refine⟨λm σ H=>∃ρ A,ST H0 A0 A E O1 σ H ρ/\eY g b m ρ=bx out,⟨100000,ρ,A1,N,e⟩,?_⟩;rintro m σ H ⟨ρ,A,st,e⟩;cases m with
 |zero=>cases e
 |succ m=>
  obtain⟨t,Y,e⟩:=bind_some e;refine⟨H0,A0,A,E,ρ,t,st,Y,λH1 W=>?_⟩;have fin:∀ {O2:List Nat} {A:Av} {σ:L2.St} {H:Hp} {ρ:cA},Sub O' O2=cf->ST H0 A0 A E O2 σ H ρ->(∀A σ H,ST H0 A0 A E O' σ H ρ->T.nx σ H)->T.nx σ H:=λhs st k=>by
   obtain⟨z,U⟩:=st.shut<|Sub.mem hs;exact k z _ _ U
  cases t with
  |true=>
   rw[ck rfl]at e;dsimp only;rw[ck rfl];obtain⟨o,eo,e⟩:=bind_some e;refine⟨λJ H'=>∃q z,ST H0 A0 z E O1 J H' q/\eY g b m q=bx out,λJ H' ⟨q,z,F,e2⟩=>⟨m,zdy m,q,z,F,e2⟩,H0,A0,A,E,ρ,o,st.mono W,eo,?_⟩;cases o with
   |nx q=>exact λz G H2 F=>⟨q,z,F,e⟩
   |ct q=>exact λz G H2 F=>⟨q,z,F,e⟩
   |bk q=>cases e;exact λz G H2 F=>fin h3 F p
   |rt d=>cases e;exact p
  |false=>
   rw[cq zaB]at e;dsimp only;rw[cq zaB];cases e;exact fin h2 (st.mono W) p
end
def GO{P:zah}{w:World}{K:zae}{mg:Str->Option Value}{base:Heap}{x:Str}{st:Stmt}{N ps:List Str}{k:Nat}(G:My.DefAt K mg x st ps)(S:FnScope N ps<|aF st):Fn P w K mg base x (k+1) ps λ_=>cb:=
 My.BodyOk.ok (k:=k) (N:=N) (λU J A outer s H vs Q E W ⟨F,ds,d,Y,r,e,z,q⟩=>nomatch z) G S (λvs H Q E ⟨F,ds,d,_,_,e,z,_⟩=>nomatch z)
def i6(n:Nat)(b:(List D->Option D)->Sv):Nat->List D->Option D
 |0=>λ_=>cb
 |m+1=>bE n<|b<|i6 n b m
end P
namespace My
open AutoSeq1 (wpAny_loadPart')
set_option tactic.hygienic true in
def IN(l:Addr)(items:Array Value)(n:Nat)(z:Option Addr)(N:Array<|Option Value) :
  Meets (zbz.«enumerate.__new__» ⟨[.type "enumerate",.ref l],[]⟩) (λ_ R s=>s.heap.get? l=bx {cls:=.type "tuple",dict:=z,data:=.seq items n,slots:=N} /\
   R (.ok<|.ret<|.ref (s.heap.push {cls:=.type "tuple_iterator",data:=.fields #[.ref l,.int 0 0]}).objs.size)
    {s with heap:=(s.heap.push {cls:=.type "tuple_iterator",data:=.fields #[.ref l,.int 0 0]}).push {cls:=.type "enumerate",data:=.fields #[.none,.bool ci,.ref s.heap.objs.size,zaT 0,.none,.none]} }):=
 .of_wp λprog w A R s h=>by
  obtain⟨J,g,d,tk,os⟩:=s;obtain⟨q,h⟩:=h;have G:=sub_enumerate;have F:zde (zb2 ⟨J,g,d,tk,os⟩) l items:=⟨_,q,rfl,n,rfl⟩
  wp_walk using zb1 q
  refine wpAny_stack_any λst=>zag ?_
  split
  .rename_i c _ _ _ _ _
   cases(c == Value.type "enumerate")
   .wp_walk using zb1 q,zbX F
    exact⟨_,rfl,h⟩
   .wp_walk using zb1 q,zbX F
    exact⟨_,rfl,h⟩
  .wp_walk using zb1 q,zbX F
   exact⟨_,rfl,h⟩
section
variable {prog:zah}{w:World}{A:zal}{E:Value->zab->Prop}{s:zab}
def IT(hl:SSq t s.heap l xs)
  (h:∀h',zbJ h' (s.heap.objs.size+1) s.heap.objs.size 0 .none->SIt t h' s.heap.objs.size l 0->(∀b o,s.heap.get? b=bx o->h'.get? b=bx o)->Q (.ref<|s.heap.objs.size+1) {s with heap:=h'}) :
  wpAny (model prog w) A (call (.type "enumerate") [.ref l]) Q E s:=by
 obtain⟨⟨cls,J,data,sl⟩,Y,hc,n,hd⟩:=hl;have U:cls=.type (sqN t):=hc;have N:data=.seq xs n:=hd;subst U N;have W:(s.heap.push<|IF t l).objs.size=s.heap.objs.size+1:=zbZ ..;have fin:zbJ ((s.heap.push<|IF t l).push {cls:=.type "enumerate",data:=.fields #[.none,.bool ci,.ref s.heap.objs.size,zaT 0,.none,.none]}) (s.heap.objs.size+1) s.heap.objs.size 0 .none:=by
  have:=zaF (s.heap.push<|IF t l) (o:={cls:=.type "enumerate",data:=.fields #[.none,.bool ci,.ref s.heap.objs.size,zaT 0,.none,.none]}) rfl;rw[W]at this;exact this
 have q:=h _ fin ⟨_,zam _<|zaF _ rfl,rfl,rfl⟩ λb o x=>zam _<|zam _ x
 cases t with
 |false=>
  refine callType_new F.called_enumerate (by decide) (F.typeCall_enumerate_1 _) (F.newCall_enumerate_1 _) (λG=>F.args_object_init_2 G _) F.entry_enumerate_new (meets_enumerate_newL l xs n J sl) ⟨Y,?_⟩;have z:(s.heap.push {cls:=.type "list_iterator",data:=.fields #[.ref l,.int 0 0]}).objs.size=s.heap.objs.size+1:=W;show _/\_;rw[z];exact⟨⟨_,fin,rfl⟩,q⟩
 |true=>
  refine callType_new F.called_enumerate (by decide) (F.typeCall_enumerate_1 _) (F.newCall_enumerate_1 _) (λG=>F.args_object_init_2 G _) F.entry_enumerate_new (IN l xs n J sl) ⟨Y,?_⟩;have z:(s.heap.push {cls:=.type "tuple_iterator",data:=.fields #[.ref l,.int 0 0]}).objs.size=s.heap.objs.size+1:=W;show _/\_;rw[z];exact⟨⟨_,fin,rfl⟩,q⟩
def JA{t:Bool}{e it l:Addr}{i:Nat}{items:Array Value}{x al:Value}{Q:Value->zab->Prop}
  (he:zbJ s.heap e it i al) (a1:SIt t s.heap it l i) (hl:SSq t s.heap l items) (hx:items[i]?=bx x) (am:e≠it)
  (hQ:∀h', IsEnumOut h' e it ((i:Int)+1) x s.heap.objs.size -> SIt t h' it l (i+1) ->
   h'.get? s.heap.objs.size=bx {cls:=.type "tuple",data:=.seq #[.int i s.toks,x]}->h'.objs.size=s.heap.objs.size+1->
   (∀b o,b≠e->b≠it->s.heap.get? b=bx o->h'.get? b=bx o)->Q (.ref s.heap.objs.size) {s with heap:=h',toks:=s.toks+1}) :
  wpAny (model prog w) A (zbz.«enumerate.__next__» ⟨[.ref e],[]⟩) (λfin s'=>∃v,fin=.done (.ret v)/\Q v s') E s:=by
 obtain⟨hp,g,d,tk,os⟩:=s;show wpAny _ _ (field (.ref e) 2 >>= _) _ _ _;refine zaa<|zaN he rfl (x:=.ref it) rfl ?_;refine zaa<|next_item a1 hl hx λW ak G=>?_;replace G:za6 it hp W:=G;have ab:zbJ W e it i al:=(G.2 e am).trans he;show wpAny _ _ (field (.ref e) 3 >>= _) _ _ ⟨W,g,d,tk,os⟩;refine zaa<|zaN ab rfl (x:=zaT i) rfl ?_;show wpAny _ _ (field (.ref e) 4 >>= _) _ _ ⟨W,g,d,tk,os⟩;refine zaa<|zaN ab rfl (x:=.none) rfl ?_;show wpAny _ _ (mkInt i >>= _) _ _ ⟨W,g,d,tk,os⟩;refine zaa<|wpAny_mkInt ?_;show wpAny _ _ (setField (.ref e) 3 (zaT<|(i:Int)+1) >>= _) _ _ ⟨W,g,d,tk+1,os⟩;refine zaa<|zbH ab (by simp) λae ac F=>?_;replace F:za6 e W ae:=F;replace ac:zbJ ae e it ((i:Int)+1) al:=ac;show wpAny _ _ (setField (.ref e) 4 .none >>= _) _ _ ⟨ae,g,d,tk+1,os⟩;refine zaa<|zbH ac (by simp) λY aa U=>?_;replace U:za6 e ae Y:=U;replace aa:zbJ Y e it ((i:Int)+1) al:=aa;show wpAny _ _ (newTuple [.int i tk,x] >>= _) _ _ ⟨Y,g,d,tk+1,os⟩;refine zaa<|wpAny_newTuple ?_;have ad:zbJ (Y.push {cls:=.type "tuple",data:=.seq #[.int i tk,x]}) e it ((i:Int)+1) al:=zam _ aa;generalize hh₄:Y.push {cls:=.type "tuple",data:=.seq #[.int i tk,x]}=h₄ at ad;have hsz:Y.objs.size=hp.objs.size:=by rw[U.1,F.1,G.1]
 have au:e<hp.objs.size:=zao he;have ax:h₄.get? hp.objs.size=bx {cls:=.type "tuple",data:=.seq #[.int i tk,x]}:=by rw[<- hh₄,<- hsz];exact zaF _ rfl
 have ar:h₄.objs.size=hp.objs.size+1:=by rw[<- hh₄,zbZ,hsz]
 have aw:∀b o,b≠e->b≠it->hp.get? b=bx o->h₄.get? b=bx o:=λb o af as hb=>by
  rw[<- hh₄];exact zam _<|U.extBut b o af<|F.extBut b o af<|G.extBut b o as hb
 have ap:SIt t h₄ it l<|i+1:=by
  rw[<- hh₄];exact ak.to λo q=>zam _<|U.extBut it o (zaI am)<|F.extBut it o (zaI am) q
 show wpAny _ _ (zcS (.ref e) >>= _) _ _ ⟨h₄,g,d,tk+1,os⟩;rw[hsz];clear hh₄ aa U ac F ab G ak hsz Y ae W;refine zaa ?_
 .unfold zcS
  refine zaa<|zaN ad rfl (x:=.none) rfl<|zag ?_;simp only[if_true];refine zaa<|zbU ?_;refine zaa<|zaN ad rfl (x:=al) rfl ?_;refine zaa<|zbH ad (by simp) λaj ag z=>?_;replace z:za6 e h₄ aj:=z;replace ag:zbJ aj e it ((i:Int)+1) x:=ag;show wpAny _ _ (zdV (.ref e) (.ref hp.objs.size) >>= _) _ _ ⟨aj,g,d,tk+1,os⟩;refine zaa ?_
  .unfold zdV
   refine zaa<|zbH ag (by simp) λan ai J=>?_;replace J:za6 e aj an:=J;replace ai:IsEnumOut an e it ((i:Int)+1) x hp.objs.size:=ai;refine zbH ai (by simp) λao ah N=>?_
   replace N:za6 e an ao:=N;replace ah:IsEnumOut ao e it ((i:Int)+1) x hp.objs.size:=ah;refine zaa<|zdU<|zag ⟨_,rfl,hQ ao ah ?_ ?_ ?_ ?_⟩
   .exact ap.to λo q=>N.extBut it o (zaI am)<|J.extBut it o (zaI am)<|z.extBut it o (zaI am) q
   .exact N.extBut _ _ (zbr au)<|J.extBut _ _ (zbr au)<|z.extBut _ _ (zbr au) ax
   .rw[N.1,J.1,z.1,ar]
   .exact λb o af as hb=>N.extBut b o af<|J.extBut b o af<|z.extBut b o af<|aw b o af as hb
def JP{t:Bool}{e it l:Addr}{i:Nat}{items:Array Value}{x z:Value}{Q:Option Value->zab->Prop}
  (J:zbJ s.heap e it i z) (q:SIt t s.heap it l i) (N:SSq t s.heap l items) (hx:items[i]?=bx x) (G:e≠it)
  (U:∀h', IsEnumOut h' e it ((i:Int)+1) x s.heap.objs.size -> SIt t h' it l (i+1) ->
   h'.get? s.heap.objs.size=bx {cls:=.type "tuple",data:=.seq #[.int i s.toks,x]}->h'.objs.size=s.heap.objs.size+1->
   (∀b o,b≠e->b≠it->s.heap.get? b=bx o->h'.get? b=bx o)->Q (bx<|.ref s.heap.objs.size) {s with heap:=h',toks:=s.toks+1}) :
  wpAny (model prog w) A (za9<|.ref e) Q E s:=by
 have hT:s.TypeIs (.ref e) "enumerate" := ⟨_,J,rfl⟩;unfold za9;exact zaa (zcR<|zbR (name:=zbn "__next__") hT zd0
  (zbo zd0 hT F.entry_enumerate_next
   (JA J q N hx G λh' a b c d k=>zag<|U h' a b c d k) (F.args_enumerate_next_1 _)))
def MP{t:Bool}{i:Nat}{items:Array Value}{Q:Option Value->zab->Prop}(Y:A.handled=cb)
  (J:zbJ s.heap e it i old) (z:SIt t s.heap it l i) (U:SSq t s.heap l items) (hx:items[i]?=cb)
  (hQ:∀h',Heap.ExtBut it s.heap h'->Q cb {s with heap:=h'}):wpAny (model prog w) A (za9<|.ref e) Q E s:=by
 have hT:s.TypeIs (.ref e) "enumerate" := ⟨_,J,rfl⟩;unfold za9;refine zaa (zcR<|zbR (name:=zbn "__next__") hT zd0
  (zbo zd0 hT F.entry_enumerate_next ?_<|F.args_enumerate_next_1 _))
 show wpAny _ _ (field (.ref e) 2 >>= _) _ _ _;refine zaa<|zaN J rfl (x:=.ref it) rfl ?_;refine zaa<|next_end Y z U hx λh' x q G=>?_;obtain⟨o,N,W⟩:=G;refine zaa<|zcE (T := "StopIteration") (b:=cf) ⟨o,N,W⟩ isSubtype_stop ?_;exact zag<|hQ _ q
end
def ItE(K:zae)(t:Bool)(l:Addr):It:=
 ⟨λi H => ∃xs, B8 K t H l xs /\ i<xs.length, λi H x H' => ∃p u, x = .ref p /\ H p = cb /\ H' = upd H p (.tup [.int (i:Int), u]) /\ ∀xs, B8 K t H l xs -> xs[i]? = bx u,
  λi H=>∃xs,B8 K t H l xs/\xs.length<=i⟩
def IZ{P:zah}{w:World}{K:zae}{ab:List Expr}{x1}{tp:Pos}(t:Bool){e it l:Addr}(ac:e≠it) :
  Turn P w K (.Tuple ab x1 tp) (ItE K t l) [e,it] e (λi h=>(∃G,zbJ h e it (i:Nat) G)/\SIt t h it l i) where
 mem:=by simp
 obj:=by
  rintro i h ⟨⟨G,J⟩,⟨o1,e1,_,d1⟩⟩ c z;simp only[za2,za5,or_false]at z;rcases z with rfl|rfl
  .exact⟨_,J,λv q=>by cases q⟩
  .exact⟨o1,e1,λv q=>by rw[d1]at q;cases q⟩
 keep:=λi h h' ⟨⟨G,J⟩,U⟩ k=>⟨⟨G,k e (by simp) _ J⟩,U.to λo q=>k it (by simp) o q⟩
 item:=by
  intro X hP hw hK z i pins s σ H E I hf st hg;subst hP hw hK;obtain⟨⟨G,J⟩,U⟩:=st;obtain⟨xs,q1,zA⟩:=hg;obtain⟨Y,r1,p1⟩:=iZ I q1;have e1:xs[i]?=bx xs[i]:=by simp[zA]
  obtain⟨u,eu,ru⟩:=r1.get e1;refine JP J U p1 (x:=u) (by simpa using eu) ac λh' a1 a2 a3 a4 N=>⟨_,rfl,?_⟩
  refine wpAny_letOwnedTupleGo_enum (s:={s with heap:=h',toks:=s.toks+1}) a1 λh2 af sb=>?_
  have zz:∀c,c∈[e,it]->c<s.heap.objs.size:=λc z=>by
   simp only[za2,za5,or_false]at z;rcases z with rfl|rfl
   .exact zao J
   .obtain⟨o,q,_⟩:=U;exact zao q
  have W:∀c o,c≠e->h'.get? c=bx o->h2.get? c=bx o:=λc o z q=>sb.extBut _ _ z q
  have I1:Inv X pins σ H {s with heap:=h2,toks:=s.toks+1}:=iH I hf λc o z q=>by
   simp only[za2,za5,or_false,not_or]at z;exact W c o z.1<|N c o z.1 z.2 q
  have F:H s.heap.objs.size=cb:=I.fresh;have aj:h2.get? s.heap.objs.size=bx {cls:=.type "tuple",data:=.seq #[.int i s.toks,u]}:=W _ _ (zbr<|zz e<|by simp) a3;have I2:Inv X pins σ (upd H s.heap.objs.size<|.tup [.int (i:Int),xs[i]]) {s with heap:=h2,toks:=s.toks+1}:=by
   have am:HOk X.prog X.w (upd H s.heap.objs.size<|.tup [.int (i:Int),xs[i]]) h2:=λc ob q=>by
    by_cases z:c=s.heap.objs.size
    .subst z;rw[aI]at q;cases q
     exact⟨by show 2<=zai;decide,[.int i s.toks,u],.cons ⟨_,rfl⟩<|.cons ru .nil,_,aj,rfl,0,rfl,rfl⟩
    .rw[aG z]at q
     exact(I1.hok c ob q).stay (λ_ _ _ q=>q) (λd q=>by rw[aG<|bG q F];exact q) λd ah q=>by rw[aG<|bG q F];exact q
   refine I.call' (s':={s with heap:=h2,toks:=s.toks+1}) (ch:=[e,it]) rfl ⟨λc o q _ _ hx=>?_,λc o q _ _ hx=>⟨o.slots,?_⟩,λc o q n hx=>by rw[aG<|zaE<|zao q];exact n,λc o q hx=>⟨o,?_⟩,λc ah q=>by rw[aG<|bG q F];exact q,λc o' u' q=>by rw[aG<|bG q F];exact q,λc ps q=>⟨#[],by rw[aG<|bG q F,q];simp⟩⟩ am I.bare λb hb=>?_
   .simp only[za2,za5,or_false,not_or]at hx
    exact W c o hx.1<|N c o hx.1 hx.2 q
   .simp only[za2,za5,or_false,not_or]at hx
    exact W c o hx.1<|N c o hx.1 hx.2 q
   .simp only[za2,za5,or_false,not_or]at hx
    exact W c o hx.1<|N c o hx.1 hx.2 q
   .obtain⟨_,f1,_,f3,f4,f5⟩:=hf b hb
    exact⟨f3,f1,f4,f5⟩
  refine⟨.ref s.heap.objs.size,_,I2,rfl,⟨_,_,rfl,F,rfl,λax g1=>by rw[<- xW I q1 g1];exact e1⟩,⟨⟨_,af⟩,a2.to λo q=>W _ o (zaI ac) q⟩,λc z=>?_⟩;rw[aG<|zaE<|zz c z];exact(hf c z).1
 done:=by
  intro X hP hw hK z i pins s σ H E I hf st hg;subst hP hw hK;obtain⟨⟨G,J⟩,U⟩:=st;obtain⟨xs,q1,an⟩:=hg;obtain⟨Y,r1,p1⟩:=iZ I q1;have n1:=r1.length;refine MP (I.ok.hd z) J U p1 (by simp;lia) λh' N=>⟨rfl,iH (t':=s.toks) I hf λc o z q=>?_⟩
  simp only[za2,za5,or_false,not_or]at z;exact N c o z.2 q
 self:=λ_ _ _ _ _ st h=>let ⟨⟨_,J⟩,_⟩:=st;wpAny_pyIter_enum J h
def boot_enumerate:zaL "enumerate" = bx (.type "enumerate"):=by first|rfl|decide +kernel
def qaK(K:zae)(ta:TA):TI:=λσ H R=>ta σ H λvs H1=>∃t l xs,vs=[.ref l]/\B8 K t H1 l xs/\R (ItE K t l) H1
def SW{X:Cx}{z:List Expr}{x1}{tp:Pos}{a:Expr}{ta:TA}{p pos:Pos}(hg:Gl X "enumerate")(hm:X.mg "enumerate" = cb)(ha:PA X [a] ta)(hs:zaf [a] X.env=[(ci,eval a X.env)]:=by rfl) :
  PI X (.Tuple z x1 tp) (.Call (.Name "enumerate" p) [a] [] pos) (qaK X.K ta):=by
 intro pins s σ H R I h;refine Call_<|lS I hg hm boot_enumerate<|zc7 (cP (ha pos pins s σ H _ I h) λus J ⟨vs,H1,F,r1,U⟩=>?_) (by rw[hs];rfl) rfl;obtain⟨t,l,xs,rfl,U,q⟩:=U;obtain⟨u,rfl,ru⟩:=vals1 r1;cases ru;obtain⟨W,_,p1⟩:=iZ F U;refine IT p1 λh' Y N k=>?_
 refine wpAny_pyIter_enum Y ?_;have D:J.heap.objs.size+1≠J.heap.objs.size:=by lia
 refine⟨_,[_,_],_,_,H1,rfl,F.kept (t':=J.toks) k,IZ t D,⟨⟨_,Y⟩,N⟩,λc G=>F.fpOk ?_<|F.hok.fresh ?_,q⟩
 .simp only[za2,za5,or_false]at G
  rcases G with rfl|rfl <;> lia
 .simp only[za2,za5,or_false]at G
  rcases G with rfl|rfl <;> lia
end My
namespace P
def fY:Nat->List D->List D
 |_,[]=>[]
 |k,x::xs=>.tup [.int (k:Int),x]::fY (k+1) xs
def HL(f:Lv):Lv:=λρ=>(f ρ).bind λds=>match ds with
 |[a]=>(gJ a).map<|fY 0
 |_=>cb
theorem gY:∀ {xs:List D} {k i:Nat} {d:D},(fY k xs)[i]?=bx d->∃x,xs[i]?=bx x/\d=.tup [.int ((k+i:Nat):Int),x]
 |[],k,i,d,h=>by simp[fY]at h
 |x::xs,k,0,d,h=>by simp[fY]at h;exact⟨x,rfl,h.symm⟩
 |x::xs,k,i+1,d,h=>by
  obtain⟨y,q,z⟩:=gY (xs:=xs) (k:=k+1) (i:=i) (by simpa[fY]using h);exact⟨y,by simpa using q,by rw[z];congr 4;lia⟩
theorem fE:∀(xs:List D) (k:Nat),(fY k xs).length=xs.length
 |[],_=>rfl
 |x::xs,k=>by simp[fY,fE xs]
set_option tactic.hygienic true in
def LK{J}(hg:Gl X "enumerate")(hm:X.mg "enumerate" = cb)(ha:wW X O [a] f)(hs:zaf [a] X.env=[(ci,eval a X.env)]:=by rfl) :
  PDI X O (.Tuple elts J tp) (.Call (.Name "enumerate" p) [a] [] pos) (HL f):=PI.mono (My.SW hg hm ha hs) λσ H R ⟨H0,A0,A,E,ρ,items,st,e,q⟩=>by
 obtain⟨ds,e1,e⟩:=bind_some e;refine⟨H0,A0,A,E,ρ,ds,st,e1,λvs H1 J r1=>?_⟩;split at e
 case h_2=>cases e
 rename_i da;obtain⟨xs,e2,rfl⟩:=map_some e;obtain⟨v,rfl,r2⟩:=r1.one;obtain⟨t1,G,us,rfl,q1,_,k1⟩:=yA (K:=X.K) e2 r2;refine⟨t1,G,us,rfl,q1,q _ H1 [.rep da<|.ref G] J (λp hp=>?_) ?_⟩
 .rw[List.mem_singleton.mp hp];exact r2
 .intro A' H' lv W i
  have a1:Rep A' H' da<|.ref G:=W (.rep da<|.ref G)<|zar ..;obtain⟨z,g1,F⟩:=k1 A' H' a1;refine⟨λhi=>⟨z,g1,by rw[F.length];rw[fE]at hi;exact hi⟩,λd hd=>?_⟩;obtain⟨x,ex,rfl⟩:=gY hd;obtain⟨u,N,ru⟩:=F.get' ex;refine⟨⟨z,g1,(List.getElem?_eq_some_iff.mp N).1⟩,λx' H2 ⟨p,u',e4,n,e5,Y⟩=>?_⟩;subst e4 e5;have U:=Y z g1;rw[N]at U;cases U;rw[zaU];exact⟨Ext.new n,.tup aI<|.cons (.int _)<|.cons (ru.ext<|Ext.new n) .nil⟩
@[simp] theorem q_enum:HL f ρ=(f ρ).bind λds=>match ds with
 |[a]=>(gJ a).map<|fY 0
 |_=>cb:=rfl
end P
namespace P
open L2
structure Ro where
 j:Int
 k:Int
 a:Int
 b:Int
 p:Int
structure GR(M many:Int)(rs:List Ro):Prop where
 len:rs.length<=12
 jk:∀r∈rs,0<=r.j/\r.j<r.k/\r.k<many
 ab:∀r∈rs,(0<=r.a/\r.a<M)/\0<=r.b/\r.b<M
 pr:∀r∈rs,0<=r.p/\r.p<=10^30
def lX(rs:List Ro)(n:Int):Option Ro:=if 0<=n then rs[n.toNat]? else cb
def qB(h:lX rs n=bx r):r∈rs:=by
 unfold lX at h;split at h
 .exact zax h
 .cases h
set_option tactic.hygienic true in
def OU(h:lX rs n=bx r):0<=n/\n<(rs.length:Int):=by
 unfold lX at h;split at h
 .rename_i h0
  have:=(List.getElem?_eq_some_iff.mp h).1
  lia
 .cases h
def WS(h0:0<=n)(h:n<(rs.length:Int)):∃r,lX rs n=bx r:=by
 unfold lX;rw[ck h0];have:n.toNat<rs.length:=by lia
 exact⟨rs[n.toNat],by simp[this]⟩
def gw(rs:List Ro):Int->List Int->Option Int
 |at_,[]=>bx at_
 |at_,n::w=>(lX rs n).bind λr=>if r.j=at_ then gw rs r.k w else cb
theorem nS:∀ {at_:Int} {v w:List Int},gw rs at_ (v++w)=(gw rs at_ v).bind λe=>gw rs e w
 |at_,[],w=>rfl
 |at_,n::v,w=>by
  show((lX rs n).bind λr=>if r.j=at_ then gw rs r.k (v++w)else cb)=_;cases e:lX rs n with
  |none=>simp[gw,e]
  |some r=>
   by_cases h:r.j=at_
   .simp[gw,e,h,nS (v:=v) (w:=w)]
   .simp[gw,e,h]
def SY(h:gw rs at_ w=bx e)(q:lX rs n=bx r)(z:r.j=e):gw rs at_ (w++[n])=bx r.k:=by
 rw[nS,h];simp[gw,q,z]
theorem yR:∀ {at_ e:Int} {w:List Int},gw rs at_ w=bx e->∀n∈w,∃r,lX rs n=bx r
 |at_,e,[],_,n,h=>nomatch h
 |at_,e,m::w,h,n,hn=>by
  unfold gw at h;cases er:lX rs m with
  |none=>rw[er]at h;cases h
  |some r=>
   rw[er]at h;simp only[zcT]at h;split at h
   .rcases List.mem_cons.mp hn with z|z
    .rw[z];exact⟨r,er⟩
    .exact yR h n z
   .cases h
theorem jV(g:GR M many rs):∀ {at_ e:Int} {w:List Int},gw rs at_ w=bx e->at_+(w.length:Int)<=e
 |at_,e,[],h=>by cases h;simp
 |at_,e,m::w,h=>by
  unfold gw at h;cases er:lX rs m with
  |none=>rw[er]at h;cases h
  |some r=>
   rw[er]at h;simp only[zcT]at h;split at h
   .have:=jV g h
    have:=(g.jk r<|qB er).2.1;simp only[zaA];lia
   .cases h
def f7(rs:List Ro)(w:List Int):Int:=(w.map λn=>match lX rs n with|some r=>r.p|none=>0).sum
def eN:f7 rs (v++w)=f7 rs v+f7 rs w:=by
 unfold f7;rw[zaR,List.sum_append]
theorem VZ(g:GR M many rs):∀ {at_ e:Int} {w:List Int},gw rs at_ w=bx e->at_<many->e<many
 |at_,e,[],h,hl=>by cases h;exact hl
 |at_,e,m::w,h,hl=>by
  unfold gw at h;cases er:lX rs m with
  |none=>rw[er]at h;cases h
  |some r=>
   rw[er]at h;simp only[zcT]at h;split at h
   .exact VZ g h (g.jk r<|qB er).2.2
   .cases h
def fl{α:Type}(h:Nat->Ro->List α):Nat->List Ro->List α
 |_,[]=>[]
 |m,r::rs=>h m r++fl h (m+1) rs
def sg(q:Nat->Ro->Int):Nat->List Ro->Int
 |_,[]=>0
 |m,r::rs=>q m r+sg q (m+1) rs
theorem yU{F:Type}{h:Nat->Ro->List F}{a:F}:∀ {rs:List Ro} {m:Nat},a∈fl h m rs↔∃i r,rs[i]?=bx r/\a∈h (m+i) r
 |[],m=>by simp[fl]
 |r::rs,m=>by
  unfold fl;rw[List.mem_append,yU (rs:=rs) (m:=m+1)];constructor
  .rintro(z|⟨i,q,e,z⟩)
   .exact⟨0,r,rfl,z⟩
   .exact⟨i+1,q,by simpa using e,by rw[show m+(i+1)=m+1+i by lia];exact z⟩
  .rintro⟨i,q,e,z⟩
   cases i with
   |zero=>simp at e;subst e;exact .inl z
   |succ i=>exact .inr ⟨i,q,by simpa using e,by rw[show m+1+i=m+(i+1) by lia];exact z⟩
theorem v7{q:Type}{h:Nat->Ro->List q}:∀ {a b:List Ro} {m:Nat},fl h m (a++b)=fl h m a++fl h (m+a.length) b
 |[],b,m=>by simp[fl]
 |r::a,b,m=>by
  show h m r++fl h (m+1) (a++b)=(h m r++fl h (m+1) a)++_;rw[v7,List.append_assoc,zaA,show m+1+a.length=m+(a.length+1) by lia]
def RU{q:Type}{h:Nat->Ro->List q}{rs:List Ro}{i:Nat}{r:Ro}(e:rs[i]?=bx r):fl h 0 (rs.take<|i+1)=fl h 0 (rs.take i)++h i r:=by
 have hi:i<rs.length:=(List.getElem?_eq_some_iff.mp e).1;rw[zdh,e,v7];have:(rs.take i).length=i:=by simp;lia
 simp[this,fl]
theorem FH{J:Type}{R:J->J->Prop}{h:Nat->Ro->List J}:∀ {rs:List Ro} {m:Nat},(∀i r,rs[i]?=bx r->(h (m+i) r).Pairwise R)->(∀i j r q,i<j->rs[i]?=bx r->rs[j]?=bx q->∀a∈h (m+i) r,∀b∈h (m+j) q,R a b)->(fl h m rs).Pairwise R
 |[],m,_,_=>zdJ
 |r::rs,m,h1,h2=>by
  unfold fl;rw[List.pairwise_append];refine⟨h1 0 r rfl,FH (rs:=rs) (m:=m+1) (λi q e=>?_) λi j q G U e N a F b z=>?_,λa F b z=>?_⟩
  .have:=h1 (i+1) q (by simpa using e)
   rw[show m+1+i=m+(i+1) by lia];exact this
  .rw[show m+1+i=m+(i+1) by lia]at F
   rw[show m+1+j=m+(j+1) by lia]at z;exact h2 (i+1) (j+1) q G (by lia) (by simpa using e) (by simpa using N) a F b z
  .obtain⟨j,q,e,z⟩:=yU.mp z
   rw[show m+1+j=m+(j+1) by lia]at z;exact h2 0 (j+1) r q (by lia) rfl (by simpa using e) a F b z
def bU(rs:List Ro)(k:Int):Nat->Int->List (List Int)
 |0,_=>[]
 |n+1,x=>if x=k then [[]]else fl (λi r=>if r.j=x/\r.k<=k then(bU rs k n r.k).map λw=>(i:Int)::w else []) 0 rs
def HD{rs:List Ro}{i:Nat}:lX rs (i:Int)=rs[i]?:=by unfold lX;rw[ck<|by lia];simp
set_option tactic.hygienic true in
theorem iL{rs:List Ro}{k:Int}:∀ {n:Nat} {x:Int} {w:List Int},w∈bU rs k n x->gw rs x w=bx k
 |0,x,w,h=>nomatch h
 |n+1,x,w,h=>by
  unfold bU at h;split at h
  .rename_i e
   rw[List.mem_singleton.mp h,e];rfl
  .obtain⟨i,r,e,hw⟩:=yU.mp h
   rw[zaU]at hw;split at hw
   .rename_i hc
    obtain⟨v,q,rfl⟩:=List.mem_map.mp hw;have:=iL q;simp[gw,HD,e,hc.1,this]
   .cases hw
set_option tactic.hygienic true in
theorem tJ(g:GR M many rs):∀ {n:Nat} {x:Int} {w:List Int},k-x<(n:Int)->gw rs x w=bx k->w∈bU rs k n x
 |0,x,w,hn,h=>by have:=jV g h;simp at hn;lia
 |n+1,x,w,hn,h=>by
  unfold bU;cases w with
  |nil=>cases h;rw[ck rfl];exact List.mem_singleton.mpr rfl
  |cons m v=>
   have q:=jV g h;simp only[zaA]at q;rw[cq<|by lia];unfold gw at h;cases er:lX rs m with
   |none=>rw[er]at h;cases h
   |some r=>
    rw[er]at h;simp only[zcT]at h;split at h
    .rename_i hj
     have G:=OU er;obtain⟨i,rfl⟩:∃i:Nat,m=(i:Int):=⟨m.toNat,by lia⟩;rw[HD]at er;have z:=(g.jk r<|zax er).2.1;have F:=jV g h;refine yU.mpr ⟨i,r,er,?_⟩;rw[zaU,ck ⟨hj,by lia⟩];exact List.mem_map.mpr ⟨v,tJ g (by simp at hn;lia) h,rfl⟩
    .cases h
theorem oH{rs:List Ro}{k:Int}:∀(n:Nat) (x:Int),(bU rs k n x).Pairwise λa b=>HT.lexLt a b=cf
 |0,x=>zdJ
 |n+1,x=>by
  unfold bU;split
  .exact List.pairwise_singleton _ _
  .refine FH (λi r _=>?_) (λi j r G F _ _ a z b q=>?_)
   .split
    .rw[zeH]
     refine(oH n r.k).imp λ{a b} h=>?_
     show(if _=_ then HT.lexLt a b else _)=cf;rw[ck rfl];exact h
    .exact zdJ
   .split at z
    .split at q
     .obtain⟨u,_,rfl⟩:=List.mem_map.mp z
      obtain⟨v,_,rfl⟩:=List.mem_map.mp q;show(if _=_ then HT.lexLt u v else _)=cf;rw[cq<|by lia];exact decide_eq_true<|by lia
     .cases q
    .cases z
theorem wD:∀a:List Int,HT.lexLt a a=ci
 |[]=>rfl
 |x::a=>by show(if x=x then HT.lexLt a a else _)=ci;rw[ck rfl];exact wD a
def CP(n:Nat)(x:Int):(bU rs k n x).Nodup:=
 (oH n x).imp λ{a b} h e=>by rw[e,wD]at h;cases h
theorem rZ{z:Type}[DecidableEq z]:∀ {l K:List z},l.Nodup->(∀x∈l,x∈K)->l.length<=K.length
 |[],K,_,_=>zaM _
 |a::l,K,h,hs=>by
  have q:=hs a<|zar ..;have h2:=List.nodup_cons.mp h;have:=rZ (l:=l) (K:=K.erase a) h2.2 λx hx=>(List.mem_erase_of_ne λe=>h2.1<|by rw[<- e];exact hx).mpr<|hs x<|zaq _ hx
  rw[List.length_erase_of_mem q]at this;have:=List.length_pos_of_mem q;simp only[zaA];lia
theorem jS{z:Type}{h:Nat->Ro->List z}{B:Nat}:∀ {rs:List Ro} {m:Nat},(∀i r,rs[i]?=bx r->(h (m+i) r).length<=B)->(fl h m rs).length<=rs.length*B
 |[],m,_=>by simp[fl]
 |r::rs,m,hb=>by
  unfold fl;rw[zbk,zaA,Nat.succ_mul];have h1:=hb 0 r rfl;have h2:=jS (h:=h) (B:=B) (rs:=rs) (m:=m+1) λi q e=>by
   have:=hb (i+1) q (by simpa using e);rw[show m+1+i=m+(i+1) by lia];exact this
  simp only[Nat.add_zero]at h1
  lia
set_option tactic.hygienic true in
theorem mL{M many:Int}{rs:List Ro}(g:GR M many rs){k:Int}:∀(n:Nat) (x:Int) (d:Nat),k-x<=(d:Int)->(bU rs k n x).length<=12^d
 |0,x,d,_=>zaM _
 |n+1,x,d,hd=>by
  unfold bU;split
  .exact Nat.one_le_pow _ _<|by decide
  .by_cases hx:x<k
   .obtain⟨e,rfl⟩:∃e,d=e+1:=⟨d-1,by lia⟩
    refine zaO (jS (B:=12^e) λi r er=>?_) ?_
    .split
     .rename_i hc
      rw[zak];have q:=g.jk r<|zax er;exact mL g n r.k e<|by lia
     .exact zaM _
    .rw[Nat.pow_succ,Nat.mul_comm]
     exact Nat.mul_le_mul_left _ g.len
   .refine zaO (jS (B:=0) λi r er=>?_) (by simp)
    split
    .rename_i hc
     have q:=g.jk r<|zax er
     lia
    .exact zaM _
end P
namespace P
def cF{n:Nat}(h:n<=1000000):bY [.int (n:Int)]=bx (aQ 0 1 n):=by
 show(if pP (n:Int)then _ else _)=_;rw[ck<|by simp only[pP,zaV,decide_eq_true_eq];lia];simp
def eI(h0:0<=y)(h:y<=1000000):bY [.int y]=bx (aQ 0 1 y.toNat):=by
 show(if pP y then _ else _)=_;rw[ck<|by simp only[pP,zaV,decide_eq_true_eq];lia]
def NA(h:v.length+w.length<=1000000):dR (tupI v) (tupI w)=bx (tupI<|v++w):=by
 unfold tupI;rw[q_addAT,ck<|by simp only[aZ,zak];exact decide_eq_true h,zaR]
def kW(r:Ro):D:=.tup [.int r.j,.int r.k,.int r.a,.int r.b,.int r.p]
def yV(h:lX rs n=bx r):gC (rs.map kW) n=bx (kW r):=by
 have q:=OU h;obtain⟨j,rfl⟩:∃j:Nat,n=(j:Int):=⟨n.toNat,by lia⟩;unfold lX at h;rw[ck<|by lia]at h;refine bS ?_;rw[zaD];simp at h;rw[h];rfl
def at0:gC (a::l) 0=bx a:=bS (j:=0) rfl
def at1:gC (a::b::l) 1=bx b:=bS (j:=1) rfl
def at2:gC (a::b::c::l) 2=bx c:=bS (j:=2) rfl
def qf:gC (a::b::c::d::l) 3=bx d:=bS (j:=3) rfl
def at4:gC (a::b::c::d::e::l) 4=bx e:=bS (j:=4) rfl
def qa7:aJ (kW r) (.int 0)=bx (.int r.j):=by simp[kW,at0]
def qaZ:aJ (kW r) (.int 1)=bx (.int r.k):=by simp[kW,at1]
def qcb:aJ (kW r) (.int 4)=bx (.int r.p):=by simp[kW,at4]
theorem jT{K:Nat}{f:Ev}{rest:List (Option D)}{F:Int->D}(h:∀k:Int,0<=k->k<(K:Int)->f (bx (.int k)::rest)=bx (F k)):∀(l:List Nat) (o:Option D),(∀k∈l,k<K)->bD (aS 0) fN f (l.map λ(k:Nat)=>D.int (k:Int)) (o::rest)=bx (l.map λ(k:Nat)=>F (k:Int))
 |[],o,_=>rfl
 |k::l,o,hl=>by
  have ih:=jT h l (bx<|.int (k:Int)) λm z=>hl m<|zaq _ z
  have q:=h (k:Int) (by lia) (by have:=hl k<|zar ..;lia);simp[bD,q,ih]
theorem rF:∀(ws:List<|List Int) (o:Option D),(∀w∈ws,w.length<=1000)->bD (aS 0) fN (bB dR (fA<|aC (aD 1) aY)<|aD 0) (ws.map tupI) [o,bx<|.int t]=bx ((ws.map λw=>t::w).map tupI)
 |[],o,_=>rfl
 |w::ws,o,h=>by
  have ih:=rF (t:=t) ws (bx<|tupI w) λv F=>h v<|zaq _ F
  have q:=NA (v:=[t]) (w:=w) (by have:=h w<|zar ..;simp;lia);have z:D.tup [.int t]=tupI [t]:=rfl;simp only[List.singleton_append]at q;simp[-zav,bD,z,q,ih]
end P
namespace My
def qbj(a:Bool):String:=if a=cf then "str_ascii_iterator" else "str_iterator"
def ItS(x:Str):It:=⟨λi H=>i<x.cps.size,λi H y H'=>H'=H/\∃c,x.cps[i]?=bx c/\y=.str ⟨#[c]⟩,λi H=>x.cps.size<=i⟩
def MN{P:zah}{w:World}{K:zae}{tg:Expr}(a:Bool)(x:Str)(t:Tok)(it:Addr):Turn P w K tg (ItS x) [it] it (λi h=>h.IsStrIter it (qbj a) x t i) where
 mem:=by simp
 obj:=λi h st b q=>by
  have e:b=it:=by simpa using q
  subst e;obtain⟨o,e,c,d⟩:=st;exact⟨o,e,λv z=>by rw[d]at z;cases z⟩
 keep:=λi h h' st k=>let ⟨o,ho,r⟩:=st;⟨o,k it (by simp) o ho,r⟩
 item:=by
  intro X hP hw hK hc i pins s σ H E I J st hg;subst hP hw hK;obtain⟨G,f1,f2,U,W,N⟩:=J it (by simp);have hi:i<x.cps.size:=hg;have hx:x.cps[i]?=bx x.cps[i]:=by simp[hi]
  cases a with
  |true=>
   refine wpAny_pyNext_ascii_item st hx λh' F sb=>?_
   have Y:Inv X pins σ H {s with heap:=h',toks:=s.toks+1}:=I.turned (t':=s.toks+1) (λb o q e=>(sb.2 b q).trans e) G f1 U W N;obtain⟨o,e,c,d⟩:=id F;exact⟨_,rfl,uE (s:={s with heap:=h',toks:=s.toks+1}) e c d (by decide) ⟨.str ⟨#[x.cps[i]]⟩,H,Y,⟨_,rfl⟩,⟨rfl,_,hx,rfl⟩,F,λb q=>(J b q).1⟩⟩
  |false=>
   refine wpAny_pyNext_wide_item st hx λh' F sb=>?_
   have Y:Inv X pins σ H {s with heap:=h',toks:=s.toks+1}:=I.turned (t':=s.toks+1) (λb o q e=>(sb.2 b q).trans e) G f1 U W N;obtain⟨o,e,c,d⟩:=id F;exact⟨_,rfl,uE (s:={s with heap:=h',toks:=s.toks+1}) e c d (by decide) ⟨.str ⟨#[x.cps[i]]⟩,H,Y,⟨_,rfl⟩,⟨rfl,_,hx,rfl⟩,F,λb q=>(J b q).1⟩⟩
 done:=by
  intro X hP hw hK hc i pins s σ H E I J st hg;subst hP hw hK;obtain⟨G,f1,f2,U,W,N⟩:=J it (by simp);have hi:x.cps.size<=i:=hg;have hx:x.cps[i]?=cb:=by simp[hi]
  cases a with
  |true=>exact wpAny_pyNext_ascii_end (I.ok.hd hc) st hx λh' eb=>⟨rfl,I.turned (t':=s.toks) (λb o q e=>eb b o q e) G f1 U W N⟩
  |false=>exact wpAny_pyNext_wide_end (I.ok.hd hc) st hx λh' eb=>⟨rfl,I.turned (t':=s.toks) (λb o q e=>eb b o q e) G f1 U W N⟩
 self:=λ_ _ _ _ _ st h=>by
  cases a with
  |true=>exact wpAny_pyIter_striter_ascii st h
  |false=>exact wpAny_pyIter_striter_wide st h
def qbT(tl:TE):TI:=λσ H R=>tl σ H λx H1=>∃y,x=.str y/\R (ItS y) H1
section
variable {X:Cx}{tg:Expr}
def XF{l:Expr}{tl:TE}(J:PE X l tl):PI X tg l<|qbT tl:=by
 intro pins s σ H R I h;refine cP (J pins s σ H _ I h) λv z ⟨x,H1,F,r1,N⟩=>?_
 obtain⟨y,rfl,q⟩:=N;obtain⟨t,rfl⟩:=r1;have fin:∀a:Bool,PIE X pins σ tg R (.ref z.heap.objs.size) {z with heap:=z.heap.push {cls:=.type<|qbj a,data:=.fields #[.str y t,.int 0 0]} }:=λa=>by
  refine⟨z.heap.objs.size,[z.heap.objs.size],_,_,H1,rfl,F.kept (t':=z.toks) λb o e=>zam _ e,MN a y t _,⟨_,zaF _ rfl,rfl,rfl⟩,λb G=>?_,q⟩;have e:b=z.heap.objs.size:=by simpa using G
  subst e;exact F.fpOk (zaj _)<|F.hok.fresh<|zaj _
 cases ha:y.cps.all (·<128)
 .exact wpAny_pyIter_wide ha<|fin ci
 .exact wpAny_pyIter_ascii ha<|fin cf
def JS:OpR X (zaC .LtE) λx y H Q=>∃i j,x=.str i/\y=.str j/\Q (.bl<|!decide (j.cps.toList<i.cps.toList)) H:=by
 intro pins s σ H x y v u Q I z F h;obtain⟨i,j,rfl,rfl,q⟩:=h;obtain⟨t,rfl⟩:=z;obtain⟨t',rfl⟩:=F;exact PySem.P.le_str ⟨.bl _,H,I,rfl,q⟩
theorem BO:∀ {ss:List Str} {its:List Value},Vals (ss.map V.str) its->StrsAre its ss
 |[],_,.nil=>.nil
 |x::ss,_,.cons r t=>by
  obtain⟨k,rfl⟩:=r;exact .cons x k<|BO t
def rJoin(K:zae):V->List V->Hp->VK->Prop:=λx vs H Q=>∃(sep:Str) (p:Addr) (ss:List Str),x=.str sep/\vs=[.ref p]/\SqL K H p (ss.map V.str)/\(ss.map (·.length)).sum+ss.length*sep.length<=16777216/\Q (.str<|Txt.join sep ss) H
def SV:MtM X "str.join"<|rJoin X.K:=by
 intro pins s σ H x vs v us Q I G J h;obtain⟨sep,p,ss,rfl,rfl,F,N,q⟩:=h;obtain⟨t,rfl⟩:=G;obtain⟨u,rfl,W⟩:=J.one;cases W;obtain⟨z,U,Y,_⟩:=I.list F;exact join_list (items:=z.toArray) Y.isList (by simpa using BO U) N λt' k=>⟨.str<|Txt.join sep ss,H,I.kept (t':=k) λ_ _ e=>e,⟨_,rfl⟩,q⟩
end
end My
namespace P
section
variable {X:Cx}{O O':List Nat}{L:Lp}
def K6:List D->Option (List Bool)
 |[]=>bx []
 |.bl b::l=>(K6 l).map (b::·)
 |_=>cb
theorem sW:∀ {ds:List D} {ns:List Bool} {vs:List V},K6 ds=bx ns->RepL A H ds vs->vs=ns.map V.bl
 |[],_,_,e,.nil=>by cases e;rfl
 |d::ds,ns,_,e,.cons h t=>by
  cases d with
  |bl b=>
   obtain⟨m,q,rfl⟩:=map_some e;cases RepB.bl_inv (.of h);rw[sW q t];rfl
  |_=>exact nn e
def QC:List D->Option (List Str)
 |[]=>bx []
 |.str b::l=>(QC l).map (b::·)
 |_=>cb
theorem A9:∀ {ds:List D} {ns:List Str} {vs:List V},QC ds=bx ns->RepL A H ds vs->vs=ns.map V.str
 |[],_,_,e,.nil=>by cases e;rfl
 |d::ds,ns,_,e,.cons h t=>by
  cases d with
  |str b=>
   obtain⟨m,q,rfl⟩:=map_some e;cases RepB.str_inv (.of h);rw[A9 q t];rfl
  |_=>exact nn e
theorem vV:∀bs:List Str,QC (bs.map .str)=bx bs
 |[]=>rfl
 |b::bs=>by rw[zan,QC,vV bs];rfl
def HN:D->D->Option D
 |.str sep,.lst l=>(QC l).bind λss=>if(ss.map (·.length)).sum+ss.length*sep.length<=16777216 then bx (.str<|Txt.join sep ss)else cb
 |_,_=>cb
set_option tactic.hygienic true in
def SM(J:PB X O o fo)(U:PB X O e fe)(W:∀ {to:TE} {t:TA},PE X o to->PA X [e] t->PE X (.Call (.Attribute o "join" apos) [e] [] cpos) (tBM X.K "str" (My.rJoin X.K) to t))(hs:zaf [e] X.env=(ci,eval e X.env)::zaf [] X.env:=by rfl):PD X O (.Call (.Attribute o "join" apos) [e] [] cpos)<|bB HN fo fe:=
 PE.mono (W J<|BM U E7 hs) <| by
  rintro σ H Q ⟨H0,A0,A,E,ρ,d,st,e,q⟩;obtain⟨x,ex,e⟩:=bind_some e;obtain⟨y,Y,e⟩:=bind_some e;refine⟨H0,A0,A,E,ρ,x,st,ex,λv H1 G r1=>?_⟩;unfold HN at e;split at e
  .rename_i sep l _
   obtain⟨ss,es,e⟩:=bind_some e;by_cases z:(ss.map (·.length)).sum+ss.length*sep.length<=16777216
   .rw[ck z]at e
    cases e;cases r1.str_inv;refine⟨rfl,H0,A0,A,E,ρ,[.lst l],st.mono G,by unfold aC aY;rw[Y];rfl,λvs H2 N r2=>?_⟩;obtain⟨w,rfl,F⟩:=r2.one;obtain⟨p,us,rfl,h1,r3⟩:=F.lst_inv;rw[A9 es r3]at h1;exact⟨sep,p,ss,rfl,rfl,.inl h1,z,q _ H2 (G.trans N)<|.str _⟩
   .rw[cq z]at e;cases e
  .cases e
def ZM(h:(ss.map (·.length)).sum+ss.length*sep.length<=16777216):HN (.str sep) (.lst<|ss.map .str)=bx (.str<|Txt.join sep ss):=by
 unfold HN;simp only[vV,zcT];rw[ck h]
def UQ:D->D->Option D
 |.int i,.int j=>bx<|.bl<|decide (i<=j)
 |.str i,.str j=>bx<|.bl<|!decide (j.cps.toList<i.cps.toList)
 |_,_=>cb
def YL:kT X (zaC .LtE) UQ:=OpR.mono (OpR.or qar My.JS) <| by
 rintro x y H Q ⟨A,dx,J,d,G,z,F,e,q⟩;unfold UQ at e;split at e
 .cases e
  cases z.int_inv;cases F.int_inv;exact .inl ⟨_,_,rfl,rfl,q _ H (Ext.refl _ _)<|.bl _⟩
 .cases e
  cases z.str_inv;cases F.str_inv;exact .inr ⟨_,_,rfl,rfl,q _ H (Ext.refl _ _)<|.bl _⟩
 .cases e
@[simp] theorem q_leAI:UQ (.int i) (.int j)=bx (.bl<|decide (i<=j)):=rfl
@[simp] theorem q_leAS:UQ (.str i) (.str j)=bx (.bl<|!decide (j.cps.toList<i.cps.toList)):=rfl
def nF(x y:D):Option D:=match x,y with
 |.str i,.str j=>bx<|.bl<|!(!(Builtin.Str.occurrences j i 0 j.length 1).isEmpty)
 |x,y=>yO x y
def KA(J:X.A.units+64<cLine):kT X (zaC .NotIn) nF:=OpR.mono (OpR.or (MF J) w4) <| by
 rintro x y H Q ⟨A,dx,N,d,G,z,F,e,q⟩;unfold nF at e;split at e
 .cases e
  cases z.str_inv;cases F.str_inv;exact .inr ⟨_,_,rfl,rfl,q _ H (Ext.refl _ _)<|.bl _⟩
 .exact .inl ⟨A,_,_,d,G,z,F,e,q⟩
def signs(x:Str):List D:=x.cps.toList.map λc=>.str ⟨#[c]⟩
def XQ:KZ (My.ItS x) []<|signs x:=by
 intro A H U N i;have q:(signs x).length=x.cps.size:=by simp[signs]
 refine⟨λhi=>by rw[q]at hi;exact hi,λd hd=>?_⟩;have hi:i<x.cps.size:=by rw[<- q];exact(List.getElem?_eq_some_iff.mp hd).1
 refine⟨hi,λy H' ⟨e,c,J,G⟩=>?_⟩;subst e G;have:d=.str ⟨#[c]⟩:=by
  unfold signs at hd;rw[zaD]at hd;obtain⟨F,z,rfl⟩:=map_some hd;have:x.cps[i]?=bx F:=by rw[<- zeD];exact z
  rw[J]at this;cases this;rfl
 subst this;exact⟨Ext.refl _ _,.str _⟩
def fM(f:Ev):Lv:=λρ=>(f ρ).bind λd=>match d with
 |.lst l=>bx l
 |.tup l=>bx l
 |.dT l=>bx<|l.map λp=>.tup<|p.1.map KY
 |.str x=>bx<|signs x
 |_=>cb
@[simp] theorem q_lSeqA:fM f ρ=(f ρ).bind λd=>match d with
 |.lst l=>bx l
 |.tup l=>bx l
 |.dT l=>bx<|l.map λp=>.tup<|p.1.map KY
 |.str x=>bx<|signs x
 |_=>cb:=rfl
def NV(h:PD X O e f):PDI X O tg e<|fM f:=PI.mono (PI.or (SO h)<|My.XF h) <| by
 rintro σ H R ⟨H0,A0,A,E,ρ,items,st,e,q⟩;obtain⟨d,z,e⟩:=bind_some e;cases d with
 |str x=>
  cases e;refine .inr ⟨H0,A0,A,E,ρ,_,st,z,λv H1 F r1=>?_⟩;cases RepB.str_inv (.of r1);exact⟨x,rfl,q _ H1 [] F (λp G=>nomatch G) XQ⟩
 |lst l=>exact .inl ⟨H0,A0,A,E,ρ,items,st,by unfold QI;rw[z];exact e,q⟩
 |tup l=>exact .inl ⟨H0,A0,A,E,ρ,items,st,by unfold QI;rw[z];exact e,q⟩
 |dT l=>exact .inl ⟨H0,A0,A,E,ρ,items,st,by unfold QI;rw[z];exact e,q⟩
 |_=>exact nn e
end
structure GInt(mg:Str->Option Value)(x:Str)(i:Int):Prop where
 ex:∃t,mg x=bx (.int i t)
@[simp] theorem q_eqS:kI (.str a) (.str b)=bx (.bl<|decide (a=b)):=by
 unfold kI IG;rw[ck<|.inl rfl];by_cases h:a=b
 .subst h;simp
 .have h2:¬ D.str a=D.str b:=λz=>h (by injection z)
  simp[h]
@[simp] theorem q_neS:wX (.str a) (.str b)=bx (.bl<|!decide (a=b)):=by
 unfold wX IG;rw[ck<|.inl rfl];by_cases h:a=b
 .subst h;simp
 .have h2:¬ D.str a=D.str b:=λz=>h (by injection z)
  simp[h]
def fQ{f rest:Sv}{ρ:cA}{R:D->Prop}(W:cA->Prop)(h:∃ρ',f ρ=bx (.nx ρ')/\W ρ')(k:∀ρ',W ρ'->∃d,rest ρ'=bx (.rt d)/\R d):∃d,dD f rest ρ=bx (.rt d)/\R d:=by
 obtain⟨ρ',e,w⟩:=h;rw[aE e];exact k ρ' w
def E8{c:Bv}{f rest:Sv}{ρ:cA}{R:D->Prop}(b:Bool)(q:c ρ=bx b)(z:b=cf->∃d,f ρ=bx (.rt d)/\R d)(F:b=ci->∃d,rest ρ=bx (.rt d)/\R d):∃d,dD (B9 c f LA) rest ρ=bx (.rt d)/\R d:=by
 cases b with
 |true=>
  obtain⟨d,e,r⟩:=z rfl;exact⟨d,uD (by rw[qci q];exact e),r⟩
 |false=>
  rw[aE (ρ':=ρ)<|by rw[QK q];rfl];exact F rfl
def eqN(n:Nat)(d:D):Prop:=∃x,i8 d=bx x/\x.nb=cf/\x.dep<=n
def eqN.ok(h:eqN n d)(q:n<=60):i5 d=cf:=by
 obtain⟨x,e,a,b⟩:=h;unfold i5;rw[e];show(x.nb && decide (x.dep<=60))=cf;rw[a,decide_eq_true<|by lia];rfl
theorem eqN.int:eqN n<|.int i:=⟨.int i,rfl,rfl,zaM _⟩
theorem eqN.str:eqN n<|.str s:=⟨.str s,rfl,rfl,zaM _⟩
theorem eqN.list:∀ {l:List D},(∀d∈l,eqN n d)->∃xs,lV l=bx xs/\My.QM xs=cf/\My.uN xs<=n
 |[],_=>⟨[],rfl,rfl,zaM _⟩
 |d::l,h=>by
  obtain⟨x,e,a,b⟩:=h d<|zar ..;obtain⟨xs,G,F,J⟩:=eqN.list (l:=l) λq z=>h q<|zaq _ z
  refine⟨x::xs,?_,?_,?_⟩
  .rw[lV,e,G];rfl
  .show(x.nb && My.QM xs)=cf
   rw[a,F];rfl
  .show max x.dep (My.uN xs)<=n
   lia
theorem eqN.tup(h:∀d∈l,eqN n d):eqN (n+1)<|.tup l:=by
 obtain⟨xs,e,a,b⟩:=eqN.list h;refine⟨.tup xs,?_,a,?_⟩
 .rw[i8,e];rfl
 .show My.uN xs+1<=n+1
  lia
theorem AS{q:Type}{rest:List (Option D)}{g h:q->D}:∀(l:List q) (o:Option D),(∀a∈l,f (bx (g a)::rest)=bx (h a))->bD (aS 0) fN f (l.map g) (o::rest)=bx (l.map h)
 |[],o,_=>rfl
 |a::l,o,hf=>by
  have ih:=AS (f:=f) (rest:=rest) (g:=g) (h:=h) l (bx<|g a) λb z=>hf b<|zaq _ z
  have F:=hf a<|zar ..;simp[-zad,-zac,aA,aB,bD,F,ih]
theorem yF{f:Ev}{rest:List (Option D)}{R:D->Prop}:∀(l:List D) (o:Option D),(∀a∈l,∃d,f (bx a::rest)=bx d/\R d)->∃ds,bD (aS 0) fN f l (o::rest)=bx ds/\ds.length=l.length/\∀d∈ds,R d
 |[],o,_=>⟨[],rfl,rfl,λ_ h=>nomatch h⟩
 |a::l,o,hf=>by
  obtain⟨ds,e,J,N⟩:=yF (f:=f) (rest:=rest) (R:=R) l (bx a) λb G=>hf b<|zaq _ G
  obtain⟨d,U,rd⟩:=hf a<|zar ..;refine⟨d::ds,by simp[-zad,-zac,aA,aB,bD,U,e],by simp[J],λq F=>?_⟩;rcases List.mem_cons.mp F with z|z
  .rw[z];exact rd
  .exact N q z
def lP(h0:0<=k)(h:k<(l.length:Int)):kJ (.lst l) (.int k) e=bx (.lst<|l.set k.toNat e):=by
 show(K8 l.length k).map _=_;unfold K8;rw[ck h0,ck h];rfl
def at_of(h0:0<=k)(h:l[k.toNat]?=bx d):gC l k=bx d:=by
 obtain⟨j,rfl⟩:∃j:Nat,k=(j:Int):=⟨k.toNat,by lia⟩;exact bS<|by simpa using h
def uK(h0:0<=k)(h:k<(l.length:Int)):∃d,d∈l/\l[k.toNat]?=bx d/\gC l k=bx d:=by
 have q:k.toNat<l.length:=by lia
 have e:l[k.toNat]?=bx l[k.toNat]:=za0 q;exact⟨l[k.toNat],List.getElem_mem q,e,at_of h0 e⟩
def vF(hd:d∈aQ 0 1 n):∃i:Int,d=.int i/\0<=i/\i<(n:Int):=by
 unfold aQ at hd;obtain⟨j,q,rfl⟩:=List.mem_map.mp hd;have:=List.mem_range.mp q;exact⟨0+(j:Int)*1,rfl,by lia,by lia⟩
theorem GI:∀ {l:List D},(∀d∈l,∃s:Str,d=.str s)->∃ss:List Str,l=ss.map .str
 |[],_=>⟨[],rfl⟩
 |d::l,h=>by
  obtain⟨s,rfl⟩:=h d<|zar ..;obtain⟨ss,e⟩:=GI (l:=l) λq z=>h q<|zaq _ z
  exact⟨s::ss,by rw[e];rfl⟩
theorem F3(I:Nat->cA->Prop)(J:cA->Prop)(h:∀n ρ,I n ρ->(c ρ=bx cf/\∃m ρ',m<n/\b ρ=bx (.nx ρ')/\I m ρ')\/(c ρ=bx ci/\J ρ)):∀(fuel n:Nat) (ρ:cA),n<fuel->I n ρ->∃ρ',eY c b fuel ρ=bx (.nx ρ')/\J ρ'
 |0,n,ρ,hn,_=>absurd hn<|Nat.not_lt_zero n
 |fuel+1,n,ρ,hn,hi=>by
  rcases h n ρ hi with⟨F,m,ρ',U,N,G⟩|⟨F,q⟩
  .obtain⟨z,e,q⟩:=F3 I J h fuel m ρ' (by lia) G
   refine⟨z,?_,q⟩;unfold eY;rw[F,aA,ck rfl,N,aA];exact e
  .refine⟨ρ,?_,q⟩
   unfold eY;rw[F,aA,cq zaB]
def JU{c:Bv}{b rest:Sv}{ρ:cA}{R:D->Prop}(I:Nat->cA->Prop)(J:cA->Prop)(n:Nat)(F:n<100000)(h0:I n ρ)(h:∀n ρ,I n ρ->(c ρ=bx cf/\∃m ρ',m<n/\b ρ=bx (.nx ρ')/\I m ρ')\/(c ρ=bx ci/\J ρ))(k:∀ρ',J ρ'->∃d,rest ρ'=bx (.rt d)/\R d):∃d,dD (lQ c b) rest ρ=bx (.rt d)/\R d:=by
 obtain⟨ρ',e,z⟩:=F3 I J h 100000 n ρ F h0;have q:lQ c b ρ=bx (.nx ρ'):=e;rw[aE q];exact k ρ' z
def PD.pe(h:PD X O e f):PE X e<|tD Rep O f:=h
def isStar:Expr->Bool
 |.Starred ..=>cf
 |_=>ci
def cX(h:isStar e=ci):zaf (e::es) env=(ci,eval e env)::zaf es env:=by
 cases e <;> first|rfl|cases h
theorem iQ:∀ {es:List Expr},(es.all λe=>!isStar e)=cf->(zaG pos<|zaf es env).any (·.1)=ci
 |[],_=>by simp[zaf,zaG]
 |e::es,h=>by
  rw[List.all_cons,zaV]at h;have q:isStar e=ci:=by cases z:isStar e;rfl;rw[z]at h;exact absurd h.1<|by decide
  have ih:=iQ (pos:=pos) (env:=env) (es:=es) h.2;rw[cX q];simp only[zaG,zan,zcf,Bool.false_or]at ih ⊢;exact ih
end P
namespace My
open PySem.SeqAt
def jA:entryFor table "dict.update.loop" = bx zbz.«dict.update.loop»:=entryFor_of_tree<|by kernel_rfl
def dJ:plainId "dict.update.loop" = cf:=by decide +kernel
def qM:typeLookup (.type "list") (zbn "keys")=pure cb:=by rw[typeLookup_type,builtinLookup_eq_fast];kernel_rfl
def pV:typeLookup (.type "tuple") (zbn "keys")=pure cb:=by rw[typeLookup_type,builtinLookup_eq_fast];kernel_rfl
section
variable {prog:zah}{w:World}{A:zal}{E:Value->zab->Prop}{s:zab}
def qL(hx:s.heap.get? a=bx o)(J:o.cls=.type "list")(q:o.data=.seq xs k)(hd:o.dict=cb)(U:A.handled=cb)
  (h:∀h' tk,(∀b o,s.heap.get? b=bx o->h'.get? b=bx o)->Q cb {s with heap:=h',toks:=tk}):wpAny (model prog w) A (zcU (.ref a) "keys") Q E s:=by
 obtain⟨c,W,N,sl⟩:=o;simp only at J q hd;subst J q hd;obtain⟨Y,g,d,tk,os⟩:=s;have hT:∀z,(⟨Y,g,d,z,os⟩:zab).TypeIs (.ref a) "list" := λ_=>⟨_,hx,rfl⟩
 have f1:=sub_AttributeError;have f3:=PySem.F.slot_list_getattribute.lookup;have f4:=PySem.F.slot_list_getattribute.bind<|.ref a;have f5:=am_list_getattr_none;unfold zcU getAttrBy? getAttrBy
 repeat (any_goals (first|assumption|exact hT _|((with_reducible show wpAny _ _ (call (zb5 "list.__getattribute__") _ _) _ _ _);refine zdd PySem.F.slot_list_getattribute (hT _) am_entry_list_getattribute (PySem.F.args_list_getattribute_2 _ _) (meets_getattribute_miss_list a xs k sl (zbn "keys") _ qM (by decide)<|by size_fits) ⟨hx,U,λh' z e G=>?_⟩)|wp_step))
 obtain⟨t',u',he⟩:=G.there;show wpAny _ _ (zd1 _ _ _ _ _ _ _) _ _ _;unfold zd1
 repeat (any_goals (first|assumption|wp_step))
 exact h _ _ G.keeps
def pU(hx:s.heap.get? a=bx o)(J:o.cls=.type "tuple")(q:o.data=.seq xs k)(hd:o.dict=cb)(U:A.handled=cb)
  (h:∀h' tk,(∀b o,s.heap.get? b=bx o->h'.get? b=bx o)->Q cb {s with heap:=h',toks:=tk}):wpAny (model prog w) A (zcU (.ref a) "keys") Q E s:=by
 obtain⟨c,W,N,sl⟩:=o;simp only at J q hd;subst J q hd;obtain⟨Y,g,d,tk,os⟩:=s;have hT:∀z,(⟨Y,g,d,z,os⟩:zab).TypeIs (.ref a) "tuple" := λ_=>⟨_,hx,rfl⟩
 have f1:=sub_AttributeError;have f3:=PySem.F.slot_tuple_getattribute.lookup;have f4:=PySem.F.slot_tuple_getattribute.bind<|.ref a;have f5:=am_tuple_getattr_none;unfold zcU getAttrBy? getAttrBy
 repeat (any_goals (first|assumption|exact hT _|((with_reducible show wpAny _ _ (call (zb5 "tuple.__getattribute__") _ _) _ _ _);refine zdd PySem.F.slot_tuple_getattribute (hT _) am_entry_tuple_getattribute (PySem.F.args_tuple_getattribute_2 _ _) (meets_getattribute_miss_tuple a xs k sl (zbn "keys") _ pV (by decide)<|by size_fits) ⟨hx,U,λh' z e G=>?_⟩)|wp_step))
 obtain⟨t',u',he⟩:=G.there;show wpAny _ _ (zd1 _ _ _ _ _ _ _) _ _ _;unfold zd1
 repeat (any_goals (first|assumption|wp_step))
 exact h _ _ G.keeps
end
section
variable {X:Cx}{pins:List (Addr×Obj)}{σ:L2.St}{H:Hp}{s:zab}{a:Addr}{y v:V}{u r:Value}{A:zal}{E:Value->zab->Prop}
def IV(hu:A.units+1<cLine)(I:Inv X pins σ H s)(g:DPut H a y v H')(ry:RelV y u)(rv:RelV v r)(h:∀h' t',Inv X pins σ H' {s with heap:=h',toks:=t'}->za6 a s.heap h'->Q () {s with heap:=h',toks:=t'}) :
  wpAny (model X.prog X.w) A (dictSet a u r) Q E s:=by
 rcases g with⟨kvs,k,e,W,l,Y⟩|⟨kvs,k,b,e,W,eb,l,Y⟩
 .subst W Y
  obtain⟨z,hd,vs,F,dd⟩:=V3 I.hok e;have U:vs.length<=zai:=by rw[<- F.length];exact z
  have N:(putK kvs k v).length<=zai:=by have:=fJ kvs k v;lia
  refine wpAny_dictSet_pairs (hsz:=U) (wR ry) dd λh' G hs=>h _ _ ?_ hs
  have he:∃q,h'.get? a=bx q:=let ⟨q,_,_,J,_⟩:=G;⟨q,J⟩;exact nC I (by rw[e];exact za4) hs he<|PU N hd (F.put k rv) G
 .subst W Y
  cases(show u=zap b from ry);obtain⟨z,hd,xs,F,dd⟩:=V1 I.hok e;have U:xs.length<=zai:=by rw[<- zc2 F];exact z
  have N:(putK kvs k v).length<=zai:=by have:=fJ kvs k v;lia
  refine wpAny_dictSet_heap (hsz:=U) (show A.units<cLine by lia) (nX I.hok eb) dd λh' G hs=>h _ _ ?_ hs
  obtain⟨q,es,ep,J,h2,h3,h4,_,h5⟩:=G;refine nC I (by rw[e];exact za4) hs ⟨q,J⟩ ⟨N,hd,_,(F.put k eb rv).keeps λc ys ec=>?_,q,es,ep,J,h2,h3,h4,h5⟩;rw[aG<|uH ec e λz=>nomatch z];exact ec
end
inductive Puts(d:Addr):Hp->List (V×V)->Hp->Prop where
 | nil {H:Hp}:Puts d H [] H
 | cons {H H1 H2:Hp} {y v:V} {l:List (V×V)} (h:DPut H d y v H1) (t:Puts d H1 l H2):Puts d H ((y,v)::l) H2
def BQ(g:DPut H a y v H'):(∃u,H a=bx u/\(∀xs,u≠.tup xs)/\∀o w,u≠.frz o w)/\∀b,b≠a->H' b=H b:=by
 rcases g with⟨kvs,k,e,G,l,q⟩|⟨kvs,k,b,e,G,J,l,q⟩
 .subst q;exact⟨⟨_,e,(λ_ z=>nomatch z),(λ_ _ z=>nomatch z)⟩,λb F=>aG F⟩
 .subst q;exact⟨⟨_,e,(λ_ z=>nomatch z),(λ_ _ z=>nomatch z)⟩,λb F=>aG F⟩
def M8{K:zae}{H H':Hp}{a:Addr}{y v:V}(g:DPut H a y v H'){b:Addr}{xs:List V}(h:SqT K H b xs):SqT K H' b xs:=by
 obtain⟨⟨u,e,q,F⟩,same⟩:=BQ g;rcases h with(h|⟨o,h⟩)|h
 .exact .inl<|.inl<|by rw[same b λz=>by rw[z,e]at h;exact q _<|zay h];exact h
 .exact .inl<|.inr ⟨o,by rw[same b λz=>by rw[z,e]at h;exact F _ _<|zay h];exact h⟩
 .exact .inr h
section
variable {X:Cx}{pins:List (Addr×Obj)}{σ:L2.St}{A:zal}{R:Result->zab->Prop}{it d:Addr}{fp:List Addr}{n:Nat}{P:Nat->Value->Prop}{St:Nat->Heap->Prop}{H2:Hp}
theorem lC(W:Walks X.prog X.w A.in1 it fp [it] n P St)(hd:d∉fp)(hu:A.in1.units+1<cLine)(fin:∀s',Inv X pins σ H2 s'->R (.ok<|.ret .none) s'):∀(l:List<|V×V) (j:Nat) (s:zab) (H:Hp) (t:Tok) (i:Int),n-j=l.length->j<=n->St j s.heap->Inv X pins σ H s->kC X pins H it->
  (∀(m:Nat) (p:V×V) (v:Value),l[m]?=bx p->P (j+m) v->∃b,v=.ref b/\SqT X.K H b [p.1,p.2])->Puts d H l H2->
  zbs (model X.prog X.w) A (.builtin "dict.update.loop" ⟨[.ref d,.ref it,.int i t,.none],[]⟩) R s
 |[],j,s,H,t,i,hn,hj,st,I,fo,facts,pu=>by
  cases pu;obtain⟨F,f1,f2,J,N,G⟩:=fo;have e:j=n:=by simp at hn;lia
  subst e;refine zeI jA ?_;rw[Around.under_plainId dJ _];show wpAny _ A.in1 (za9 (.ref it) >>= λ_=>_) _ _ s;refine zaa<|W.done s _ _ st λh1 tk same=>?_;show wpAny _ _ (Builtin.Dict.addKeywords d [] >>= _) _ _ _;exact zaa<|zag<|zag<|fin _<|I.turned (t':=tk) (λb o U e=>same b o (by simpa using U) e) F f1 J N G
 |(y,v)::l,j,s,H,t,i,hn,hj,st,I,fo,facts,pu=>by
  obtain⟨F,f1,f2,J,N,G⟩:=id fo;cases pu with
  |@cons _ H1 _ _ _ _ dp pu=>
  have lt:j<n:=by rw[zaA]at hn;lia
  refine zeI jA ?_;rw[Around.under_plainId dJ _];show wpAny _ A.in1 (za9 (.ref it) >>= λ_=>_) _ _ s;refine zaa<|W.item j s _ _ lt st λv1 h1 tk pv Y same=>?_;obtain⟨b,rfl,sq⟩:=facts 0 (y,v) v1 rfl pv;have I1:Inv X pins σ H {s with heap:=h1,toks:=tk}:=I.turned (t':=tk) (λb o U e=>same b o (by simpa using U) e) F f1 J N G;obtain⟨ap,rv,ht,hz⟩:=I1.tuple sq;cases rv with
  |@cons _ u _ us ru rt=>
  cases rt with
  |@cons _ r _ us2 rr rt2=>
  cases rt2;obtain⟨o,ho,hc,nn,aa⟩:=id ht;show wpAny _ A.in1 (zcm [zap b] _ >>= λ_=>_) _ _ _;refine zaa<|zbM ?_;refine zaa<|wpAny_tryCatch ?_;unfold Builtin.Dict.pairItems;refine zaa<|zcL ht.typeIs ?_;rw[ck<|by decide];refine zaa<|zbB ho aa<|zag ?_;show wpAny _ A.in1 (zcm [u,r]<|dictSet d u r) _ _ _;refine zbM<|IV hu I1 dp ru rr λh2 t2 I2 sb=>?_;obtain⟨⟨uo,eu,_,_⟩,q⟩:=BQ dp;have nd:it≠d:=λz=>by rw[<- z,F]at eu;cases eu
  refine zag ⟨plainId_quiet dJ _,lC W hd hu fin l (j+1) _ H1 _ _ (by rw[zaA]at hn;lia) lt (W.frame _ _ _ Y λb bf o eb=>?_) I2 ⟨by rw[q it nd];exact F,f1,f2,J,N,G⟩ (λm p v2 hm hp=>?_) pu⟩
  .exact(sb.2 b λz=>hd<|z ▸ bf).trans eb
  .obtain⟨c,e,sq⟩:=facts (m+1) p v2 (by simpa using hm) (by rw[show j+(m+1)=j+1+m by lia];exact hp)
   exact⟨c,e,M8 dp sq⟩
end
section
variable {X:Cx}
def Src(X:Cx)(H:Hp)(p:Addr)(ys:List V):Prop:=SqL X.K H p ys\/Rd H p (.tup ys)
def DS(hc:X.calm=cf)(hu:X.A.units+64<cLine):CallR X (.type "dict") λxs H Q=>∃p ys l,xs=[.ref p]/\Src X H p ys/\l.length=ys.length/\(∀(m:Nat) (pr:V×V),l[m]?=bx pr->∃b,ys[m]?=bx (.ref b)/\SqT X.K H b [pr.1,pr.2]) /\
  ∀q,H q=cb->∃H2,(Puts q (upd H q<|.dK []) l H2\/Puts q (upd H q<|.dT []) l H2)/\Q (.ref q) H2:=by
 intro pins s σ H xs us Q I r h;obtain⟨p,ys,l,rfl,ax,hl,aj,q⟩:=h;obtain⟨u,rfl,rx⟩:=vals1 r;cases rx;obtain⟨H2,pu,q⟩:=q s.heap.objs.size<|I.hok.fresh<|zaj _;refine callType_codes (Q₁:=λap ac=>ap=.ref s.heap.objs.size/\ac={s with heap:=s.heap.push {cls:=.type "dict",data:=.dict #[]} }) PySem.F.kt_called_dict (PySem.F.kt_typeCall_dict_1 _) PySem.F.entry_dict_init (kt_code_dict_new _ ⟨rfl,rfl⟩) ?_;rintro ap ac ⟨rfl,rfl⟩;have n1:(s.heap.push {cls:=.type "dict",data:=.dict #[]}).get? s.heap.objs.size=bx {cls:=.type "dict",data:=.dict #[]}:=zaF _ rfl;have t1:Shared.TypeIs {s with heap:=s.heap.push {cls:=.type "dict",data:=.dict #[]} } (.ref s.heap.objs.size) "dict" := ⟨_,n1,rfl⟩;refine⟨t1,PySem.F.args_dict_init_2 _ _,?_⟩;unfold zbz.«dict.__init__»;refine zaa ?_;unfold Builtin.Dict.selfAndRest;refine zaa<|wpAny_notOrdered_dict t1 ?_;show wpAny _ _ (pure (s.heap.objs.size,[zap p])) _ _ _;refine zag ?_;show wpAny _ _ (Builtin.Dict.updateFrom "dict.__init__" s.heap.objs.size (.ref p) [] .none) _ _ _;unfold Builtin.Dict.updateFrom;obtain⟨u0,a6,IK,pu⟩:∃u0:HO,(u0=.dK []\/u0=.dT [])/\Inv X pins σ (upd H s.heap.objs.size u0) {s with heap:=s.heap.push {cls:=.type "dict",data:=.dict #[]} }/\Puts s.heap.objs.size (upd H s.heap.objs.size u0) l H2:=by
  rcases pu with pu|pu
  .exact⟨_,.inl rfl,I.laid (a:=s.heap.objs.size) (o:=.dK []) (h':=s.heap.push {cls:=.type "dict",data:=.dict #[]}) (t':=s.toks) (λ_ _ q=>zam _ q) (zaj _)<|L6 s.heap I.big,pu⟩
  .exact⟨_,.inr rfl,I.laid (a:=s.heap.objs.size) (o:=.dT []) (h':=s.heap.push {cls:=.type "dict",data:=.dict #[]}) (t':=s.toks) (λ_ _ q=>zam _ q) (zaj _)<|A7 s.heap I.big,pu⟩
 have am:∀b u,H b=bx u->b≠s.heap.objs.size:=λb u e z=>zb9 _<|by have:=(I.hok b u e).lt;rw[z]at this;exact this
 have ao:∀ {b:Addr} {zs:List V},SqT X.K H b zs->SqT X.K (upd H s.heap.objs.size u0) b zs:=λ{b zs} h=>by
  rcases h with(h|⟨o,h⟩)|h
  .exact .inl<|.inl<|by rw[aG<|am _ _ h];exact h
  .exact .inl<|.inr ⟨o,by rw[aG<|am _ _ h];exact h⟩
  .exact .inr h
 have an:∀ {o:Obj},s.heap.get? p=bx o->p<s.heap.objs.size:=λe=>zao e
 rcases ax with sq|sq
 .obtain⟨Y,rv,pl,hz⟩:=I.list sq
  obtain⟨o,n,ho,J,ai,U⟩:=id pl;have aa:=rv.length;have G:(s.heap.push {cls:=.type "dict",data:=.dict #[]}).get? p=bx o:=zam _ ho;refine zaa<|zcL (s:={s with heap:=s.heap.push {cls:=.type "dict",data:=.dict #[]} }) ⟨o,G,J⟩ ?_;rw[ck<|by decide];refine zaa<|qL (s:={s with heap:=s.heap.push {cls:=.type "dict",data:=.dict #[]} }) G J U ai (I.ok.hd hc) λh' tk keep=>?_;simp only[Option.isNone_none,if_true];refine zaa<|zbU<|zaa<|zcb (s:={s with heap:=h',toks:=tk}) (items:=Y.toArray) ⟨o,keep _ _ G,J,n,U⟩ ?_;have N:Inv X pins σ (upd H s.heap.objs.size u0) {s with heap:=h',toks:=tk}:=IK.kept (t':=tk) keep;have ae:Inv X pins σ (upd H s.heap.objs.size u0) {s with heap:=h'.push {cls:=.type "list_iterator",data:=.fields #[.ref p,.int 0 0]},toks:=tk}:=N.kept (t':=tk) λb o e=>zam _ e
  have lp:p<h'.objs.size:=zao<|keep _ _ G;have ld:s.heap.objs.size<h'.objs.size:=zao<|keep _ _ n1;have W:=Walks.list (prog:=X.prog) (w:=X.w) (A:=X.A.in1.in1) (I.ok.hd hc) h'.objs.size p (zaE lp) Y.toArray;refine zag ⟨plainId_quiet dJ _,lC (X:=X) (pins:=pins) (σ:=σ) (H2:=H2) W (d:=s.heap.objs.size) ?_ (by show X.A.units+1+1+1<cLine;lia) ?_ l 0 _ _ _ _ ?_ (zaM _) ?_ ae ?_ ?_ pu⟩
  .intro z
   rcases List.mem_cons.mp z with z|z
   .exact zaE ld z
   .exact zbr (an ho)<|List.mem_singleton.mp z
  .exact λs' I'=>⟨rfl,.ref s.heap.objs.size,H2,I',rfl,q⟩
  .rw[zaw,<- aa,hl];lia
  .exact⟨⟨_,zaF _ rfl,rfl,rfl⟩,⟨o,zam _<|keep _ _ G,J,n,U⟩⟩
  .exact N.fpOk (zaj _)<|N.hok.fresh<|zaj _
  .intro m pr v hm hv
   obtain⟨b,e1,e2⟩:=aj m pr hm;rw[zaU]at hv;refine⟨b,?_,ao e2⟩;obtain⟨w',hw,ah⟩:=rv.get e1;rw[List.getElem?_toArray,hw]at hv;cases(show w'=zap b from ah);exact(zay hv).symm
 .obtain⟨hz,Y,rv,o,ho,J,n,U,ai⟩:=(show ObjOk X.prog X.w H s.heap p (.tup ys)from sq.ok I.hok)
  have aa:=rv.length;have G:(s.heap.push {cls:=.type "dict",data:=.dict #[]}).get? p=bx o:=zam _ ho;refine zaa<|zcL (s:={s with heap:=s.heap.push {cls:=.type "dict",data:=.dict #[]} }) ⟨o,G,J⟩ ?_;rw[ck<|by decide];refine zaa<|pU (s:={s with heap:=s.heap.push {cls:=.type "dict",data:=.dict #[]} }) G J U ai (I.ok.hd hc) λh' tk keep=>?_;simp only[Option.isNone_none,if_true];refine zaa<|zbU<|zaa<|zbX (s:={s with heap:=h',toks:=tk}) (items:=Y.toArray) ⟨o,keep _ _ G,J,n,U⟩ ?_;have N:Inv X pins σ (upd H s.heap.objs.size u0) {s with heap:=h',toks:=tk}:=IK.kept (t':=tk) keep;have ae:Inv X pins σ (upd H s.heap.objs.size u0) {s with heap:=h'.push {cls:=.type "tuple_iterator",data:=.fields #[.ref p,.int 0 0]},toks:=tk}:=N.kept (t':=tk) λb o e=>zam _ e
  have lp:p<h'.objs.size:=zao<|keep _ _ G;have ld:s.heap.objs.size<h'.objs.size:=zao<|keep _ _ n1;have W:=Walks.tuple (prog:=X.prog) (w:=X.w) (A:=X.A.in1.in1) (I.ok.hd hc) h'.objs.size p (zaE lp) Y.toArray;refine zag ⟨plainId_quiet dJ _,lC (X:=X) (pins:=pins) (σ:=σ) (H2:=H2) W (d:=s.heap.objs.size) ?_ (by show X.A.units+1+1+1<cLine;lia) ?_ l 0 _ _ _ _ ?_ (zaM _) ?_ ae ?_ ?_ pu⟩
  .intro z
   rcases List.mem_cons.mp z with z|z
   .exact zaE ld z
   .exact zbr (an ho)<|List.mem_singleton.mp z
  .exact λs' I'=>⟨rfl,.ref s.heap.objs.size,H2,I',rfl,q⟩
  .rw[zaw,<- aa,hl];lia
  .exact⟨⟨_,zaF _ rfl,rfl,rfl⟩,⟨o,zam _<|keep _ _ G,J,n,U⟩⟩
  .exact N.fpOk (zaj _)<|N.hok.fresh<|zaj _
  .intro m pr v hm hv
   obtain⟨b,e1,e2⟩:=aj m pr hm;rw[zaU]at hv;refine⟨b,?_,ao e2⟩;obtain⟨w',hw,ah⟩:=rv.get e1;rw[List.getElem?_toArray,hw]at hv;cases(show w'=zap b from ah);exact(zay hv).symm
end
section
variable {X:Cx}
def DW:CallR X (.type "dict") λxs H Q=>∃d kvs,xs=[.ref d]/\Rd H d (.dK kvs)/\∀p,H p=cb->Q (.ref p) (upd H p<|.dK kvs):=by
 intro pins s σ H xs U Q I r h;obtain⟨d,kvs,rfl,hd,q⟩:=h;obtain⟨u,rfl,N⟩:=vals1 r;cases N;obtain⟨z,y,vs,F,dd⟩:=wM I.hok hd;have J:vs.length<=zai:=by rw[<- F.length];exact z
 refine kt_call_dict (knd:=bA X.prog X.w) y dd J λh' G sb=>?_
 refine⟨.ref s.heap.objs.size,_,I.laid (t':=s.toks) (o:=.dK kvs) (λb ob q=>(sb.2 b<|zaE<|zao q).trans<|zam _ q) (zaj _) ⟨z,beq_eq_false_iff_ne.mpr<|zaI<|zaE I.big,vs,F,G⟩,rfl,q _<|I.hok.fresh<|zaj _⟩
def Y7(h:H2 q=bx u)(k:∀b,b≠q->H2 b=H b):H2=upd H q u:=funext λb=>by
 by_cases e:b=q
 .subst e;rw[aI];exact h
 .rw[aG e];exact k b e
def tT{κ:Type}[DecidableEq κ](kvs more:List<|κ×V):List<|κ×V:=more.foldl (λacc q=>putK acc q.1 q.2) kvs
theorem OZ:∀(prs:List<|Key×V) (H:Hp) (xs:List<|Key×V),H q=bx (.dK xs)->xs.length+prs.length<zai->∃H2,Puts q H (prs.map λp=>(kV p.1,p.2)) H2/\H2 q=bx (.dK<|tT xs prs)/\∀b,b≠q->H2 b=H b
 |[],H,xs,e,hl=>⟨H,.nil,e,λ_ _=>rfl⟩
 |p::prs,H,xs,e,hl=>by
  have J:=fJ xs p.1 p.2;rw[zaA]at hl;obtain⟨H2,F,G,k⟩:=OZ prs (upd H q<|.dK<|putK xs p.1 p.2) (putK xs p.1 p.2) aI (by lia);exact⟨H2,.cons (DPut.k e<|by lia) F,G,λb z=>(k b z).trans<|aG z⟩
end
end My
namespace P
section
variable {X:Cx}{A:Av}{H:Hp}
def ES:List D->Option (List<|Key×D)
 |[]=>bx []
 |.tup [k,v]::l=>(Z7 k).bind λkk=>(ES l).map λr=>(kk,v)::r
 |_=>cb
def kS{κ:Type}[DecidableEq κ](l more:List<|κ×D):List<|κ×D:=more.foldl (λm p=>putD m p.1 p.2) l
def UK{κ:Type}[DecidableEq κ]{more:List (κ×D)}{ys:List (κ×V)}(h:PP A H more ys):∀ {l:List (κ×D)} {xs:List (κ×V)},PP A H l xs->PP A H (kS l more) (My.tT xs ys):=by
 induction h with
 |nil=>intro l xs q;exact q
 |@cons p q ps qs h t ih=>
  intro l xs z;have:=ih<|t8 p.1 h.2 z;rw[show kS l (p::ps)=kS (putD l p.1 p.2) ps from rfl,show My.tT xs (q::qs)=My.tT (putK xs q.1 q.2) qs from rfl,<- h.1];exact this
set_option tactic.hygienic true in
theorem AL:∀ {l:List D} {kvs:List (Key×D)} {xs:List V},ES l=bx kvs->RepL A H l xs->∃q:List (Key×V),PP A H kvs q/\q.length=xs.length/\∀(m:Nat) (z:V×V),(q.map λp=>(kV p.1,p.2))[m]?=bx z->∃b,xs[m]?=bx (.ref b)/\H b=bx (.tup [z.1,z.2])
 |_,kvs,_,e,.nil=>by cases e;exact⟨[],.nil,rfl,λm z h=>by simp at h⟩
 |d::l,kvs,v::xs,e,.cons h t=>by
  unfold ES at e;split at e
  .cases ‹_::_=[]›
  .rename_i k w l' heq
   injection heq with h1 h2
   subst h1 h2;obtain⟨N,J,e⟩:=bind_some e;obtain⟨r,e2,rfl⟩:=map_some e;obtain⟨q,W,U,hm⟩:=AL e2 t;obtain⟨a,zs,rfl,G,F⟩:=RepB.tup_inv<|.of h;cases F with
   |@cons _ z1 _ zs1 q1 F=>
   cases F with
   |@cons _ z2 _ zs2 q2 F=>
   cases F;have Y:=qE J<|.of q1;subst Y;refine⟨(N,z2)::q,.cons ⟨rfl,q2⟩ W,by simp[U],λm z h=>?_⟩;cases m with
   |zero=>simp at h;subst h;exact⟨a,rfl,G⟩
   |succ m=>exact hm m z<|by simpa using h
  .cases e
def VT:D->Option (List D)
 |.lst l=>bx l
 |.tup l=>bx l
 |_=>cb
def fV:List D->Option D
 |[.dK l]=>bx<|.dK l
 |[d]=>(VT d).bind λl=>if aZ l.length then(ES l).map λkvs=>.dK (kS [] kvs)else cb
 |_=>cb
def NC(h:VT d=bx l)(r:RepB A H d v):∃p ys,v=.ref p/\My.Src X H p ys/\RepL A H l ys:=by
 cases d with
 |lst m=>cases h;obtain⟨a,xs,rfl,h1,h2⟩:=r.lst_inv;exact⟨a,xs,rfl,.inl<|.inl h1,h2⟩
 |tup m=>cases h;obtain⟨a,xs,rfl,h1,h2⟩:=r.tup_inv;exact⟨a,xs,rfl,.inr<|.inl h1,h2⟩
 |_=>exact nn h
def szL(h:aZ n=cf):0+n<zai:=by rw[zaU];exact iT h
set_option tactic.hygienic true in
def mT(hc:X.calm=cf)(hu:X.A.units+64<cLine):IE X (.type "dict") fV:=by
 intro pins s σ H xs us Q I r h;obtain⟨A,ds,d,lv,rl,e,q⟩:=h;unfold fV at e;split at e
 .cases e
  obtain⟨v,rfl,h1⟩:=rl.one;obtain⟨a,ys,rfl,h2,Y,r3⟩:=h1.dK_inv;exact My.DW pins s σ H _ us Q I r ⟨a,ys,rfl,h2,λp N=>q p _ (Ext.new N) N (λz=>lv p z N)<|.dK aI Y<|r3.fresh N⟩
 .obtain⟨l,e1,e⟩:=bind_some e
  split at e
  .rename_i hz
   obtain⟨kvs,e2,rfl⟩:=map_some e;obtain⟨v,rfl,h1⟩:=rl.one;obtain⟨p,ys,rfl,W,G⟩:=NC (X:=X) e1 h1;obtain⟨F,pp,hl,hm⟩:=AL e2 G;have J:=G.length;refine My.DS hc hu pins s σ H _ us Q I r ⟨p,ys,F.map λp=>(kV p.1,p.2),rfl,W,by rw[zak];exact hl,λm pr h=>?_,λa U=>?_⟩
   .obtain⟨b,x1,x2⟩:=hm m pr h
    exact⟨b,x1,.inl<|.inl x2⟩
   .obtain⟨H2,pu,Y,k⟩:=My.OZ F (upd H a<|.dK []) [] aI (by rw[hl,J];exact szL hz)
    have eH:H2=upd H a (.dK<|My.tT [] F):=My.Y7 Y λb hb=>(k b hb).trans<|aG hb
    obtain⟨f1,f2⟩:=wJ<|UK pp<|Paired.nil;refine⟨H2,.inl pu,?_⟩;rw[eH];exact q a _ (Ext.new U) U (λz=>lv a z U)<|.dK aI f1<|f2.fresh U
  .cases e
 .cases e
end
end P
namespace My
open PySem.SeqAt
theorem FK:∀ {xs:List V} {us:List Value},xs.length=us.length->(∀(j:Nat) (x:V) (u:Value),xs[j]?=bx x->us[j]?=bx u->RelV x u)->Vals xs us
 |[],[],_,_=>.nil
 |[],_::_,h,_=>by simp at h
 |_::_,[],h,_=>by simp at h
 |x::xs,u::us,h,k=>.cons (k 0 x u rfl rfl)<|FK (by simpa using h) λj y v q z=>k (j+1) y v (by simpa using q)<|by simpa using z
section
variable {X:Cx}
def NT:CallR X (.type "range") λxs H Q=>∃i,xs=[.int i]/\∀p,H p=cb->Q (.ref p) (upd H p<|.rng 0 i):=by
 intro pins s σ H xs z Q I r h;obtain⟨i,rfl,q⟩:=h;obtain⟨u,rfl,t,rfl⟩:=vals1 r;exact call_range_1 ⟨.ref s.heap.objs.size,_,I.laid (t':=s.toks+1+1) (o:=.rng 0 i) (λb ob q=>zam _ q) (zaj _) ⟨_,_,_,zaF _ rfl⟩,rfl,q _<|I.hok.fresh<|zaj _⟩
def CS(Y:X.calm=cf):CallR X (.type "list") λxs H Q=>∃p i,xs=[.ref p]/\H p=bx (.rng 0 i)/\0<=i/\i<=1000000/\∀l,H l=cb->Q (.ref l) (upd H l<|.lst<|(zas i.toNat).map λ(j:Nat)=>V.int (j:Int)):=by
 intro pins s σ H xs us Q I r h;obtain⟨p,i,rfl,W,i0,i1,q⟩:=h;obtain⟨u,rfl,J⟩:=vals1 r;cases J;obtain⟨t,u,v,U⟩:=(show ObjOk X.prog X.w H s.heap p (.rng 0 i)from I.hok p _ W);refine call_list_range (n:=i.toNat) (I.ok.hd Y) U (small_one (by lia) (by lia) (by lia)<|by lia) (by rw[rangeSize_one];split <;> lia) (by lia) λh' tk acc c keep N items=>?_
 refine⟨.ref s.heap.objs.size,_,I.laid (t':=tk) (o:=.lst<|(zas i.toNat).map λ(j:Nat)=>V.int (j:Int)) keep (zaj _) ⟨by rw[zak,zcV,zc8];lia,acc.toList,c,FK ?_ λj x u F G=>?_,by simpa using N⟩,rfl,q _<|I.hok.fresh<|zaj _⟩
 .rw[zak,zcV,zbW,items.1]
 .rw[zeD]at G
  obtain⟨t,rfl⟩:=items.2 j u G;rw[zaD]at F;obtain⟨k,z,rfl⟩:=P.map_some F;have:k=j:=by
   rw[zdf]at z
   .exact(zay z).symm
   .have:=(List.getElem?_eq_some_iff.mp z).1;rwa [zcV]at this
  subst this;exact⟨t,by rw[show(0:Int)+(k:Int)*1=(k:Int) by lia]⟩
end
end My
namespace P
section
variable {X:Cx}{O:List Nat}
def yX(d:D):Option D:=match d with
 |.int i=>if 0<=i/\i<=1000000 then bx (.lst<|aQ 0 1 i.toNat)else cb
 |_=>cb
def RP(h0:0<=i)(h1:i<=1000000):yX (.int i)=bx (.lst<|aQ 0 1 i.toNat):=ck ⟨h0,h1⟩
def DX(n:Nat):RepL A H (aQ 0 1 n)<|(zas n).map λ(j:Nat)=>V.int (j:Int):=by
 unfold aQ;have:∀l:List Nat,RepL A H (l.map λ(j:Nat)=>D.int<|0+(j:Int)*1)<|l.map λ(j:Nat)=>V.int (j:Int):=λl=>by
  induction l with
  |nil=>exact .nil
  |cons j l ih=>
   rw[zan,zan,show(0:Int)+(j:Int)*1=(j:Int) by lia];exact .cons (.int _) ih
 exact this _
set_option tactic.hygienic true in
def NM(hc:X.calm=cf)(W:Gl X "list")(U:X.mg "list" = cb)(J:Gl X "range")(G:X.mg "range" = cb)(he:PB X O e f)(hs:isStar e=ci) :
  PF X O (.Call (.Name "list" p) [.Call (.Name "range" p2) [e] [] pos2] [] pos) (V0 yX f):=
 PE.mono (kE (My.CS hc) W U My.boot_list (bX (kE My.NT J G My.boot_range (bX he eK<|cX hs) (by decide) (by decide) (cX hs)<|iQ rfl) eK<|cX rfl) (by decide) (by decide) (cX rfl)<|iQ rfl) <| by
  rintro σ H Q ⟨H0,A0,A,E,ρ,d,st,F,q⟩;obtain⟨x,ex,F⟩:=bind_some F;refine⟨H0,A0,A,E,ρ,x,st,ex,λv H1 N r1=>?_⟩;unfold yX at F;split at F
  .rename_i i
   split at F
   .rename_i hi
    cases F;have:=r1.int_inv;subst this;refine⟨i,rfl,λa Y=>⟨a,i,rfl,aI,hi.1,hi.2,λl hl=>?_⟩⟩;have hn:H1 l=cb:=(Ext.new (A:=A) (o:=HO.rng 0 i) Y).free hl;exact q l _ (N.trans<|(Ext.new Y).trans<|Ext.new hl) (N.free hn) (λz=>(st.mono N).live l z hn)<|.lst aI<|DX _
   .cases F
  .cases F
end
section
variable {X:Cx}{O:List Nat}{e:Expr}{es:List Expr}
def lW(z:PD X O e f)(q:wW X O es g)(hs:isStar e=ci:=by rfl):wW X O (e::es)<|aC f g:=LV z q<|cX hs
def Z8(z:PB X O e f)(q:wV X O es g)(hs:isStar e=ci:=by rfl):wV X O (e::es)<|aC f g:=BM z q<|cX hs
def lc(h:Len g n):Len (aC f g)<|n+1:=M7 h
def l0:Len aY 0:=SQ
variable {x:Str}{id T:String}{g:List D->Option D}{f:Lv}{p pos:Pos}
def cB(U:jZ X (.builtin id) g)(N:X.mg x=cb)(W:zaL x=bx (.builtin id))(z:wV X O (e::es) f)(G:Gl X x:=by rfl)(F:x ≠ "__name__" := by decide)(q:(x == ("__debug__" : Str))=ci:=by decide)(hs:isStar e=ci:=by rfl)(J:(es.all λe=>!isStar e)=cf:=by rfl) :
  PD X O (.Call (.Name x p) (e::es) [] pos) (aR g f):=NE U G N W z F q (cX hs)<|iQ J
def qh(U:jZ X (.type T) g)(N:X.mg x=cb)(W:zaL x=bx (.type T))(z:wV X O (e::es) f)(G:Gl X x:=by rfl)(F:x ≠ "__name__" := by decide)(q:(x == ("__debug__" : Str))=ci:=by decide)(hs:isStar e=ci:=by rfl)(J:(es.all λe=>!isStar e)=cf:=by rfl) :
  PD X O (.Call (.Name x p) (e::es) [] pos) (aR g f):=JB U G N W z F q (cX hs)<|iQ J
def fTy(U:IE X (.type T) g)(N:X.mg x=cb)(W:zaL x=bx (.type T))(z:wV X O (e::es) f)(G:Gl X x:=by rfl)(F:x ≠ "__name__" := by decide)(q:(x == ("__debug__" : Str))=ci:=by decide)(hs:isStar e=ci:=by rfl)(J:(es.all λe=>!isStar e)=cf:=by rfl) :
  PF X O (.Call (.Name x p) (e::es) [] pos) (aR g f):=IR U G N W z F q (cX hs)<|iQ J
def cD(O':Fn X.prog X.w X.K X.mg X.base x k ps F)(N:Room k X.A)(z:wW X O (e::es) f)(G:Len f ps.length)(J:Gl X x:=by rfl)(q:(x == ("__debug__" : Str))=ci:=by decide)(hs:isStar e=ci:=by rfl)(U:(es.all λe=>!isStar e)=cf:=by rfl) :
  PD X O (.Call (.Name x p) (e::es) [] pos) (aR F f):=RY O' N J z G q (cX hs)<|iQ U
def cn{L:Lp}{O1 O2 O3:List Nat}{st:Stmt}{q:List Stmt}{f g:Sv}(h:PSD X L O1 st f O2)(k:PSDs X L O2 q g O3):PSDs X L O1 (st::q) (dD f g) O3:=NR h k
end
def ZOk(P:zah)(w:World)(K:zae)(mg:Str->Option Value)(base:Heap)(N:List Str)(x:Str)(st:Stmt)(k:Nat)(b:Sv):Prop:=
 ∀(fa:Addr) (cdv:Value) (A:zal) (outer:List Env) (s:zab) (H:Hp) (E:XK),Room k (A.deeper<|zaH x (aF st) s.heap.objs.size fa cdv)->∃g,PSDs (dC uS P w K mg base N x (aF st) fa cdv A outer s H E).nox ⟨[],[]⟩ [] (bF st) g []/\g=b
end P
namespace My
def qbm(i j:Int):Prop:=(-(10^250*10^250)<i/\i<10^250*10^250)/\-(10^250*10^250)<j/\j<10^250*10^250
end My
namespace P
instance:∀i j,Decidable<|My.qbm i j:=λi j=>by unfold My.qbm;infer_instance
end P
namespace My
open PySem.SeqAt
def VM(h:(zbe scope env).names.lookup x=bx k'):(x,k')∈scope.names\/(k'=.cell/\(x,zbu)∈scope.names):=by
 obtain⟨⟨y,k⟩,z,e⟩:=List.mem_map.mp<|zcK h;dsimp only at e;by_cases q:(k == zbu && env.scope.kind == .function && env.kindOf y == bx .cell)=cf
 .rw[ck q]at e
  have:k=.free:=by simp only[zaV]at q;simpa using q.1.1
  cases e;subst this;exact .inr ⟨rfl,z⟩
 .rw[cq q]at e
  cases e;exact .inl z
end My
namespace P
def inO(O:List Nat)(ms:List<|Option Nat):List Nat:=(zas ms.length).filter λj=>(((ms[j]?).join).map O.contains).getD ci
def pY:j∈inO O ms↔∃i,ms[j]?=bx (bx i)/\i∈O:=by
 unfold inO;rw[List.mem_filter];constructor
 .rintro⟨_,h⟩
  cases e:ms[j]? with
  |none=>rw[e]at h;cases h
  |some o=>
   cases o with
   |none=>rw[e]at h;cases h
   |some i=>rw[e]at h;exact⟨i,rfl,by simpa using h⟩
 .rintro⟨i,h,hi⟩
  refine⟨List.mem_range.mpr ?_,by rw[h];simpa using hi⟩;obtain⟨l,_⟩:=List.getElem?_eq_some_iff.mp h;exact l
def OG{q:Type}{ms:List (Option Nat)}{σ:List (Option q)}{j i:Nat}{v:q}(h:ms[j]?=bx (bx i))(e:σ[i]?=bx (bx v)):(hW ms σ)[j]?=bx (bx v):=by
 unfold hW;rw[zaD,h];show bx ((σ[i]?).join)=_;rw[e];rfl
def ST.innerO{H0:Hp}{A0 A:Av}{E:List Fact}{O Oi:List Nat}{σ:L2.St}{H:Hp}{ρ:cA}(s:ST H0 A0 A E O σ H ρ)(ms:List<|Option Nat)(W:inO O ms=Oi)(hj:∀j∈Oi,∀k∈Oi,ms[j]?=ms[k]?->j=k):ST H0 A0 A E Oi (hW ms σ) H (hW ms ρ) where
 ex:=s.ex
 sub:=s.sub
 l0:=s.l0
 live:=s.live
 len:=by simp[hW]
 val:=λj d h n=>by
  obtain⟨i,F,N⟩:=gI h;obtain⟨v,e3,r⟩:=s.val i d N λz=>n<|W ▸ pY.mpr ⟨i,F,z⟩
  exact⟨v,OG F e3,r⟩
 own:=λj d h n=>by
  obtain⟨i,F,N⟩:=gI h;obtain⟨i',q,Y⟩:=pY.mp<|W.symm ▸ n;rw[F]at q;cases q;obtain⟨a,h1,h2⟩:=s.own i d N Y;exact⟨a,OG F h1,h2⟩
 inj:=λj k d d' a J U h1 h2 h3 h4=>by
  obtain⟨i,F,N⟩:=gI h1;obtain⟨l,f1,f2⟩:=gI h2;obtain⟨i2,g1,g2⟩:=gI h3;rw[F]at g1;cases g1;obtain⟨l2,k1,k2⟩:=gI h4;rw[f1]at k1;cases k1;obtain⟨i',q,Y⟩:=pY.mp<|W.symm ▸ J;rw[F]at q;cases q;obtain⟨l',G,lO⟩:=pY.mp<|W.symm ▸ U;rw[f1]at G;cases G;have:=s.inj i l d d' a Y lO N f2 g2 k2;subst this;exact hj j J k U<|F.trans f1.symm
 ext:=s.ext
section
variable {X:Cx}{O Oi:List Nat}
def JQ(J:dF X scope N ms)(W:inO O ms=Oi)(F:∀j∈Oi,∀k∈Oi,ms[j]?=ms[k]?->j=k)(G:t∉Oi)(σ:L2.St)(H:Hp)(Q:VK) :
  tF O (dZ ms it (aS t) c f) σ H Q->My.BY (tDI O it) (gL t) (tDT Oi c) (tD Rep Oi f) (My.Start X N scope) σ H Q:=
 AM J (λs=>s.innerO ms W F) (λs r e q=>by
  cases e;have U:∀j∈Oi,t≠j:=λj F z=>G<|z ▸ F
  exact q _ (s.put r G) λj F=>⟨za7<|U j F,za7<|U j F⟩) σ H Q
def A6
  (W:X.calm=cf) (Y:My.Clo X N scope cl) (z:dF X scope N ms) (G:inO O ms=Oi) (F:∀j∈Oi,∀k∈Oi,ms[j]?=ms[k]?->j=k) (q:t∉Oi) (hi:PDI X O tg iter it) (U:∀C s H fp,PG (My.aX X N scope cl C s H fp) tg<|gL t)
  (ht:∀C s H fp,My.E3 (My.aX X N scope cl C s H fp) ifs<|tDT Oi c) (J:∀C s H fp,PD (My.aX X N scope cl C s H fp) Oi elt f) (hs:∀x,zbc iter X.env x=pure x:=by intro _;rfl) :
  PF X O (.ListComp elt [⟨tg,iter,ifs,0⟩] scope pos) (dZ ms it (aS t) c f):=PE.mono (My.FM W Y hi U ht J hs)<|JQ z G F q
def FE(Y:scope.kind=.function)(h:BW scope.names X.env.scope.names=cf)(hh:∀x,X.env.scope.names.lookup x=bx .cell->∃c,X.env.cells.lookup x=bx c):My.Clo X N scope<|gT X.env.cells scope.names []:=by
 have h':=List.all_eq_true.mp h;have J:∀y∈scope.names,y.2≠.cell:=λy G=>by
  have:=h' y G;simp only[zaV]at this;simpa using this.1.1
 have c2:∀y∈scope.names,y.2=.local->scope.names.lookup y.1=bx .local:=λy G e=>by
  have:=h' y G;simp only[zaV,zdZ]at this;rcases this.1.2 with z|z
  .rw[e]at z;exact absurd z<|by decide
  .simpa using z
 have U:∀y∈scope.names,y.2=.free->∃c,X.env.cells.lookup y.1=bx c:=λy G e=>by
  have:=h' y G;simp only[zaV,zdZ]at this;rcases this.2 with z|z
  .rw[e]at z;exact absurd z<|by decide
  .exact hh _<|by simpa using z
 have q:∀x,((zbe scope X.env).names.lookup x=bx .cell\/(zbe scope X.env).names.lookup x=bx .free)->(x,zbu)∈scope.names:=λx hx=>by
  rcases hx with hx|hx
  .rcases My.VM hx with z|⟨_,z⟩
   .exact absurd rfl<|J _ z
   .exact z
  .rcases My.VM hx with z|⟨z,_⟩
   .exact z
   .cases z
 refine⟨F7 U,Y,J,c2,λx c e=>?_,λx hx=>sJ<|.inl<|q x hx⟩;rcases sO e with⟨c',z,_⟩|⟨z1,W⟩
 .cases z
 .obtain⟨c0,F⟩:=U _ z1 rfl
  have F:X.env.cells.lookup x=bx c0:=F;rw[W,F];rfl
def FT(q:X.env.cells=zcc n X.env.scope.names []):∀x,X.env.scope.names.lookup x=bx .cell->∃c,X.env.cells.lookup x=bx c:=λx h=>by
 rw[q];exact mS (sc:=X.env.scope) h
end
end P
namespace My
open PySem PySem.Spec PySem.Calls PySem.W PySem.Builtin PySem.Builtin.ObjectAttr PySem.Builtin.Getset_descriptor
section
variable {prog:zah}{w:World}{A:zal}{E:Value->zab->Prop}{h:Heap}{g:Array GenState}{d:Drawn}{t:Nat}{os:OsState}{a C:Addr}{o:Obj}{K:Frag}
structure ExcK(K:Frag)(C:Addr):Prop where
 ga:findIn K (.ref C) "__getattribute__" = bx (bx<|.builtin "BaseException.__getattribute__")
 gt:findIn K (.ref C) "__getattr__" = bx cb
 cl:findIn K (.ref C) "__class__" = bx (bx<|.builtin "object.__class__")
 ob:subIn K (.ref C) (.type "object")=bx cf
 be:subIn K (.ref C) (.type "BaseException")=bx cf
 ty:typeIn K (.ref C)=bx (.type "type")
 is:(clsIn K C).isSome=cf
 gg:specialIn K (.builtin "object.__class__") "__get__" = bx (bx<|.builtin "getset_descriptor.__get__")
 tk:takesIn K (.builtin "object.__class__")=bx cf
def MW{M:Model}(X:K.In h)(k:ExcK K C):Looks M h (find (.ref a) (.ref C) "__class__")<|.bind (.builtin "getset_descriptor.__get__")<|.builtin "object.__class__":=by
 have z:=looks_findIn (M:=M) X k.cl;have L2:Looks M h (getOf<|bx<|.builtin "object.__class__")<|bx<|.builtin "getset_descriptor.__get__":=looks_specialIn X k.gg;have q:=looks_takesIn (M:=M) X k.tk;refine z.andThen<|L2.andThen<|Looks.andThen (a:=bx (.builtin "getset_descriptor.__get__",.builtin "object.__class__")) ?_<|Looks.tag .now;exact q.andThen .now
def uY{R:Result->zab->Prop}{tp:Value}(X:K.In h)(k:ExcK K C)(hx:h.get? a=bx o)(z:o.cls=.ref C)(q:R (.ok<|.ret<|.ref C) ⟨h,g,d,t,os⟩) :
  zbs (model prog w) A (.call (.builtin "getset_descriptor.__get__") ⟨[.builtin "object.__class__",.ref a,tp],[]⟩) R ⟨h,g,d,t,os⟩:=by
 have F:Looks (model prog w) h (typeOf<|.ref a)<|.ref C:=z ▸ (Looks.ld hx).andThen .now;have G:=looks_subIn (M:=model prog w) X k.ob;refine codeAny_call_builtin KF.slot_gs.plain KF.entry_gs<|KF.slot_gs.check _ _ _ _ _ _ _ _ KF.type_class (KF.args_gs _ _ _) ?_;unfold zbz.«getset_descriptor.__get__» descrGet;rw[dga_obj];refine zaa<|zag ?_;unfold descrGetter descrCheckInstance descrNameAndClass zcD;simp only[KF.owner_class]
 repeat lk
 refine⟨Code.quiet_builtin _<|by decide +kernel,zeI KF.entry_class ?_⟩;unfold zbz.«object.__class__» shownTypeOf
 repeat lk
 exact q
def KI{tk:Tok}{Q:Fin->zab->Prop}(X:K.In h)(k:ExcK K C)(hx:h.get? a=bx o)(q:o.cls=.ref C)(G:Q (.done<|.ret<|.ref C) ⟨h,g,d,t,os⟩) :
  wpAny (model prog w) A (zbz.«object.__getattribute__» ⟨[.ref a,.str "__class__" tk],[]⟩) Q E ⟨h,g,d,t,os⟩:=by
 have z:Looks (model prog w) h (typeOf<|.ref a)<|.ref C:=q ▸ (Looks.ld hx).andThen .now;have F:=MW (M:=model prog w) (a:=a) X k
 repeat (any_goals (first|assumption|with_reducible refine Looks.at z ?_|with_reducible refine Looks.at F ?_|wp_step))
 refine uY X k hx q ?_
 repeat (any_goals (first|assumption|wp_step))
def KP{M:Model}{q:Value}{Q:Unit->zab->Prop}(X:K.In h)(k:ExcK K C)(hx:h.get? a=bx o)(W:o.cls=.ref C)(G:Q () ⟨h,g,d,t,os⟩):wpAny M A (checkBuiltinCall "BaseException.__getattribute__" ⟨[.ref a,q],[]⟩) Q E ⟨h,g,d,t,os⟩:=by
 have N:builtinKind "BaseException.__getattribute__" = bx .slot:=by decide +kernel
 have z:splitId "BaseException.__getattribute__" = bx ("BaseException", "__getattribute__"):=by decide +kernel
 have Y:=F.args_bexc_ga (.ref a) q;have J:Looks M h (typeOf<|.ref a)<|.ref C:=W ▸ (Looks.ld hx).andThen .now;have U:=looks_subIn (M:=M) X k.be;simp only[checkBuiltinCall,N,z];refine zaa ?_;unfold zcD
 repeat (first|with_reducible refine Looks.at J ?_|with_reducible refine Looks.at U ?_|wp_step)
 exact G
def M6{tk:Tok}{R:Result->zab->Prop}{B:String}{q:List Value}(J:zd2 B q)(X:K.In h)(k:ExcK K C)(hx:h.get? a=bx o)(z:o.cls=.ref C)(G:R (.ok<|.ret<|.ref C) ⟨h,g,d,t,os⟩) :
  zbs (model prog w) A (.call (.builtin "BaseException.__getattribute__") ⟨[.ref a,.str "__class__" tk],[]⟩) R ⟨h,g,d,t,os⟩:=
 codeAny_call_builtin J.ga.plain F.entry_bexc_ga (KP X k hx z<|KI X k hx z G)
def YJ{tk:Tok}{z q:Bool}{Q:Value->zab->Prop}{B:String}{F:List Value}(J:zd2 B F)(X:K.In h)(k:ExcK K C)(hx:h.get? a=bx o)(N:o.cls=.ref C)(hq:Q (.ref C) ⟨h,g,d,t,os⟩) :
  wpAny (model prog w) A (getAttrBy (.ref a) (.str "__class__" tk) z q) Q E ⟨h,g,d,t,os⟩:=by
 have f3:=J.ga.bind<|.ref a;have Y:(q && onTheHeap (zb5 "BaseException.__getattribute__"))=ci:=by cases q <;> rfl
 have G:(zb5 "BaseException.__getattribute__" == zb5 "object.__getattribute__")=ci:=by decide +kernel
 have W:(onTheHeap (zap C) && zb5 "BaseException.__getattribute__" == zb5 "object.__getattribute__")=ci:=by rw[G];rfl
 have U:Looks (model prog w) h (typeOf<|.ref a)<|.ref C:=N ▸ (Looks.ld hx).andThen .now;have L1:=looks_findIn (M:=model prog w) X k.ga;have L2:=looks_findIn (M:=model prog w) X k.gt
 repeat (any_goals (first|assumption|with_reducible refine Looks.at U ?_|with_reducible refine Looks.at L1 ?_|with_reducible refine Looks.at L2 ?_|wp_step))
 refine M6 J X k hx N ?_
 repeat (any_goals (first|assumption|wp_step))
def LI{Q:Option Value->zab->Prop}{B:String}{q:List Value}(z:zd2 B q)(X:K.In h)(k:ExcK K C)(hx:h.get? a=bx o)(F:o.cls=.ref C)(G:Q (bx<|.ref C) ⟨h,g,d,t+1,os⟩) :
  wpAny (model prog w) A (zcU (.ref a) "__class__") Q E ⟨h,g,d,t,os⟩:=by
 unfold zcU getAttrBy?
 repeat (any_goals (first|assumption|with_reducible apply YJ z X k hx F|wp_step))
set_option tactic.hygienic true in
def AD{B:String}{N:List Value}(Y:zd2 B N)(k:ExcK K C):KitX K (.ref a) (.ref C) (λh=>∃o,h.get? a=bx o/\o.cls=.ref C) where
 ty:=λM h X ⟨o,hx,U⟩=>U ▸ (Looks.ld hx).andThen .now
 it:=λ_ _ X _=>by
  obtain⟨G,F⟩:=Option.isSome_iff_exists.mp k.is;unfold clsIn at F;split at F
  .rename_i c' d' cd' sl' ho
   intro A' Q' E' s' W q;unfold isType loadHead;exact zaa<|wpAny_loadPart (W _ _<|X _ _ ho)<|zag q
  .cases F
 ne:=λh tp dd aa n sl X J=>by
  obtain⟨G,F⟩:=Option.isSome_iff_exists.mp k.is;refine Bool.eq_false_iff.mpr λq=>?_
  have e:C=tp:=Value.ref.inj<|beq_iff_eq.mp q;subst e;unfold clsIn at F;split at F
  .rename_i c' d' cd' sl' ho
   have z:=(X _ _ ho).symm.trans J;cases z
  .cases F
 ca:=λ{_ _ _ _ _ s} X p q=>by
  obtain⟨o,hx,U⟩:=p;obtain⟨h,g,d,t,os⟩:=s;exact LI Y X k hx U q
end
end My
namespace My
open PySem PySem.Spec
def i7(h:Heap)(e:Addr):Prop:=∃oe vs,h.get? e=bx oe/\oe.data=.fields vs/\vs[2]?=bx .none
section
variable {M:Model}{A:zal}{E:Value->zab->Prop}{s:zab}{base:Heap}{env:Env}{outer:List Env}{L e:Addr}{cls a0:Value}{Q:Unit->zab->Prop}
def wF{oe:Obj}{vs:Array Value}{F:Value}{hn:Bool}(Y:A.frames=bx (env::outer))(J:s.heap.FunFrames base<|env::outer)(hf:env.frame=bx L)
  (W:s.heap.get? e=bx oe) (U:base.StaysIn s.heap) (af:base.get? e=cb) (hd:oe.data=.fields vs) (hsz:1<vs.size) (h0:vs[0]?=bx a0)
  (h:∀h',Heap.NotedW base (env::outer) e oe.cls a0 (zaT L) s.heap h'->(vs[2]?=bx .none->i7 h' e)->Q () {s with heap:=h'}) :
  wpAny M A (do let a <- frameOf env;let G <- entryPlaceOf L hn;let b <- EntryCells.newEntry F a .none (zaT L) .none G;setField (.ref e) 1 b) Q E s:=by
 have ne:e∉(env::outer).filterMap (·.frame):=λhm=>by
  obtain⟨_,o,ho,nf⟩:=J.mem hm;rw[W]at ho;cases ho;exact nf vs hd
 have nr:∀b o,s.heap.get? b=bx o->(∀ws,o.data≠.fields ws)->b≠e:=λb o hb nf z=>by
  subst z;rw[W]at hb;cases hb;exact nf vs hd
 refine zaa<|wpAny_frameOf_fun Y J hf λh1 N=>zaa<|wpAny_entryPlaceOf λG ag=>?_;unfold EntryCells.newEntry newFields;refine zaa<|zbE ?_<|ag.sizeOk5 _ _ _ _ _;have e1:h1.get? e=bx oe:=(N.2.1 e ne).trans W;have b1:base.StaysIn h1:=λb o q=>(N.2.1 b λhm=>by rw[(J.mem hm).1]at q;cases q).trans<|U b o q
 have nT:h1.objs.size≠e:=zbr<|zao e1;refine zcw (zam _ e1) hd hsz ?_;generalize ht:({cls:=.type "traceback",dict:=cb,data:=.fields ([F,.ref L,.none,zaT L,.none]++(if G.isEmpty then zb0 6 zaS else G)).toArray}:Obj)=tb;have ad:tb.data=.fields ([F,.ref L,.none,zaT L,.none]++(if G.isEmpty then zb0 6 zaS else G)).toArray:=by rw[<- ht]
 have d3:=zcy hd (·.setIfInBounds 1 (zap h1.objs.size));have e3:=zdc (zcx (·.setIfInBounds 1 (zap h1.objs.size))) (zam (h:=h1) tb e1)<|zdO d3;have t3:((h1.push tb).update e<|zcx (·.setIfInBounds 1 (zap h1.objs.size))).get? h1.objs.size=bx tb:=
  (zcN _ _<|zaI nT).trans (zaF h1<|by rw[<- ht];rfl)
 have kp:∀b o,b≠e->h1.get? b=bx o->((h1.push tb).update e<|zcx (·.setIfInBounds 1 (zap h1.objs.size))).get? b=bx o:=λb o z q=>
  (zcN _ _<|zaI z).trans (zam _ q)
 refine h _ ⟨λb o q=>kp b o (λz=>by rw[z,af]at q;cases q)<|b1 b o q,J.of_keeps λb o q nf=>?_,?_,λb o q nf=>?_⟩ λh2=>⟨_,_,e3,d3,by rw[zeS<|by decide];exact h2⟩
 .obtain⟨sl,z⟩:=N.2.2 b o q
  exact⟨_,kp b _ (nr b o q nf) z,rfl⟩
 .exact⟨_,_,h1.objs.size,tb,_,e3,⟨zeC _ _,by rw[zeS<|by decide];exact h0⟩,d3,by simp[hsz],b1.fresh,nT,t3,ad,by simp⟩
 .obtain⟨sl,z⟩:=N.2.2 b o q
  exact⟨sl,kp b _ (nr b o q nf) z⟩
def GZ(ab:A.frames=bx (env::outer))(hf:env.frame=bx L)(ac:zbv base (env::outer) e cls a0 s.heap)
  (hQ:∀h',zcW base (env::outer) e cls a0 L h'->(i7 s.heap e->i7 h' e)->s.heap.UpToSlots h'->Q () {s with heap:=h'}):wpAny M A (zcv (.ref e) env) Q E s:=by
 obtain⟨Y,U,hl,oe,vs,T,oT,ts,he,⟨N,h0⟩,hd,h1,ae,ad,hT,J,h3⟩:=ac;subst N;unfold zcv;simp only[hf];refine zaa<|zaN he hd h1 ?_;rw[ck<|show(zap T != zaS)=cf from by simp];refine zaa<|zaN hT J h3 ?_;rw[cq<|show ¬ ((zaS == zaT L)=cf)from by simp[zaT]];refine zaa<|zcw hT J (Array.getElem?_eq_some_iff.mp h3).1 ?_;have W:∀b,b≠T->(s.heap.update T<|zcx (·.setIfInBounds 3 zaS)).get? b=s.heap.get? b:=λb F=>zcN _ _<|zaI F
 have nr:∀b o,s.heap.get? b=bx o->(∀vs,o.data≠.fields vs)->b≠T:=λb o F z q=>by
  subst q;rw[hT]at F;cases F;exact z ts J
 refine wF ab (hl.of_keeps λb o F z=>⟨o,(W b<|nr b o F z).trans F,rfl⟩) hf ((W e<|zaI ad).trans he)
  (λb o G=>(W b λq=>by rw[q,ae]at G;cases G).trans<|Y b o G) U hd (Array.getElem?_eq_some_iff.mp h1).1 h0
  λh' ⟨x1,x2,x3,x4⟩ x5=>hQ h' ⟨x1,U,x2,x3⟩ (λ⟨o',ws,q1,q2,q3⟩=>x5<|by rw[he]at q1;cases q1;rw[hd]at q2;cases q2;exact q3) λb o F z=>x4 b o ((W b<|nr b o F z).trans F) z
def DB{oe:Obj}{vs:Array Value}(F:A.frames=bx (env::outer))(U:s.heap.FunFrames base<|env::outer)(G:env.frame=bx L)
  (J:s.heap.get? e=bx oe) (z:base.StaysIn s.heap) (q:base.get? e=cb) (hd:oe.data=.fields vs) (h1:vs[1]?=bx .none) (h0:vs[0]?=bx a0)
  (hQ:∀h',zcW base (env::outer) e oe.cls a0 L h'->(vs[2]?=bx .none->i7 h' e)->s.heap.UpToSlots h'->Q () {s with heap:=h'}):wpAny M A (zcv (.ref e) env) Q E s:=by
 unfold zcv;simp only[G];refine zaa<|zaN J hd h1 ?_;rw[cq<|by decide];exact wF F U G J z q hd (Array.getElem?_eq_some_iff.mp h1).1 h0 λh' ⟨W,N,x3,Y⟩ x5=>hQ h' ⟨W,q,N,x3⟩ x5 Y
def qV{l:List Env}{fl:Value}{fo:Option Addr}(aa:base.StaysIn s.heap)(am:base.get? e=cb)(hl:s.heap.FunFrames base l)(ht:s.heap.TracedAtW base e cls a0 fl)
  (hQ:∀h',base.StaysIn h'->h'.FunFrames base l->h'.TracedAtW base e cls a0 (fo.elim zaS λf=>zaT f)->(i7 s.heap e->i7 h' e)->s.heap.UpToSlots h'->Q () {s with heap:=h'}) :
  wpAny M A (zdi (.ref e) fo) Q E s:=by
 obtain⟨oe,vs,T,oT,ts,he,U,hd,h1,Y,N,hT,G,h3⟩:=ht;have z3:3<ts.size:=(Array.getElem?_eq_some_iff.mp h3).1;have W:∀b,b≠T->(s.heap.update T<|zcx (·.setIfInBounds 3 (fo.elim zaS λf=>zaT f))).get? b=s.heap.get? b:=λb F=>zcN _ _<|zaI F
 have nr:∀b o,s.heap.get? b=bx o->(∀vs,o.data≠.fields vs)->b≠T:=λb o F z q=>by
  subst q;rw[hT]at F;cases F;exact z ts G
 unfold zdi;refine zaa<|zaN he hd h1 ?_;rw[ck<|show(zap T != zaS)=cf from by simp];refine zcw hT G z3<|hQ _ (λb o J=>(W b λq=>by rw[q,Y]at J;cases J).trans<|aa b o J) (hl.of_keeps λb o F z=>⟨o,(W b<|nr b o F z).trans F,rfl⟩) ?_ (λ⟨o',ws,q1,q2,q3⟩=>⟨o',ws,(W e<|zaI N).trans q1,q2,q3⟩) λb o F z=>⟨o.slots,(W b<|nr b o F z).trans F⟩;exact⟨oe,vs,T,_,_,(W e<|zaI N).trans he,U,hd,h1,Y,N,zdc _ hT<|zdO<|zcy G _,zcy G _,by simp[z3]⟩
def lands{l:List Env}(q:zcW base l e cls a0 L s.heap)(z:∀h',zbv base l e cls a0 h'->(i7 s.heap e->i7 h' e)->s.heap.UpToSlots h'->Q () {s with heap:=h'}):wpAny M A (zdi (.ref e) cb) Q E s:=
 qV q.1 q.2.1 q.2.2.1 q.2.2.2 λh' a b c d f=>z h' ⟨a,q.2.1,b,c⟩ d f
def W1{l:List Env}(q:zbv base l e cls a0 s.heap)(z:∀h',zbv base l e cls a0 h'->(i7 s.heap e->i7 h' e)->s.heap.UpToSlots h'->Q () {s with heap:=h'}):wpAny M A (zdi (.ref e) cb) Q E s:=
 qV q.1 q.2.1 q.2.2.1 q.2.2.2.at λh' a b c d f=>z h' ⟨a,q.2.1,b,c⟩ d f
def sP{h:Heap}(x:zbv base (env::outer) e cls a0 h):zbv base outer e cls a0 h:=⟨x.1,x.2.1,x.2.2.1.2.2,x.2.2.2⟩
def LR(F:A.frames=bx (env::outer))(N:env.frame=bx L)(q:zbv base (env::outer) e cls a0 s.heap)
  (W:∀h',zbv base outer e cls a0 h'->(i7 s.heap e->i7 h' e)->s.heap.UpToSlots h'->Q () {s with heap:=h'}):wpAny M A (zcq env<|.ref e) Q E s:=by
 unfold zcq;exact zaa<|GZ F N q λh1 Y k1 J=>lands Y λh2 G k2 U=>W h2 (sP G) (λz=>k2<|k1 z)<|J.trans U
def leave_held(F:env.frame=bx L)(z:zcW base (env::outer) e cls a0 L s.heap)(J:∀h',zbv base outer e cls a0 h'->(i7 s.heap e->i7 h' e)->s.heap.UpToSlots h'->Q () {s with heap:=h'}):wpAny M A (zcq env<|.ref e) Q E s:=by
 unfold zcq;exact zaa<|wpAny_noteFrame_againW F z.2.2.2<|lands z λh2 q k2 G=>J h2 (sP q) k2 G
def CW{h:Heap}{args:List Value}(G:A.frames=bx (env::outer))(W:env.frame=bx L)(z:base.StaysIn h)(U:h.FunFrames base<|env::outer)(hx:zd3 h s.heap e cls args)
  (hQ:∀h' t,zbv base outer e cls (.ref t) h'->i7 h' e->s.heap.UpToSlots h'->Q () {s with heap:=h'}):wpAny M A (zcq env<|.ref e) Q E s:=by
 obtain⟨t,Y,ab,ht⟩:=hx.there;have fr:base.get? e=cb:=by
  cases q:base.get? e with
  |none=>rfl
  |some o=>have:=z e o q;rw[hx.new]at this;cases this
 unfold zcq;exact zaa<|DB (a0:=.ref t) G (U.of_keeps λb o F _=>⟨o,hx.keeps b o F,rfl⟩) W Y (λb o F=>hx.keeps b o<|z b o F) fr rfl rfl rfl λh1 hh k1 N=>lands hh λh2 J k2 u2=>hQ h2 t (sP J) (k2<|k1 rfl)<|N.trans u2
end
end My
namespace My
open PySem.SeqAt
structure Fly(l:List Env)(fs:List Addr)(h1:Heap)(e C:Addr)(c:Option Addr)(h:Heap):Prop where
 fly:∃B a0,(∀b o,h1.get? b=bx o->b∉fs->B.get? b=bx o)/\zbv B l e (.ref C) a0 h
 up:h1.UpToSlots h
 fsd:∀b∈fs,∀o,h1.get? b=bx o->∀vs,o.data≠.fields vs
 new:h1.get? e=cb
 cx:c=cb->i7 h e
section
variable {l:List Env}{fs fr:List Addr}{h0 h1 h:Heap}{e C:Addr}{c:Option Addr}{H H1:Hp}{P:zah}{w:World}
def Fly.keep(f:Fly l fs h1 e C c h){b:Addr}{o:Obj}(q:h1.get? b=bx o)(n:b∉fs):h.get? b=bx o:=by
 obtain⟨B,a0,k,fl⟩:=f.fly;exact fl.1 b o<|k b o q n
def Fly.any(f:Fly l fs h1 e C c h){b:Addr}{o:Obj}(q:h1.get? b=bx o):∃F,h.get? b=bx {o with slots:=F}:=by
 by_cases z:b∈fs
 .exact f.up b o q<|f.fsd b z o q
 .exact⟨o.slots,f.keep q z⟩
def Fly.un(f:Fly l fs h1 e C c h)(u:Un fr [] H H1 h0 h1)(N:∀b∈fs,b∈fr\/h0.get? b=cb):Un fr [] H H1 h0 h where
 keep:=λb o q n F hx=>f.keep (u.keep b o q n F hx) λz=>(N b z).elim F λr=>by rw[r]at q;cases q
 slot:=λb o q n F hx=>by
  obtain⟨U,r⟩:=u.slot b o q n F hx;obtain⟨G,J⟩:=f.any r;exact⟨G,J⟩
 free:=u.free
 there:=λb o q hx=>by
  obtain⟨o',r⟩:=u.there b o q hx;obtain⟨U,J⟩:=f.any r;exact⟨_,J⟩
 tups:=u.tups
 frzs:=u.frzs
 tbls:=u.tbls
def Fly.hok(f:Fly l fs h1 e C c h)(x:HOk P w H1 h1)(G:∀b∈fs,H1 b=cb):HOk P w H1 h:=λa o q=>(x a o q).stay (λb u F r=>f.keep r λz=>by
  have:=G b z;rcases F with F|F
  .subst F;rw[q]at this;cases this
  .rw[F]at this;cases this) (λ_ r=>r) λ_ _ r=>r
def zI{a:Addr}{o:HO}(x:ObjOk P w H h a o):∃u,h.get? a=bx u:=by
 cases o with
 |lst xs=>obtain⟨_,_,_,_,e⟩:=x;exact⟨_,e⟩
 |tup xs=>obtain⟨_,_,_,o,e,_⟩:=x;exact⟨_,e⟩
 |dK kvs=>obtain⟨_,_,_,_,o,_,_,e,_⟩:=x;exact⟨_,e⟩
 |dT kvs=>obtain⟨_,_,_,_,o,_,_,e,_⟩:=x;exact⟨_,e⟩
 |set S n=>obtain⟨o,_,_,_,e,_⟩:=x;exact⟨_,e⟩
 |ins C dx fs=>obtain⟨_,_,_,e,_⟩:=x;exact⟨_,e⟩
 |own y=>obtain⟨_,e⟩:=x;exact⟨_,e⟩
 |xd fs=>obtain⟨_,⟨_,_,_,e,_⟩,_⟩:=x;exact⟨_,e⟩
 |rng lo hi=>obtain⟨_,_,_,e⟩:=x;exact⟨_,e⟩
 |frz ob u=>obtain⟨e,_⟩:=x;exact⟨_,e⟩
 |tbl ps=>exact⟨_,(show h.get? a=bx _ from x)⟩
 |met f y=>exact⟨_,(show h.get? a=bx _ from x)⟩
 |ext φ=>obtain⟨_,⟨_,e⟩,_⟩:=x;exact⟨_,e⟩
 |memo dom f p=>obtain⟨_,xs,_,_,o,_,_,e,_⟩:=x;exact⟨_,e⟩
def Fly.fresh(f:Fly l fs h1 e C c h)(x:HOk P w H1 h1):H1 e=cb:=by
 cases q:H1 e with
 |none=>rfl
 |some o=>
  obtain⟨u,r⟩:=zI<|x e o q;rw[f.new]at r;cases r
end
def uV(P:zah)(w:World):II:=λouter H s E e s'=>∃ea C H1 h1 fs c,e=zap ea/\s'.os=s.os/\zbN s'.gens/\Un (frs outer) [] H H1 s.heap h1/\HOk P w H1 h1/\(∀b∈fs,H1 b=cb)/\(∀b∈fs,b∈frs outer\/s.heap.get? b=cb)/\Fly outer fs h1 ea C c s'.heap/\E (.ref C) c H1
def w9{P:zah}{w:World}{K:zae}{mg:Str->Option Value}{base:Heap}{N:List Str}{z:Str}{scope:Scope}{J:Addr}{F:Value}{A:zal}{outer:List Env}{s:zab}{H:Hp}{E:XK}{pins:List (Addr×Obj)}{σ:L2.St}{H1:Hp}{G:zab}{h':Heap}{ea C:Addr}{vs:List Value}
  (I:Inv (dC (uV P w) P w K mg base N z scope J F A outer s H E) pins σ H1 G) (hx:zd3 G.heap h' ea (.ref C) vs) (hE:E (.ref C) cb H1) :
  (dC (uV P w) P w K mg base N z scope J F A outer s H E).xe (.ref ea) {G with heap:=h'}:=by
 have ab:=PySem.W.funFrames_hide (as:=frs (dC (uV P w) P w K mg base N z scope J F A outer s H E).stack) I.stack λenv he a hf=>List.mem_filterMap.mpr ⟨env,he,hf⟩
 refine CW (base:=PySem.W.hideAll G.heap<|frs (dC (uV P w) P w K mg base N z scope J F A outer s H E).stack) (h:=G.heap) I.ok.frames rfl (λb o e=>PySem.W.of_hideAll _ e) ab hx λh2 t fl ln up=>?_
 refine⟨ea,C,H1,G.heap,frs (dC (uV P w) P w K mg base N z scope J F A outer s H E).stack,cb,rfl,I.os,I.bare,I.base,I.hok,I.stkFree,λb Y=>?_,⟨⟨_,_,λb o q n=>PySem.W.hideAll_get _ q n,fl⟩,(Heap.UpToSlots.of_keeps hx.keeps).trans up,λb Y o q aa=>?_,hx.new,λ_=>ln⟩,hE⟩
 .rcases List.mem_cons.mp (show b∈s.heap.objs.size::frs outer from Y)with e|e
  .exact .inr<|zdq<|zc9 e.symm
  .exact .inl e
 .obtain⟨_,o',U,hd⟩:=I.stack.mem Y
  rw[q]at U;cases U;exact hd aa
def C4{P:zah}{w:World}{K:zae}{mg:Str->Option Value}{base:Heap}{N:List Str}{G:Str}{scope:Scope}{Y:Addr}{J:Value}{A:zal}{outer:List Env}{s:zab}{H:Hp}{E E':XK}{pins:List (Addr×Obj)}{σ:L2.St}{H1:Hp}{s1 s':zab}{e:Value}
  (I:Inv (dC (uV P w) P w K mg base N G scope Y J A outer s H E) pins σ H1 s1) (hx:uV P w (dC (uV P w) P w K mg base N G scope Y J A outer s H E).stack H1 s1 E' e s') (hE:∀v c H2,E' v c H2->E v c H2) :
  (dC (uV P w) P w K mg base N G scope Y J A outer s H E).xe e s':=by
 obtain⟨ea,C,H2,h1,fs,c,rfl,os,W,un,hok,hf,ac,fl,ae⟩:=hx;obtain⟨B,a0,kB,fw⟩:=id fl.fly;have F:=I.base;have af:∀b o,s.heap.get? b=bx o->b≠s.heap.objs.size:=λb o q=>zaE<|zao q
 have hW:∀b,b∈frs (dC (uV P w) P w K mg base N G scope Y J A outer s H E).stack->b=s.heap.objs.size\/b∈frs outer:=λb U=>List.mem_cons.mp<|show b∈s.heap.objs.size::frs outer from U
 refine LR I.ok.frames rfl fw λh2 ad ln sm=>?_
 refine⟨ea,C,H2,h1,fs,c,rfl,os.trans I.os,W,⟨λb o q n U hx=>?_,λb o q n U hx=>?_,λb o q n hx=>?_,λb o q hx=>?_,λb xs q=>un.tups b xs<|F.tups b xs q,λb o u q=>un.frzs b o u<|F.frzs b o u q,λb ps q=>?_⟩,hok,hf,λb U=>?_,⟨⟨B,a0,kB,ad⟩,fl.up.trans sm,fl.fsd,fl.new,λz=>ln<|fl.cx z⟩,hE _ _ _ ae⟩
 .exact un.keep b o (F.keep b o q n U hx) (F.free b o q n hx) (λz=>(hW b z).elim (af b o q) U) hx
 .obtain⟨sl,r⟩:=F.slot b o q n U hx
  obtain⟨aa,r'⟩:=un.any r (F.free b o q n hx) hx;exact⟨aa,r'⟩
 .obtain⟨o',r⟩:=F.there b o q hx
  exact un.free b o' r (F.free b o q n hx) hx
 .obtain⟨o',r⟩:=F.there b o q hx
  exact un.there b o' r hx
 .obtain⟨m1,r⟩:=F.tbls b ps q
  obtain⟨m2,r'⟩:=un.tbls b _ r;exact⟨m1++m2,by rw[r',zeg]⟩
 .rcases ac b U with z|z
  .rcases hW b z with z|z
   .exact .inr<|zdq<|zc9 z.symm
   .exact .inl z
  .refine .inr ?_
   cases q:s.heap.get? b with
   |none=>rfl
   |some o=>
    obtain⟨o',r⟩:=F.there b o q λz=>nomatch z
    rw[z]at r;cases r
def zJ{P:zah}{w:World}{K:zae}{mg:Str->Option Value}{base:Heap}{N:List Str}{F:Str}{scope:Scope}{J:Addr}{G:Value}{A:zal}{outer:List Env}{s:zab}{H:Hp}{E:XK}{pins:List (Addr×Obj)}{σ:L2.St}{H1:Hp}{U:zab}{h' B:Heap}{ea C L:Addr}{a0:Value}
  (I:Inv (dC (uV P w) P w K mg base N F scope J G A outer s H E) pins σ H1 U) (hL:(dC (uV P w) P w K mg base N F scope J G A outer s H E).env.frame=bx L) (kB:∀b o,U.heap.get? b=bx o->b∉frs (dC (uV P w) P w K mg base N F scope J G A outer s H E).stack->B.get? b=bx o)
  (hh:zcW B (dC (uV P w) P w K mg base N F scope J G A outer s H E).stack ea (.ref C) a0 L h') (up:U.heap.UpToSlots h') (nw:U.heap.get? ea=cb) (hE:E (.ref C) (bx 0) H1) :
  (dC (uV P w) P w K mg base N F scope J G A outer s H E).xe (.ref ea) {U with heap:=h'}:=by
 refine leave_held hL hh λh2 fl _ ab=>?_
 refine⟨ea,C,H1,U.heap,frs (dC (uV P w) P w K mg base N F scope J G A outer s H E).stack,bx 0,rfl,I.os,I.bare,I.base,I.hok,I.stkFree,λb Y=>?_,⟨⟨B,a0,kB,fl⟩,up.trans ab,λb Y o q aa=>?_,nw,λz=>nomatch z⟩,hE⟩
 .rcases List.mem_cons.mp (show b∈s.heap.objs.size::frs outer from Y)with e|e
  .exact .inr<|zdq<|zc9 e.symm
  .exact .inl e
 .obtain⟨_,o',W,hd⟩:=I.stack.mem Y
  rw[q]at W;cases W;exact hd aa
def kU(X:Cx)(ea:Addr)(oe:Obj):Cx:={X with A:=X.A.mark<|bx<|.ref ea,calm:=ci,pn:=(ea,oe)::X.pn,xe:=λ_ _=>False}
section
variable {X:Cx}{pins:List (Addr×Obj)}{σ:L2.St}{H:Hp}{s:zab}{ea:Addr}{oe:Obj}
def qy(I:Inv X pins σ H s)(G:s.heap.get? ea=bx oe)(J:H ea=cb)(q:ea≠X.env.locals)(F:ea∉X.fs)(N:∀v,oe.data≠.cell v):Inv (kU X ea oe) pins σ H s:=by
 have ok:=I.ok;refine⟨⟨ok.mod,ok.kind,ok.glob,ok.blt,ok.above,ok.inj,ok.has,ok.cab,λz=>(nomatch z),ok.frames,ok.stk,ok.exf,ok.bs,ok.bsz,ok.noex,ok.exfs,ok.funs,ok.frf⟩,I.os,I.bare,I.base,I.loc,I.cell,I.free,I.freeC,λp U=>?_,I.hok,I.len⟩;rcases List.mem_cons.mp U with z|z
 .subst z;exact⟨G,J,q,F,N⟩
 .exact I.pin p z
def RQ(I:Inv (kU X ea oe) pins σ H s)(hd:X.calm=cf->X.A.handled=cb):Inv X pins σ H s:=by
 have ok:=I.ok;exact⟨⟨ok.mod,ok.kind,ok.glob,ok.blt,ok.above,ok.inj,ok.has,ok.cab,hd,ok.frames,ok.stk,ok.exf,ok.bs,ok.bsz,ok.noex,ok.exfs,ok.funs,ok.frf⟩,I.os,I.bare,I.base,I.loc,I.cell,I.free,I.freeC,λp q=>I.pin p<|zaq _ q,I.hok,I.len⟩
def M2{s':zab}{e:Value}{C0 Cy:Addr}{Good:Option Addr->Hp->Prop}{y n:Str}{yp U:Pos}{ac:Stmt}{Y:List Stmt}{Q:Flow->zab->Prop}(I:Inv X pins σ H s)(N:X.stack=X.env::X.outer)(a1:X.env.frame=bx X.env.locals)
  (hx:uV X.prog X.w X.stack H s (λc a H2=>c=.ref C0/\Good a H2) e s')
  (hg:Gl X y) (hm:X.mg y=bx (.ref Cy)) (a4:PySem.W.exmOne X.K (.ref C0) (.ref Cy)=bx cf)
  (k:∀(ea:Addr) (oe:Obj) (c:Option Addr) (H1:Hp) (s6:zab), oe.cls = .ref C0 -> Good c H1 -> (c = cb -> i7 s6.heap ea) -> Inv (kU X ea oe) pins σ H1 s6 ->
   wpAny (model X.prog X.w) (X.A.mark<|bx<|.ref ea) (storeName X.env n<|.ref ea) (λ_ G=>wpAny (model X.prog X.w) (X.A.mark<|bx<|.ref ea) (execs (ac::Y) X.env)
    (λf F=>wpAny (model X.prog X.w) X.A (do bindName X.env n .none;unbindBehindTheSuite X.env n U) (λ_ an=>Q f an) X.xe F) (λx F=>wpAny (model X.prog X.w) (X.A.mark<|bx<|.ref ea) (zcv x X.env) (λ_ s4=>wpAny (model X.prog X.w) (X.A.mark<|bx<|.ref ea) (do bindName X.env n .none;unbindBehindTheSuite X.env n U)
    (λ_ s5=>wpAny (model X.prog X.w) (X.A.mark<|bx<|.ref ea) (passOn "try.except-as" x X.env:Sem Flow) (λ_ _=>False) (notedBy (model X.prog X.w) (X.A.mark<|bx<|.ref ea) X.env λx s'=>cameBackBy (model X.prog X.w) X.A X.env X.xe x s') s5) (λ_ _=>False) s4) (λ_ _=>False) F) G) (λ_ _=>False) s6)
  (a5:(y == ("__debug__" : Str))=ci:=by decide) :
  wpAny (model X.prog X.w) X.A (zcv e X.env) (λ_ G=>wpAny (model X.prog X.w) X.A (zdi e cb) (λ_ F=>wpAny (model X.prog X.w) X.A (handleBy e X.env [.ExceptHandler (bx<|.Name y yp) (bx n) (ac::Y) U]) Q X.xe F) X.xe G) X.xe s':=by
 obtain⟨ea,C,H1,h1,fs,c,rfl,os,ai,un,hok,hf,a3,fl,ec,ao⟩:=hx;cases ec;obtain⟨B,a0,kB,fw⟩:=id fl.fly;have as:X.A.frames=bx (X.env::X.outer):=I.ok.frames.trans (by rw[N]);rw[N]at fw;refine GZ as a1 fw λh4 ad ah al=>?_
 refine lands ad λh5 ap ae aw=>?_
 have fin:∀ {h6:Heap},zbv B (X.env::X.outer) ea (.ref C0) a0 h6->(c=cb->i7 h6 ea)->s'.heap.UpToSlots h6->∃oe,h6.get? ea=bx oe/\oe.cls=.ref C0/\Inv (kU X ea oe) pins σ H1 {s' with heap:=h6}:=λ{h6} ab ln af=>by
  have am:Fly X.stack fs h1 ea C0 c h6:=⟨⟨B,a0,kB,N ▸ ab⟩,fl.up.trans af,fl.fsd,fl.new,ln⟩;have I6:Inv X pins σ H1 {s' with heap:=h6}:=I.call' (s':={s' with heap:=h6}) (ch:=[]) os (am.un un a3) (am.hok hok hf) ai λb hb=>nomatch hb
  obtain⟨oe,vs,he,J,ak,_⟩:=ab.first
  have au:∀b∈X.env.locals::X.fs,ea≠b:=λb hb z=>by
   have:∃o,s.heap.get? b=bx o:=by
    rcases List.mem_cons.mp hb with q|q
    .obtain⟨m,⟨o,es,ep,ho,_⟩,_⟩:=I.loc
     exact⟨o,q ▸ ho⟩
    .obtain⟨_,o,ho,_⟩:=I.funs.mem q
     exact⟨o,ho⟩
   obtain⟨o,ho⟩:=this;obtain⟨o',aj⟩:=un.there b o ho λq=>nomatch q
   rw[<- z,fl.new]at aj;cases aj
  exact⟨oe,he,J,qy I6 he (fl.fresh hok) (au _<|zar ..) (λz=>au _ (zaq _ z) rfl) λv z=>by rw[ak]at z;cases z⟩
 obtain⟨oe,he,J,J5⟩:=fin ap (λz=>ae<|ah<|fl.cx z)<|al.trans aw;refine wpAny_handleBy_cons (codeAny_handlers_test ?_) (by intro q;cases q);refine iU (X:=kU X ea oe) J5 hg hm ?_ a5;have LT:PySem.W.Looks (model X.prog X.w) h5 (typeOf<|.ref ea)<|.ref C0:=J ▸ (PySem.W.Looks.ld he).andThen .now;refine(PySem.W.exm_one (M:=model X.prog X.w) (h:=h5) J5.kIn LT a4).here ?_;refine codeAny_handlers_suite_as ?_;refine W1 ap λh6 ab ar af=>?_
 obtain⟨a6,_,ag,J6⟩:=fin ab (λz=>ar<|ae<|ah<|fl.cx z)<|(al.trans aw).trans af;refine zaJ (k ea a6 c H1 _ ag ao (λz=>ar<|ae<|ah<|fl.cx z) J6) (λ_ s2 h2=>zaJ h2 (λf s3 h3=>h3) λx s3 h3=>?_) λ_ _ z=>z.elim
 exact zaJ h3 (λ_ s4 h4=>zaJ h4 (λ_ s5 h5=>h5) λ_ _ z=>z.elim) λ_ _ z=>z.elim
end
end My
namespace My
open PySem.SeqAt PySem.W
abbrev bmV:List Value:=[.type "ValueError",.type "Exception",.type "BaseException",.type "object"]
set_option tactic.hygienic true in
def UA{K:zae}{h:Heap}{C:Addr}{J:List Value}{z:String}(X:K.In h)(q:zd4 K C J z=cf) :
  ∃bm N nm U bs hdct sn sub ab col dd k0 k1 k2 k3 k5 mN,h.get? C=bx (excClassObj nm U C N bs bm hdct sn sub ab col dd k0 k1 k2 k3 k5 z)/\h.Ns N mN/\mN "__init__" = cb/\OwnTail h J bm:=by
 unfold zd4 at q;split at q
 .rename_i dd cd sl ho
  split at q
  .rename_i C' bm k0 k1 k2 k3 n k5 hm hs
   simp only[zaV,beq_iff_eq,Bool.not_eq_true']at q;obtain⟨⟨⟨⟨⟨rfl,rfl⟩,F⟩,ht⟩,hok⟩,G⟩:=q;obtain⟨nm,bs,aa,ns,U,hd,sn,sub,ab,col,Y⟩:=cd;dsimp only at hm F hok G;subst hm F;have W:sl=#[k0,k1,k2,k3,bx<|.builtin n,k5]:=by
    obtain⟨l⟩:=sl;simp only at hs;rw[hs]
   subst W;exact⟨bm,ns,nm,U,bs,hd,sn,sub,ab,col,dd,k0,k1,k2,k3,k5,_,X _ _ ho,.of_isNs<|isNs_of_in X hok,nsMap_none_of_in X hok G,tail_of_in X ht⟩
  .cases q
 .cases q
structure ExcAt(K:zae)(mg:Str->Option Value)(x:Str)(C:Addr):Prop where
 bound:mg x=bx (.ref C)
 ex:zd4 K C bmV "ValueError.__new__" = cf
 k:ExcK K C
section
variable {X:Cx}{pins:List (Addr×Obj)}{σ:L2.St}{H:Hp}{s:zab}
def L5{x t:Str}{C:Addr}{j}{Y J cpos pos:Pos}{Q:Flow->zab->Prop}{E:Value->zab->Prop}(I:Inv X pins σ H s)(hc:X.calm=cf)(hg:Gl X x)(T:ExcAt X.K X.mg x C)
  (k:∀h' e vs,zd3 s.heap h' e (.ref C) vs->E (.ref e) {s with heap:=h',toks:=s.toks+1}) (z:(x == ("__debug__" : Str))=ci:=by decide) :
  wpAny (model X.prog X.w) X.A (exec (.Raise (bx<|.Call (.Name x Y) [.Constant (.str t) j J] [] cpos) cb pos) X.env) Q E s:=by
 obtain⟨bm,N,nm,U,bs,hdct,sn,sub,ab,col,dd,k0,k1,k2,k3,k5,mN,W,hN,G,tl⟩:=UA I.kIn T.ex;refine wpAny_Raise_call_subT PySem.F.excBase_ValueError (C:=C) (nm:=nm) (q:=U) (N:=N) (bs:=bs) (bm:=bm) (hdct:=hdct) (sn:=sn) (sub:=sub) (ab:=ab) (col:=col) (dd:=dd) (k0:=k0) (k1:=k1) (k2:=k2) (k3:=k3) (k5:=k5) (mN:=mN) (tl.hasType PySem.F.excBase_ValueError.hasBase) (I.ok.hd hc) rfl G<|iU I hg T.bound ⟨rfl,?_⟩ z;refine Calls.evalArgs_plain<|Calls.spliced_cons<|Calls.Constant_str (k:=j) (pos:=J)<|Calls.spliced_nil ?_;exact⟨rfl,(show(1:Nat)<=zai by decide),W,hN,tl,λh' e hm=>k h' e _ hm⟩
def DI{ie:Nat}{n:Str}{m:Str->Option Value}{v:Option Value}{h':Heap}{t':Nat}(I:Inv X pins σ H s)(hN:X.N.Nodup)(hi:X.N[ie]?=bx n)(hn:s.heap.Ns X.env.locals m)
  (hl:∀(i:Nat) (x:Str) (v:V),X.N[i]?=bx x->σ[i]?=bx (bx v)->QO X.env.scope x->∃u,RelV v u/\Look X.env s.heap m x u)
  (aa:h'.Ns X.env.locals λx=>if x=n then v else m x) (hs:za6 X.env.locals s.heap h'):Inv X pins (σ.set ie cb) H {s with heap:=h',toks:=t'}:=by
 have cne:=I.cne;obtain⟨oL,_,_,aj,_⟩:=id hn;refine⟨I.ok,I.os,I.bare,⟨λb o e n Y hx=>?_,λb o e n Y hx=>?_,I.base.free,λb o e hx=>?_,I.base.tups,I.base.frzs,I.base.tbls⟩,⟨_,aa,λj y v' G U e3=>?_⟩,λy c e=>?_,I.free,I.freeC,λp hp=>?_,λb ob e=>?_,by simpa using I.len⟩
 .exact(hs.2 b<|zaE<|zaY (zao e) I.ok.above).trans<|I.base.keep b o e n Y hx
 .obtain⟨sl,G⟩:=I.base.slot b o e n Y hx
  exact⟨sl,(hs.2 b<|zaE<|zaY (zao e) I.ok.above).trans G⟩
 .obtain⟨o',G⟩:=I.base.there b o e hx
  exact⟨o',(hs.2 b<|zaE<|zaY (zao e) I.ok.above).trans G⟩
 .by_cases W:j=ie
  .subst W
   rw[List.getElem?_set]at U;simp at U
  .rw[za7<|zaI W]at U
   obtain⟨u',r',q⟩:=hl j y v' G U e3;refine⟨u',r',?_⟩;rcases q with⟨k,e⟩|⟨k,c,e,z⟩
   .refine .inl ⟨k,?_⟩
    have:y≠n:=λe=>W<|sU hN G<|e ▸ hi
    simp[this,e]
   .exact .inr ⟨k,c,e,z.sameBut hs<|cne y c e⟩
 .obtain⟨w',z⟩:=I.cell y c e
  exact⟨w',z.sameBut hs<|cne y c e⟩
 .obtain⟨e,n,ne,nf,d⟩:=I.pin p hp
  exact⟨(hs.2 p.1 ne).trans e,n,ne,nf,d⟩
 .refine(I.hok b ob e).stay (λc w' J q=>(hs.2 c ?_).trans q) (λ_ q=>q) λ_ _ q=>q
  have F:=I.free;rintro rfl;rcases J with rfl|J
  .rw[F]at e;cases e
  .rw[F]at J;cases J
def tE(ie:Nat)(ea:Addr)(b:Bool):TE:=λσ H Q=>σ[ie]?=bx (bx<|.ref ea)/\∀H',(∀A,P.Ext A H H')->Q (.bl b) H'
def MI{K:zae}{C:Addr}:zbp K (.ref C) (.ref C)=bx cf:=by unfold zbp;rw[ck<|by simp]
structure CK(K:zae)(C:Addr):Prop where
 ex:∃cd,zd5 K C=bx cd
 ty:zdx K (.ref C)=bx (.type "type")
def CK.is{K:zae}{C:Addr}(k:CK K C):(zd5 K C).isSome=cf:=by obtain⟨q,e⟩:=k.ex;rw[e];rfl
def SC{K:zae}{C0 C:Addr}{b:Bool}(n:(C0 == C)=ci)(hs:za3 K (.ref C0) (.ref C)=bx b)(k:CK K C):zbp K (.ref C0) (.ref C)=bx b:=by
 unfold zbp;rw[cq λz=>by have:=Value.ref.inj<|beq_iff_eq.mp z;rw[this]at n;simp at n];show(if _ then _ else _)=_;rw[ck<|by rw[k.is,k.ty];rfl];exact hs
def SF{K:zae}{C0:Addr}{T:String}{b:Bool}(q:PySem.W.kitMeta T=cf)(hs:za3 K (.ref C0) (.type T)=bx b):zbp K (.ref C0) (.type T)=bx b:=by
 unfold zbp;rw[cq λz=>by cases beq_iff_eq.mp z];show(if _ then _ else _)=_;rw[ck q];exact hs
def UG{K:zae}{C0 C:Addr}{b:Bool}(hs:za3 K (.ref C0) (.ref C)=bx b)(k:CK K C)(be:za3 K (.ref C) (.type "BaseException")=bx cf):PySem.W.exmOne K (.ref C0) (.ref C)=bx b:=by
 unfold PySem.W.exmOne;rw[ck<|by rw[be];rfl];show(if _ then _ else _)=_;rw[ck<|by rw[k.is,k.ty];rfl];exact hs
def any_cons{K:zae}{t c:Value}{q:List Value}(h:zbp K t c=bx ci)(r:zdj K t q=bx ci):zdj K t (c::q)=bx ci:=by
 unfold zdj;rw[h];exact r
def rE1(ea:Addr)(cv:V)(b:Bool):List V->Hp->VK->Prop:=λvs H Q=>vs=[.ref ea,cv]/\Q (.bl b) H
def qaz{ea C0:Addr}{oe:Obj}{cv:V}{b:Bool}(J:(ea,oe)∈X.pn)(G:oe.cls=.ref C0)(k:ExcK X.K C0)(F:∀u,RelV cv u->zbp X.K (.ref C0) u=bx b):CallR X (.builtin "isinstance")<|rE1 ea cv b:=by
 intro pins s σ H xs U Q I r ⟨ex,q⟩;subst ex;obtain⟨N,W,rfl,r1,r2⟩:=vals2 r;cases r1;exact zbh (AD zeT k) I.kIn ⟨oe,(I.pin (ea,oe)<|zbq _ J).1,G⟩ (F _ r2) (λz=>nomatch z) λtk=>⟨.bl b,H,I.tok tk,rfl,q⟩
end
end My
namespace P
abbrev Xv:=cA->Option Str
def chained(x:Str):Bool:=x == ("NoMake" : Str)
inductive Raised(X:Cx)(A0:Av)(H0:Hp)(x:Str):Value->zab->Prop
 | made {pins:List (Addr×Obj)} {σ:L2.St} {H':Hp} {s':zab} {h':Heap} {ea C:Addr} {vs:List Value}:X.mg x=bx (.ref C)->Inv X pins σ H' s'->Ext A0 H0 H'->zd3 s'.heap h' ea (.ref C) vs->Raised X A0 H0 x (.ref ea) {s' with heap:=h'}
 | flew {pins:List (Addr×Obj)} {σ:L2.St} {H':Hp} {s' s2:zab} {e:Value}:Inv X pins σ H' s'->My.uV X.prog X.w X.stack H' s' (λc a H2=>∃C,X.mg x=bx (.ref C)/\c=.ref C/\(chained x=ci->a=cb)/\Ext A0 H0 H2) e s2->Raised X A0 H0 x e s2
 | held {pins:List (Addr×Obj)} {σ:L2.St} {H':Hp} {s':zab} {h' B:Heap} {ea C L:Addr} {a0:Value}:chained x=cf->X.mg x=bx (.ref C)->Inv X pins σ H' s'->Ext A0 H0 H'->X.env.frame=bx L->(∀b o,s'.heap.get? b=bx o->b∉frs X.stack->B.get? b=bx o)->zcW B X.stack ea (.ref C) a0 L h'->s'.heap.UpToSlots h'->s'.heap.get? ea=cb->Raised X A0 H0 x (.ref ea) {s' with heap:=h'}
def PX(X:Cx)(O:List Nat)(st:Stmt)(g:Xv):Prop:=∀(pins:List<|Addr×Obj) (s:zab) (σ:L2.St) (H H0:Hp) (A0 A:Av) (E:List Fact) (ρ:cA) (x:Str),Inv X pins σ H s->ST H0 A0 A E O σ H ρ->g ρ=bx x->
 (∀e s',Raised X A0 H0 x e s'->X.xe e s')->wpAny (model X.prog X.w) X.A (exec st X.env) (λ_ _=>False) X.xe s
def V8(X:Cx)(O:List Nat)(q:List Stmt)(g:Xv):Prop:=∀(pins:List<|Addr×Obj) (s:zab) (σ:L2.St) (H H0:Hp) (A0 A:Av) (E:List Fact) (ρ:cA) (x:Str),Inv X pins σ H s->ST H0 A0 A E O σ H ρ->g ρ=bx x->
 (∀e s',Raised X A0 H0 x e s'->X.xe e s')->wpAny (model X.prog X.w) X.A (execs q X.env) (λ_ _=>False) X.xe s
section
variable {X:Cx}{L:Lp}{O O2 O':List Nat}
def qj:Xv:=λ_=>cb
def VQ{st:Stmt}:PX X O st qj:=λ_ _ _ _ _ _ _ _ _ _ _ _ e=>nomatch e
def XR{q:List Stmt}:V8 X O q qj:=λ_ _ _ _ _ _ _ _ _ _ _ _ e=>nomatch e
def xIs(x:Str):Xv:=λ_=>bx x
def BH{x t:Str}{j}{F z cpos pos:Pos}(N:X.calm=cf)(G:Gl X x)(T:∃C,My.ExcAt X.K X.mg x C)(q:(x == ("__debug__" : Str))=ci:=by decide) :
  PX X O (.Raise (bx<|.Call (.Name x F) [.Constant (.str t) j z] [] cpos) cb pos) (xIs x):=λpins s σ H H0 A0 A E ρ y I st e W=>by
 cases e;obtain⟨C,T⟩:=T;refine My.L5 I N G T (λh' e vs J=>?_) q;exact W _ _<|.made (s':={s with toks:=s.toks+1}) T.bound (I.tok _) st.ex J
def xV{st:Stmt}{g:Xv}{rest:List Stmt}(h:PX X O st g):V8 X O (st::rest) g:=λpins s σ H H0 A0 A E ρ y I q e W=>
 zcI (zaJ (h pins s σ H H0 A0 A E ρ y I q e W) (λ_ _ z=>z.elim) λ_ _ z=>z)
def xIf(c:Bv)(f g:Xv):Xv:=λρ=>(c ρ).bind λb=>if b=cf then f ρ else g ρ
def qaP{c:Expr}{a b:List Stmt}{pos:Pos}{g:Bv}{f k:Xv}(hc:uT X.nox O c g)(N:V8 X O a f)(U:V8 X O b k):PX X O (.If c a b pos)<|xIf g f k:=λpins s σ H H0 A0 A E ρ y I st e W=>by
 obtain⟨F,Y,e⟩:=bind_some e;refine wpAny_If<|cP (PT.nox hc pins s σ H (λb' H1=>b'=F/\Ext A H H1) I ⟨H0,A0,A,E,ρ,F,st,Y,λH1 q=>⟨rfl,q⟩⟩) λd J ⟨H1,G,ed,q⟩=>?_;subst ed;cases d with
 |true=>rw[ck rfl]at e;exact zaJ (N pins J σ H1 H0 A0 A E ρ y G (st.mono q) e W) (λ_ _ z=>z.elim) λ_ _ z=>z
 |false=>rw[cq zaB]at e;exact zaJ (U pins J σ H1 H0 A0 A E ρ y G (st.mono q) e W) (λ_ _ z=>z.elim) λ_ _ z=>z
def EW(g1:Xv)(f:Sv)(g2:Xv):Xv:=λρ=>((g1 ρ).map bx).getD ((f ρ).bind λo=>match o with
 |.nx ρ'=>g2 ρ'
 |_=>cb)
def PS.lift{st:Stmt}{t:TS}(h:PS X.nox st t):PS X st t:=λpins s σ H D I hw=>zaJ (h pins s σ H D (I.wish _) hw) (λ_ _ q=>q.unwish) λ_ _ z=>z.elim
def sR{st:Stmt}{rest:List Stmt}{g1 g2:Xv}{f:Sv}(h1:PX X O st g1)(U:PSD X.nox ⟨[],[]⟩ O st f O2)(h2:V8 X O2 rest g2):V8 X O (st::rest)<|EW g1 f g2:=λpins s σ H H0 A0 A E ρ y I G e W=>by
 unfold EW at e;cases e1:g1 ρ with
 |some z=>
  rw[e1]at e;cases e;exact zcI<|zaJ (h1 pins s σ H H0 A0 A E ρ y I G e1 W) (λ_ _ z=>z.elim) λ_ _ z=>z
 |none=>
  rw[e1]at e;obtain⟨o,Y,e⟩:=bind_some e;cases o with
  |nx ρ'=>
   refine zcI<|cP (PS.lift U pins s σ H {nx:=λF H'=>∃A',ST H0 A0 A' E O2 F H' ρ',rt:=λ_ _=>False} I ⟨H0,A0,A,E,ρ,_,G,Y,λA' F H' z=>⟨A',z⟩⟩) λfl N q=>?_;cases fl with
   |next=>
    obtain⟨F,H',J,A',z⟩:=q;exact h2 pins N F H' H0 A0 A' E ρ' y J z e W
   |ret v=>obtain⟨_,_,_,_,_,q⟩:=q;exact q.elim
   |brk=>obtain⟨_,_,_,q⟩:=q;exact q.elim
   |cont=>obtain⟨_,_,_,q⟩:=q;exact q.elim
  |rt d=>cases e
  |bk d=>cases e
  |ct d=>cases e
end
def spX(n:Nat)(mg:Str->Option Value)(F:List D->Option D)(G:List D->Option Str):Sp:=λvs H Q E=>vs.length=n/\∃A ds,Live A H/\RepL A H ds vs/\((∃d,F ds=bx d/\∀v H',Ext A H H'->Rep A H' d v->Q v H')\/∃x,G ds=bx x/\∀C a H',mg x=bx (.ref C)->(chained x=ci->a=cb)->Ext A H H'->E (.ref C) a H')
structure FnX(P:zah)(w:World)(K:zae)(mg:Str->Option Value)(base:Heap)(x:Str)(k:Nat)(ps:List Str)(F:List D->Option D)(G:List D->Option Str):Prop where
 ex:∃f fd,zbC K (.ref f)=cf/\Binds K fd ps []/\mg x=bx (.ref f)/\FnOk P w K mg base (My.uV P w) k f fd ps (spX ps.length mg F G)
def K5(n:Nat)(g:Xv)(ds:List D):Option Str:=g<|aH n ds
def XO{P:zah}{w:World}{K:zae}{mg:Str->Option Value}{base:Heap}{x:Str}{st:Stmt}{N ps:List Str}{k:Nat}{f:Sv}{gx:Xv}{O':List Nat}(Df:My.DefAt K mg x st ps)(S:FnScope N ps<|aF st)
  (h:∀(J:Addr) (G:Value) (A:zal) (outer:List Env) (s:zab) (H:Hp) (E:XK),Room k (A.deeper<|zaH x (aF st) s.heap.objs.size J G)->∃g,PSDs (dC (My.uV P w) P w K mg base N x (aF st) J G A outer s H E).nox ⟨[],[]⟩ [] (bF st) g O'/\g=f)
  (hx:∀(J:Addr) (G:Value) (A:zal) (outer:List Env) (s:zab) (H:Hp) (E:XK),Room k (A.deeper<|zaH x (aF st) s.heap.objs.size J G)->∃g,V8 (dC (My.uV P w) P w K mg base N x (aF st) J G A outer s H E) [] (bF st) g/\g=gx) :
  FnX P w K mg base x (k+1) ps (bE N.length f) (K5 N.length gx):=by
 obtain⟨J,fd,F,B,hm⟩:=Df.ex;obtain⟨oc,od,kV,ah,pm,an,G,ct,ai,rfl,lk,aa⟩:=F.ex;refine⟨J,_,F.kp,B,hm,V5 lk aa S (λvs H Q E hs=>hs.1) λA outer s H vs Q E hr hsp=>?_⟩;obtain⟨_,Y,ds,lv,r,hsp⟩:=hsp;rcases hsp with⟨d,eF,q⟩|⟨y,eG,q⟩
 .obtain⟨g,hg,rfl⟩:=h J G A outer s H E hr
  obtain⟨o,eo,U⟩:=bind_some eF;refine⟨_,PSs.nox hg,H,Y,Y,[],_,o,ST.begun lv r,eo,?_⟩;cases o with
  |nx ρ=>cases U;exact λA2 ag H2 s2=>q .non H2 s2.ex .non
  |rt d'=>cases U;exact λv H2 x2 r2=>q v H2 x2 r2
  |bk _=>cases U
  |ct _=>cases U
 .obtain⟨g,hg,rfl⟩:=hx J G A outer s H E hr
  refine⟨λT σ H1=>σ=L2.start N vs/\H1=H,λpins s1 σ H1 T I ⟨e1,U⟩=>?_,rfl,rfl⟩;subst e1 U;refine zaJ (hg pins s1 _ H1 H1 Y Y [] _ y I (ST.begun lv r) eG λe s' R=>?_) (λ_ _ z=>z.elim) λ_ _ z=>z
  cases R with
  |made W I' x' hm'=>exact My.w9 I' hm'<|q _ _ _ W (λ_=>rfl) x'
  |flew I' hx'=>exact My.C4 I' hx' λc a H2 ⟨C,W,ec,ha,x2⟩=>by subst ec;exact q C a H2 W ha x2
  |held hc W I' x' hL kB hh up nw=>exact My.zJ I' hL kB hh up nw<|q _ _ _ W (λz=>by rw[hc]at z;cases z) x'
section
variable {X:Cx}{O:List Nat}
def VV(G:List D->Option Str)(f:Lv):Xv:=λρ=>(f ρ).bind G
end
end P
namespace My
open PySem.SeqAt
section
variable {X:Cx}
def Oth(K:zae)(mg:Str->Option Value)(C0:Addr)(z:Str):Prop:=∃C,mg z=bx (.ref C)/\CK K C/\(C0 == C)=ci/\za3 K (.ref C0) (.ref C)=bx ci
structure TryAt(K:zae)(mg:Str->Option Value)(x0 y:Str)(ys:List Str):Prop where
 ex:∃C0 Cy,ExcAt K mg x0 C0/\mg y=bx (.ref Cy)/\CK K Cy/\za3 K (.ref Cy) (.type "BaseException")=bx cf/\za3 K (.ref C0) (.ref Cy)=bx cf/\za3 K (.ref C0) (.type "ValueError")=bx cf/\∀z∈ys,Oth K mg C0 z
def TryAt.cls{K:zae}{mg:Str->Option Value}{q y:Str}{ys:List Str}(T:TryAt K mg q y ys):∃C,ExcAt K mg q C:=by
 obtain⟨C0,_,h,_⟩:=T.ex;exact⟨C0,h⟩
def tCs(q:List V):TA:=λ_ H Q=>Q q H
def PO(X:Cx)(C0:Addr)(es:List Expr):Prop:=∃q:List V,PA X es (tCs q)/\(q.length=es.length)/\∀z,Vals q z->zdj X.K (.ref C0) z=bx ci
def xN{ea C0:Addr}{oe:Obj}{cv:V}{b:Bool}{ie:Nat}{F z:Expr}{p pos:Pos}(hp:(ea,oe)∈X.pn)(hc:oe.cls=.ref C0)(k:ExcK X.K C0)(G:∀u,RelV cv u->zbp X.K (.ref C0) u=bx b)
  (N:Gl X "isinstance") (Y:X.mg "isinstance" = cb) (J:PE X F<|cN ie) (h2:PE X z<|tC cv)
  (h1:zaf [F,z] X.env=(ci,eval F X.env)::zaf [z] X.env:=by rfl) (W:(zaG pos<|zaf [z] X.env).any (·.1)=ci:=by rfl) (U:zaf [z] X.env=(ci,eval z X.env)::zaf [] X.env:=by rfl) :
  PE X (.Call (.Name "isinstance" p) [F,z] [] pos) (tE ie ea b):=
 P.PE.mono (mZ (qaz hp hc k G) N Y boot_isinstance (bX J (bX h2 eK U) h1) (by decide) (by decide) h1 W) λσ H Q ⟨e,q⟩=>⟨_,e,rfl,q H λA=>P.Ext.refl A H⟩
end
end My
namespace P
def ST.blank{H0:Hp}{A0 A:Av}{E:List Fact}{O:List Nat}{σ:L2.St}{H:Hp}{ρ:cA}(s:ST H0 A0 A E O σ H ρ){i:Nat}{o:Option V}(n:i∉O):ST H0 A0 A E O (σ.set i o) H (ρ.set i cb) where
 ex:=s.ex
 sub:=s.sub
 l0:=s.l0
 live:=s.live
 len:=by simp[s.len]
 val:=λj d' h' F=>by
  rcases dA h' with⟨_,q,_⟩|⟨e,q⟩
  .cases q
  .obtain⟨w,h1,h2⟩:=s.val j d' q F;exact⟨w,by rw[za7<|zaI e];exact h1,h2⟩
 own:=λj d' h' F=>by
  rcases dA h' with⟨_,q,_⟩|⟨e,q⟩
  .cases q
  .obtain⟨w,h1,h2⟩:=s.own j d' q F;exact⟨w,by rw[za7<|zaI e];exact h1,h2⟩
 inj:=λj k d1 d2 a G J h1 h2 N U=>by
  have W:i≠j:=λz=>n<|z ▸ G
  have Y:i≠k:=λz=>n<|z ▸ J
  rcases dA h1 with⟨_,e,_⟩|⟨_,h1⟩
  .cases e
  rcases dA h2 with⟨_,e,_⟩|⟨_,h2⟩
  .cases e
  exact s.inj j k d1 d2 a G J h1 h2 (by rw[za7 W]at N;exact N)<|by rw[za7 Y]at U;exact U
 ext:=s.ext
end P
namespace P
def PXE(X:Cx)(O:List Nat)(e:Expr)(g:Xv):Prop:=∀(pins:List<|Addr×Obj) (s:zab) (σ:L2.St) (H H0:Hp) (A0 A:Av) (E:List Fact) (ρ:cA) (x:Str),Inv X pins σ H s->ST H0 A0 A E O σ H ρ->g ρ=bx x->
 (∀e s',Raised X A0 H0 x e s'->X.xe e s')->wpAny (model X.prog X.w) X.A (eval e X.env) (λ_ _=>False) X.xe s
section
variable {X:Cx}{O:List Nat}
def MH{f:Str}{k:Nat}{ps:List Str}{F:List D->Option D}{G:List D->Option Str}{e:Expr}{es:List Expr}{fa:Lv}{p cpos:Pos}(FX:FnX X.prog X.w X.K X.mg X.base f k ps F G)(hr:Room k X.A)(hg:Gl X f)(ha:wW X.nox O (e::es) fa)(hl:∀ρ ds,fa ρ=bx ds->ds.length=ps.length)(af:(f == ("__debug__" : Str))=ci:=by decide)
  (he:zaf (e::es) X.env=(ci,eval e X.env)::zaf es X.env:=by rfl) (ag:(zaG cpos<|zaf es X.env).any (·.1)=ci:=by rfl) :
  PXE X O (.Call (.Name f p) (e::es) [] cpos) (VV G fa):=λpins s σ H H0 A0 A E ρ y I st eo W=>by
 obtain⟨ds,ed,eo⟩:=bind_some eo;obtain⟨fn,fd,hk,hb,hm,FO⟩:=FX.ex;refine zcJ<|iU I hg hm ?_ af;refine zdA (h₀:=X.base) I.ok.mod.kin hk (zaJ (ha cpos pins s σ H (λvs H1=>Ext A H H1/\RepL A H1 ds vs) (I.wish _) ⟨H0,A0,A,E,ρ,ds,st,ed,λvs H1 U r1=>⟨U,r1.toL⟩⟩) (λY s1 q=>?_) λ_ _ z=>z.elim) he ag;obtain⟨vs,H1,ab,r,U,rl⟩:=q;have J:=ab.unwish;have lv:=(st.mono U).live;have N:vs.length=ps.length:=by rw[rl.length];exact hl ρ ds ed
 have aa:Y.length=ps.length:=by rw[<- r.length];exact N
 refine⟨J.kIn,zda<|zcp (FO.run X.A X.stack s1 H1 ⟨Y,[]⟩ Y vs (λ_ _=>False) (λc a H2=>∃C,X.mg y=bx (.ref C)/\c=.ref C/\(chained y=ci->a=cb)/\Ext A0 H0 H2) hr J.env0 (by have:=hb s1 Y J.kIn (by rw[zbi];exact aa);rwa [zbi]at this) r ⟨N,A,ds,lv,rl,.inr ⟨y,eo,λC a H2 hC ha x2=>⟨C,hC,rfl,ha,(st.mono<|U.trans x2).ex⟩⟩⟩) λrr s2 q=>?_⟩;cases rr with
 |error e=>exact W _ _<|.flew J q
 |ok fl=>
  cases fl with
  |ret u=>obtain⟨v,H2,I2,rv,z⟩:=J.after q;exact z.elim
  |next=>exact zaP q
  |brk=>exact zaP q
  |cont=>exact zaP q
def Y2{e:Expr}{g:Xv}{pos:Pos}(h:PXE X O e g):PX X O (.Return (bx e) pos) g:=λpins s σ H H0 A0 A E ρ y I st q W=>
 wpAny_Return_some (zaJ (h pins s σ H H0 A0 A E ρ y I st q W) (λ_ _ z=>z.elim) λ_ _ z=>z)
end
end P
namespace My
open PySem.SeqAt
def tEV(ie:Nat)(ea:Addr)(d:P.D):TE:=λσ H Q=>σ[ie]?=bx (bx<|.ref ea)/\∀v H',(∀A,P.Live A H->P.Ext A H H'/\P.Rep A H' d v)->Q v H'
section
variable {X:Cx}
def tEs(ie:Nat)(ea:Addr)(bs:List Bool):TA:=λσ H Q=>σ[ie]?=bx (bx<|.ref ea)/\∀H',(∀A,P.Ext A H H')->Q (bs.map .bl) H'
def O8{ie:Nat}{ea:Addr}:PA X []<|tEs ie ea []:=λpos pins s σ H Q I ⟨e,q⟩=>eK pos pins s σ H Q I<|q H λA=>P.Ext.refl A H
def m9{ie:Nat}{ea:Addr}{b:Bool}{bs:List Bool}{e:Expr}{es:List Expr}(h:PE X e<|tE ie ea b)(r:PA X es<|tEs ie ea bs)(hs:zaf (e::es) X.env=(ci,eval e X.env)::zaf es X.env:=by rfl):PA X (e::es)<|tEs ie ea<|b::bs:=λpos pins s σ H Q I ⟨e,q⟩=>
 bX h r hs pos pins s σ H Q I ⟨e,λH1 F=>⟨e,λH2 z=>q H2 λA=>(F A).trans<|z A⟩⟩
theorem F8{A:P.Av}{H:Hp}:∀(bs:List Bool),P.RepL A H (bs.map .bl) (bs.map .bl)
 |[]=>.nil
 |_::bs=>.cons (.bl _)<|F8 bs
def OM{es:List Expr}{pos:Pos}{ie:Nat}{ea:Addr}{bs:List Bool}(h:PA X es<|tEs ie ea bs)(N:bs.length<=zai):PE X (.List es pos)<|tEV ie ea<|.lst<|bs.map .bl:=
 P.PE.mono (PY h) λσ H Q ⟨e,q⟩=>⟨e,λH1 F=>⟨by rw[zak];exact N,λp G=>q _ _ λA U=>by
  have J:¬ A p:=λz=>by
   cases ho:H p with
   |none=>exact U p z ho
   |some o=>have:=(F A).ow p o z ho;rw[G]at this;cases this
  exact⟨(F A).trans<|P.Ext.new G,.lst J (.of aI)<|F8 bs⟩⟩⟩
def tEP(ie:Nat)(ea:Addr)(i:Nat)(as bs:List Bool):TE:=λσ H Q=>σ[ie]?=bx (bx<|.ref ea)/\∃A v,P.Live A H/\σ[i]?=bx (bx v)/\P.Rep A H (.lst<|as.map .bl) v/\∀w H',P.Ext A H H'->P.Rep A H' (.lst<|(as++bs).map .bl) w->Q w H'
def SA{a b:Expr}{pos:Pos}{ie i:Nat}{ea:Addr}{as bs:List Bool}(W:PE X a<|cN i)(hb:PE X b<|tEV ie ea<|.lst<|bs.map .bl)(hz:as.length+bs.length<=zai):PE X (.BinOp a .Add b pos)<|tEP ie ea i as bs:=
 P.PE.mono (VH P.G6 W hb) λσ H Q ⟨e,A,v,N,ev,rv,q⟩=>⟨v,ev,e,λw H1 hx=>by
  obtain⟨F,r1⟩:=hx A N;obtain⟨a,xs,rfl,h1,r3⟩:=P.RepB.lst_inv<|.of<|rv.ext F;obtain⟨b,ys,rfl,h2,U⟩:=P.RepB.lst_inv<|.of r1;have G:P.Live A H1:=λp z Y=>by
   cases h0:H p with
   |none=>exact N p z h0
   |some o=>have:=F.ow p o z h0;rw[Y]at this;cases this
  refine⟨a,b,xs,ys,rfl,rfl,h1,h2,by rw[r3.length,U.length,zak,zak];exact hz,λp J=>q _ _ (F.trans<|P.Ext.new J) ?_⟩;rw[zaR];exact .lst (λz=>G p z J) (.of aI)<|(r3.append U).ext (P.Ext.new J)⟩
inductive HR(X:Cx)(ie:Nat)(ea:Addr):Option (Nat×List Bool)->List Stmt->List (Nat×P.D)->Prop
 | nil {o:Option (Nat×List Bool)}:HR X ie ea o [] []
 | cons {o o':Option (Nat×List Bool)} {st:Stmt} {sts:List Stmt} {i:Nat} {d:P.D} {l:List (Nat×P.D)}:PS X st (EQ (tEV ie ea d)<|gL i)->i≠ie->(∀p,o'=bx p->p.1=i/\d=.lst (p.2.map .bl))->HR X ie ea o' sts l->HR X ie ea o (st::sts) ((i,d)::l)
 | more {st:Stmt} {sts:List Stmt} {i:Nat} {as bs:List Bool} {l:List (Nat×P.D)}:PS X st (EQ (tEP ie ea i as bs)<|gL i)->i≠ie->HR X ie ea (bx (i,as++bs)) sts l->HR X ie ea (bx (i,as)) (st::sts) ((i,.lst<|(as++bs).map .bl)::l)
end
end My
namespace P
def BX:List (Nat×D)->cA->cA
 |[],ρ=>ρ
 |p::l,ρ=>BX l<|ρ.set p.1<|bx p.2
def ZR{X:Cx}{ie:Nat}{ea:Addr}{o:Option (Nat×List Bool)}{N:List Stmt}{l:List (Nat×D)}(h:My.HR X ie ea o N l):PSs X N λD σ H=>σ[ie]?=bx (bx<|.ref ea)/\∃H0 A0 A E O ρ,ST H0 A0 A E O σ H ρ/\(∀p,o=bx p->ρ.length<=p.1\/ρ[p.1]?=bx (bx<|.lst<|p.2.map .bl))/\(∀p∈l,p.1<σ.length/\p.1∉O)/\∀J H' A',ST H0 A0 A' E O J H' (BX l ρ)->D.nx J H':=by
 induction h with
 |nil=>exact λpins s σ H D I ⟨_,H0,A0,A,E,O,ρ,st,_,_,q⟩=>yB pins s σ H D I<|q σ H A st
 |cons h1 hne U _ ih=>
  intro pins s σ H D I ⟨e,H0,A0,A,E,O,ρ,st,_,G,q⟩;refine cL h1 ih pins s σ H D I ⟨e,λv H1 xr=>?_⟩;obtain⟨W,r1⟩:=xr A st.live;obtain⟨hi,z⟩:=G _<|zar ..;refine⟨by rw[za7 hne];exact e,H0,A0,A,E,O,_,(st.mono W).put r1 z,λp F=>?_,λp F=>by rw[zce];exact G p<|zaq _ F,q⟩;obtain⟨Y,e2⟩:=U p F;refine .inr ?_;rw[Y,<- e2];simp[<- st.len,hi]
 |more h1 hne _ ih=>
  intro pins s σ H D I ⟨e,H0,A0,A,E,O,ρ,st,U,G,q⟩;obtain⟨hi,z⟩:=G _<|zar ..;have hv:=(U _ rfl).resolve_left (by rw[<- st.len];exact Nat.not_le.mpr hi);obtain⟨v,ev,rv⟩:=st.val _ _ hv z;refine cL h1 ih pins s σ H D I ⟨e,A,v,st.live,ev,rv,λw H1 W r1=>?_⟩;refine⟨by rw[za7 hne];exact e,H0,A0,A,E,O,_,(st.mono W).put r1 z,λp F=>.inr ?_,λp F=>by rw[zce];exact G p<|zaq _ F,q⟩;cases F;simp[<- st.len,hi]
theorem vY{q:Type}:∀ {tl:List (Str×q)} {x:Str} {l:q},tl.lookup x=bx l->(x,l)∈tl
 |[],_,_,e=>nomatch e
 |(y,m)::tl,x,l,e=>by
  by_cases h:(x == y)=cf
  .rw[zbI,h]at e;cases e;rw[zc6 h];exact zar ..
  .rw[zbI,Bool.eq_false_iff.mpr h]at e;exact zaq _<|vY e
end P
namespace My
open PySem.SeqAt
section
variable {X:Cx}{ea C0:Addr}{oe:Obj}{n:Str}{ie:Nat}
structure Hd(X:Cx)(ea:Addr)(oe:Obj)(C0:Addr)(n:Str)(ie:Nat):Prop where
 hc:oe.cls=.ref C0
 k:ExcK X.K C0
 hie:X.N[ie]?=bx n
 he:QO X.env.scope n
 hg:Gl X "isinstance"
 hm:X.mg "isinstance" = cb
 d1:(n == ("__debug__" : Str))=ci
 d2:(n == ("__classdict__" : Str))=ci
def Hd.v(h:Hd X ea oe C0 n ie)(p:Pos):PE (kU X ea oe) (.Name n p)<|cN ie:=D9 (X:=kU X ea oe) h.hie h.he h.d1 h.d2
def Hd.self(h:Hd X ea oe C0 n ie){x:Str}{q p2 z F:Pos}(G:Gl X x)(h0:X.mg x=bx (.ref C0))(hd:(x == ("__debug__" : Str))=ci:=by decide):PE (kU X ea oe) (.Call (.Name "isinstance" q) [.Name n p2,.Name x z] [] F)<|tE ie ea cf:=
 xN (X:=kU X ea oe) (cv:=.ref C0) (zar ..) h.hc h.k (λu r=>by cases r;exact MI) h.hg h.hm (h.v _) (FZ (X:=kU X ea oe) (v:=.ref C0) G h0 rfl hd)
def Hd.oth(h:Hd X ea oe C0 n ie){z:Str}{G p2 q N:Pos}(J:Gl X z)(o:Oth X.K X.mg C0 z)(hd:(z == ("__debug__" : Str))=ci:=by decide):PE (kU X ea oe) (.Call (.Name "isinstance" G) [.Name n p2,.Name z q] [] N)<|tE ie ea ci:=by
 obtain⟨C,U,k,F,sb⟩:=o;exact xN (X:=kU X ea oe) (cv:=.ref C) (zar ..) h.hc h.k (λu r=>by cases r;exact SC F sb k) h.hg h.hm (h.v _)<|FZ (X:=kU X ea oe) (v:=.ref C) J U rfl hd
def Hd.val(h:Hd X ea oe C0 n ie){z p2 q G:Pos}(F:Gl X "ValueError")(J:X.mg "ValueError" = cb)(sv:za3 X.K (.ref C0) (.type "ValueError")=bx cf):PE (kU X ea oe) (.Call (.Name "isinstance" z) [.Name n p2,.Name "ValueError" q] [] G)<|tE ie ea cf:=
 xN (X:=kU X ea oe) (cv:=.ty "ValueError") (zar ..) h.hc h.k (λu r=>by cases r;exact SF (by decide +kernel) sv) h.hg h.hm (h.v _) (G7 (X:=kU X ea oe) (v:=.ty "ValueError") F J (by decide +kernel) rfl (by decide)<|by decide)
def Q3{o:Option (Nat×List Bool)}{i:Nat}{v:Str}{e:Expr}{bs:List Bool}{p pos:Pos}{q:List Stmt}{l:List (Nat×P.D)}(G:X.N.Nodup)(hi:X.N[i]?=bx v)(z:X.env.scope.names.lookup v=bx .local)(F:i≠ie)(h:PE (kU X ea oe) e<|tEV ie ea<|.lst<|bs.map .bl)(r:HR (kU X ea oe) ie ea (bx (i,bs)) q l)(hs:zaz e (bx<|.Name v p) pos.line X.env=pure ci:=by rfl):HR (kU X ea oe) ie ea o (.Assign [.Name v p] e pos::q)<|(i,.lst<|bs.map .bl)::l:=
 .cons (yQ (X:=kU X ea oe) G hi (.inl z) h hs<|.inr z) F (λp h=>by cases h;exact⟨rfl,rfl⟩) r
def QZ{i:Nat}{v:Str}{e:Expr}{as bs:List Bool}{p z p2 pos:Pos}{q:List Stmt}{l:List (Nat×P.D)}(U:X.N.Nodup)(hi:X.N[i]?=bx v)(F:X.env.scope.names.lookup v=bx .local)(hv:QO X.env.scope v)(G:i≠ie)(h:PE (kU X ea oe) e<|tEV ie ea<|.lst<|bs.map .bl)(J:as.length+bs.length<=zai)(r:HR (kU X ea oe) ie ea (bx (i,as++bs)) q l)(hs:zaz (.BinOp (.Name v z) .Add e p2) (bx<|.Name v p) pos.line X.env=pure ci:=by rfl)(Y:(v == ("__debug__" : Str))=ci:=by decide)(W:(v == ("__classdict__" : Str))=ci:=by decide):HR (kU X ea oe) ie ea (bx (i,as)) (.Assign [.Name v p] (.BinOp (.Name v z) .Add e p2) pos::q)<|(i,.lst<|(as++bs).map .bl)::l:=
 .more (yQ (X:=kU X ea oe) U hi (.inl F) (SA (D9 (X:=kU X ea oe) hi hv Y W) h J) hs<|.inr F) G r
def Q6(n:Str){o:Option (Nat×List Bool)}{q:List Stmt}{l:List (Nat×P.D)}(h:Hd X ea oe C0 n ie->HR (kU X ea oe) ie ea o q l)(hd:Hd X ea oe C0 n ie):HR (kU X ea oe) ie ea o q l:=h hd
end
structure Ce(K:zae)(z:Str)(C:Addr):Prop where
 a:zbK K zaK z=bx (bx<|.ref C)
 c:∃cd,zd5 K C=bx cd
 t:zdx K (.ref C)=bx (.type "type")
inductive Ces(K:zae):List (Str×Addr)->Prop
 | nil:Ces K []
 | cons {z:Str} {C:Addr} {cd:ClassData} {l:List (Str×Addr)} (a:zbK K zaK z=bx (bx<|.ref C)) (c:zd5 K C=bx cd) (t:zdx K (.ref C)=bx (.type "type")) (r:Ces K l):Ces K<|(z,C)::l
def Ces.at{K:zae}{l:List (Str×Addr)}(h:Ces K l):∀p∈l,Ce K p.1 p.2:=by
 induction h with
 |nil=>exact λp q=>nomatch q
 |cons a c t _ ih=>exact List.forall_mem_cons.mpr ⟨⟨a,⟨_,c⟩,t⟩,ih⟩
structure Exq(K:zae)(C:Addr):Prop where
 e:zd4 K C bmV "ValueError.__new__" = cf
 ga:zbg K (.ref C) "__getattribute__" = bx (bx<|.builtin "BaseException.__getattribute__")
 gt:zbg K (.ref C) "__getattr__" = bx cb
 cl:zbg K (.ref C) "__class__" = bx (bx<|.builtin "object.__class__")
 ob:za3 K (.ref C) (.type "object")=bx cf
 be:za3 K (.ref C) (.type "BaseException")=bx cf
 gg:PySem.W.specialIn K (.builtin "object.__class__") "__get__" = bx (bx<|.builtin "getset_descriptor.__get__")
 tk:PySem.W.takesIn K (.builtin "object.__class__")=bx cf
 sv:za3 K (.ref C) (.type "ValueError")=bx cf
inductive Sus(K:zae)(C0:Addr):List (Str×Addr)->Prop
 | nil:Sus K C0 []
 | cons {z:Str} {C:Addr} {l:List (Str×Addr)} (b:za3 K (.ref C0) (.ref C)=bx ci) (n:(C0 == C)=ci) (r:Sus K C0 l):Sus K C0<|(z,C)::l
def Sus.at{K:zae}{C0:Addr}{l:List (Str×Addr)}(h:Sus K C0 l):∀p∈l,za3 K (.ref C0) (.ref p.2)=bx ci/\(C0 == p.2)=ci:=by
 induction h with
 |nil=>exact λp q=>nomatch q
 |cons b n _ ih=>exact List.forall_mem_cons.mpr ⟨⟨b,n⟩,ih⟩
def XJ{K:zae}{h:Heap}{mg:Str->Option Value}(X:K.In h)(G:h.Ns zaK mg){l J:List (Str×Addr)}(cl:Ces K l){N y:Str}{C0 q:Addr}(ex:Exq K C0)(W:za3 K (.ref q) (.type "BaseException")=bx cf)(sy:za3 K (.ref C0) (.ref q)=bx cf)(su:Sus K C0 J)
  (m0:(N,C0)∈l) (my:(y,q)∈l) (ml:∀p∈J,p∈l):TryAt K mg N y<|J.map (·.1):=by
 have c0:=cl.at _ m0;have F:=cl.at _ my;refine⟨⟨C0,q,⟨zcz X G c0.a,ex.e,⟨ex.ga,ex.gt,ex.cl,ex.ob,ex.be,c0.t,by obtain⟨cd,e⟩:=c0.c;rw[e];rfl,ex.gg,ex.tk⟩⟩,zcz X G F.a,⟨F.c,F.t⟩,W,sy,ex.sv,λz hz=>?_⟩⟩;obtain⟨p,U,e⟩:=List.mem_map.mp hz;subst e;have c:=cl.at p<|ml p U;obtain⟨Y,s2⟩:=su.at p U;exact⟨p.2,zcz X G c.a,⟨c.c,c.t⟩,s2,Y⟩
end My
namespace P
def ZXk(P:zah)(w:World)(K:zae)(mg:Str->Option Value)(base:Heap)(N:List Str)(x:Str)(st:Stmt)(k:Nat)(g:Xv):Prop:=
 ∀(fa:Addr) (cdv:Value) (A:zal) (outer:List Env) (s:zab) (H:Hp) (E:XK),Room k (A.deeper<|zaH x (aF st) s.heap.objs.size fa cdv)->∃g',V8 (dC (My.uV P w) P w K mg base N x (aF st) fa cdv A outer s H E) [] (bF st) g'/\g'=g
def OJ{P:zah}{w:World}{K:zae}{mg:Str->Option Value}{base:Heap}{x:Str}{st:Stmt}{N ps:List Str}{k:Nat}{b:Sv}{g:Xv}(G:My.DefAt K mg x st ps)(S:FnScope N ps<|aF st)(h:ZOk P w K mg base N x st k b)(hx:ZXk P w K mg base N x st k g):FnX P w K mg base x (k+1) ps (bE N.length b)<|K5 N.length g:=
 XO (O':=[]) G S (λF q A outer s H E z=>h F q A outer s H E z) hx
def VI(ie:Nat)(F:List D->Option D)(G:List D->Option Str)(tl:List<|Str×List (Nat×D))(fa:Lv):Sv:=λρ=>(fa ρ).bind λds=>match G ds with
 |some x=>(tl.lookup x).bind λl=>bx<|.nx<|(BX l<|ρ.set ie cb).set ie cb
 |none=>(F ds).bind λ_=>bx<|.nx ρ
section
variable {X:Cx}{L:Lp}{O O':List Nat}
def MY{nn:Nat}{f y n:Str}{ie k:Nat}{ps:List Str}{F:List D->Option D}{G:List D->Option Str}{e ab:Expr}{bt:Expr}{bp:Pos}{es:List Expr}{rest:List Stmt}{fa:Lv}{tl:List (Str×List (Nat×D))}{p cpos ac yp ao pos:Pos}
  (a3:∀e s,X.xe e s->False) (hc:X.calm=cf) (ak:X.stack=X.env::X.outer) (ay:X.env.frame=bx X.env.locals) (FX:FnX X.prog X.w X.K X.mg X.base f k ps F G) (hr:Room k X.A) (hg:Gl X f) (ha:wW X O (e::es) fa) (hl:∀ρ ds,fa ρ=bx ds->ds.length=ps.length)
  (T:∀p∈tl,∃ys,My.TryAt X.K X.mg p.1 y ys/\∀C0 ea oe,oe.cls=.ref C0->X.mg p.1=bx (.ref C0)->My.ExcK X.K C0->za3 X.K (.ref C0) (.type "ValueError")=bx cf->(∀z∈ys,My.Oth X.K X.mg C0 z)->My.HR (My.kU X ea oe) ie ea cb (.Assign [bt] ab bp::rest) p.2) (hy:Gl X y) (hN:X.N.Nodup) (ag:X.N[ie]?=bx n) (W:X.env.scope.names.lookup n=bx .local) (hO:ie∉O) (ax:∀p∈tl,∀q∈p.2,q.1<nn/\q.1∉O) (a1:X.N.length=nn:=by rfl)
  (h:Sub O' O=cf:=by rfl) (au:(f == ("__debug__" : Str))=ci:=by decide) (a8:(y == ("__debug__" : Str))=ci:=by decide)
  (he:zaf (e::es) X.env=(ci,eval e X.env)::zaf es X.env:=by rfl) (bd:(zaG cpos<|zaf es X.env).any (·.1)=ci:=by rfl) (hs:zaz (.Call (.Name f p) (e::es) [] cpos) cb ac.line X.env=pure ci:=by rfl) :
  PSD X L O (.Try [.Expr (.Call (.Name f p) (e::es) [] cpos) ac] [.ExceptHandler (bx<|.Name y yp) (bx n) (.Assign [bt] ab bp::rest) ao] [] [] pos) (VI ie F G tl fa) O':=by
 intro pins s σ H Td I ⟨H0,A0,A,E,ρ,out,st,Y,ad⟩;obtain⟨ds,ed,Y⟩:=bind_some Y;obtain⟨fn,fd,hk,hb,hm,FO⟩:=FX.ex;refine wpAny_Try_except<|zcI<|wpAny_Expr_any ?_ I.quiet hs;refine zcJ<|iU I hg hm ?_ au;refine zdA (h₀:=X.base) I.ok.mod.kin hk (zaJ (ha cpos pins s σ H (λvs H1=>Ext A H H1/\RepL A H1 ds vs) I ⟨H0,A0,A,E,ρ,ds,st,ed,λvs H1 x1 r1=>⟨x1,r1.toL⟩⟩) (λus s1 U=>?_) λe s z=>(a3 e s z).elim) he bd;obtain⟨vs,H1,I1,r,x1,rl⟩:=U;have lv:=(st.mono x1).live;have af:vs.length=ps.length:=by rw[rl.length];exact hl ρ ds ed
 have as:us.length=ps.length:=by rw[<- r.length];exact af
 have al:=λ(Q:VK) (Ev:XK) (hsp:spX ps.length X.mg F G vs H1 Q Ev)=>FO.run X.A X.stack s1 H1 ⟨us,[]⟩ us vs Q Ev hr I1.env0 (by have:=hb s1 us I1.kIn (by rw[zbi];exact as);rwa [zbi]at this) r hsp
 refine⟨I1.kIn,?_⟩;cases hG:G ds with
 |none=>
  rw[hG]at Y;obtain⟨d,eF,Y⟩:=bind_some Y;cases Y;refine zda<|zcp (al (λv H2=>Ext A H1 H2/\Rep A H2 d v) (λ_ _ _=>False) ⟨af,A,ds,lv,rl,.inl ⟨d,eF,λv H2 x2 r2=>⟨x2,r2⟩⟩⟩) λrr s2 U=>?_;cases rr with
  |error e=>
   obtain⟨_,_,_,_,_,_,_,_,_,_,_,_,_,_,z⟩:=U;exact z.elim
  |ok fl=>
   cases fl with
   |ret u=>
    obtain⟨v,H2,I2,rv,x2,r2⟩:=I1.after U;obtain⟨A',ae⟩:=(st.mono<|x1.trans x2).shut<|Sub.mem h;exact zcH<|zcH ⟨σ,H2,I2,ad A' σ H2 ae⟩
   |next=>exact zaP U
   |brk=>exact zaP U
   |cont=>exact zaP U
 |some x0=>
  rw[hG]at Y;obtain⟨l,ba,Y⟩:=bind_some Y;have am:=vY ba;cases Y;obtain⟨ys,TA,hh⟩:=T _ am;obtain⟨C0,Cy,h0,aw,ky,az,sy,sv,ho⟩:=TA.ex;refine zda<|zcp (al (λ_ _=>False) (λc _ H2=>c=.ref C0/\Ext A H1 H2) ⟨af,A,ds,lv,rl,.inr ⟨x0,hG,λC a H2 hC _ x2=>⟨by rw[h0.bound]at hC;cases hC;rfl,x2⟩⟩⟩) λrr s2 U=>?_;cases rr with
  |ok fl=>
   cases fl with
   |ret u=>
    obtain⟨v,H2,I2,rv,x2⟩:=I1.after U;exact x2.elim
   |next=>exact zaP U
   |brk=>exact zaP U
   |cont=>exact zaP U
  |error e=>
   refine My.M2 (Good:=λ_ H2=>Ext A H1 H2) I1 ak ay U hy aw (My.UG sy ky az) (λea oe _ H2 s6 aj x2 _ J=>?_) a8;refine sQ (X:=My.kU X ea oe) J hN ag (.inl W) (v:=.ref ea) rfl (λs7 J7=>?_)<|.inr W;have hi:ie<σ.length:=by rw[I.len];exact(List.getElem?_eq_some_iff.mp ag).1
   refine zaJ (ZR (hh C0 ea oe aj h0.bound h0.k sv ho) pins s7 (σ.set ie<|bx<|.ref ea) H2 {nx:=λan H'=>∃A',ST H0 A0 A' E O an H'<|BX l<|ρ.set ie cb,rt:=λ_ _=>False} J7 ⟨by simp[hi],H0,A0,A,E,O,_,(st.mono<|x1.trans x2).blank (o:=bx<|.ref ea) hO,(λp hp=>by cases hp),λq U=>by rw[zce,I.len,a1];exact ax _ am q U,λan H' A' z=>⟨A',z⟩⟩) (λfl s8 q8=>?_) λ_ _ z=>z.elim
   cases fl with
   |next=>
    obtain⟨cj,H8,J8,A8,bb⟩:=q8;have I8:=My.RQ J8 I.ok.hd;obtain⟨m,hn,ar⟩:=I8.loc;refine wpAny_nameGoes_keeps W hn (by rw[I.ok.kind];rfl) λh9 v a2 a4=>?_
    have I9:=My.DI (t':=s8.toks+1) I8 hN ag hn ar a2 a4;obtain⟨A',ae⟩:=(bb.blank (o:=cb) hO).shut<|Sub.mem h;exact⟨_,H8,I9,ad A' _ H8 ae⟩
   |ret v=>obtain⟨_,_,_,_,_,q⟩:=q8;exact q.elim
   |brk=>obtain⟨_,_,_,q⟩:=q8;exact q.elim
   |cont=>obtain⟨_,_,_,q⟩:=q8;exact q.elim
end
section
variable {X:Cx}{L:Lp}{O O' O2:List Nat}
def spF(n:Nat)(F:List D->Option D):Sp:=λvs H Q _=>∃A ds d,Live A H/\RepL A H ds vs/\vs.length=n/\F ds=bx d/\∀a H',Ext A H H'->H a=cb->¬ A a->Own (λb=>A b\/b=a) H' d a->Q (.ref a) H'
def FnF(P:zah)(w:World)(K:zae)(mg:Str->Option Value)(base:Heap)(x:Str)(k:Nat)(ps:List Str)(F:List D->Option D):Prop:=My.Ok P w K mg base x k ps<|spF ps.length F
inductive tSF(O:List Nat)(f:Sv)(T:Ends)(σ:L2.St)(H:Hp):Prop
 | mk (H0:Hp) (A0 A:Av) (E:List Fact) (ρ:cA) (d:D) (st:ST H0 A0 A E O σ H ρ) (e:f ρ=bx (.rt d)) (p:∀a H',Ext A0 H0 H'->H0 a=cb->¬ A0 a->Own (λb=>A0 b\/b=a) H' d a->T.rt (.ref a) H'):tSF O f T σ H
def R7(J:PF X O e f):PSs X [.Return (bx e) pos]<|tSF O<|B5 f:=PSs.mono (gG<|EM J) <| by
 rintro T σ H ⟨H0,A0,A,E,ρ,d,st,e,p⟩;obtain⟨d',q,N⟩:=map_some e;cases N;refine⟨H0,A0,A,E,ρ,d,st,q,λa H' x n G o=>p a H' (st.mono x).ex (st.ex.free n) (λz=>G<|st.sub a z)<|o.av λb F=>.inl<|F.imp (st.sub b) id⟩
def P5(f g:Sv):Sv:=λρ=>(f ρ).bind λo=>match o with
 |.nx ρ'=>g ρ'
 |_=>cb
def A5{st:Stmt}{rest:List Stmt}{f g:Sv}(h1:PSD X ⟨[],[]⟩ O st f O2)(h2:PSs X rest<|tSF O2 g):PSs X (st::rest)<|tSF O<|P5 f g:=PSs.mono (cL h1 h2) <| by
 rintro T σ H ⟨H0,A0,A,E,ρ,d,st,e,p⟩;obtain⟨o,F,e⟩:=bind_some e;cases o with
 |nx ρ'=>exact⟨H0,A0,A,E,ρ,_,st,F,λA' z H' q=>⟨H0,A0,A',E,ρ',d,q,e,p⟩⟩
 |rt d=>cases e
 |bk d=>cases e
 |ct d=>cases e
def P6(n:Nat)(f:Sv)(ds:List D):Option D:=(f<|aH n ds).bind λo=>match o with
 |.rt d=>bx d
 |_=>cb
def X5{P:zah}{w:World}{K:zae}{mg:Str->Option Value}{base:Heap}{x:Str}{st:Stmt}{N ps:List Str}{k:Nat}{f:Sv}(Y:My.DefAt K mg x st ps)(S:FnScope N ps<|aF st)
  (h:∀(F:Addr) (z:Value) (A:zal) (outer:List Env) (s:zab) (H:Hp) (E:XK),Room k (A.deeper<|zaH x (aF st) s.heap.objs.size F z)->∃g,PSs (dC uS P w K mg base N x (aF st) F z A outer s H E).nox (bF st) (tSF [] g)/\g=f) :
  FnF P w K mg base x (k+1) ps (P6 N.length f):=by
 refine My.BodyOk.ok (λF z A outer s H vs Q E hr hsp=>?_) Y S (λvs H Q E hsp=>by obtain⟨A,ds,d,_,_,e,_⟩:=hsp;exact e);obtain⟨J,ds,d,lv,r,e,U,q⟩:=hsp;obtain⟨o,eo,G⟩:=bind_some U;obtain⟨g,W,rfl⟩:=h F z A outer s H E hr;cases o with
 |rt d'=>cases G;exact⟨_,W,H,J,J,[],_,d,ST.begun lv r,eo,q⟩
 |nx ρ=>cases G
 |bk _=>cases G
 |ct _=>cases G
def FnF.fn{P:zah}{w:World}{K:zae}{mg:Str->Option Value}{base:Heap}{x:Str}{k:Nat}{ps:List Str}{F:List D->Option D}(h:FnF P w K mg base x k ps F):Fn P w K mg base x k ps F:=by
 obtain⟨f,fd,J,z,W,Y⟩:=My.Ok.ex h;exact⟨f,fd,J,z,W,Y.imp λvs H Q E ⟨A,ds,d,U,r,e,G,q⟩=>⟨A,ds,d,U,r,e,G,λa H' x n N o=>q _ H' x<|(o.av (A':=A) λb z=>.inl<|.inl z).rep N⟩⟩
end
end P
namespace P
def Fe(K:zae)(x:Str)(st:Stmt)(f:Addr):Prop:=∃fd,Fun K x x st f fd
def Fe.mk{K:zae}{x:Str}{st:Stmt}{f:Addr}{G:Value}{od N:Option Addr}{F:Array (Option Value)}{kV z J q ct:Value}(l:K.lookup f=bx ⟨G,od,.func<|zbl x x (eA st) (bF st) (aF st) .none kV z J N q ct,F⟩)(c:zcr K q x=cf)(k:zbC K (.ref f)=cf):Fe K x st f:=⟨_,D6 l c k⟩
def Fe.d{K:zae}{mg:Str->Option Value}{x:Str}{st:Stmt}{f:Addr}{ps:List Str}(h:Fe K x st f)(a:mg x=bx (.ref f))(q:∀(kV doc pm:Value) (an:Option Addr) (cdv ct:Value) (us:List Value),us.length=ps.length->bindArgs (zbl x x (eA st) (bF st) (aF st) .none kV doc pm an cdv ct) ⟨us,[]⟩=pure (ps.zip us)):My.DefAt K mg x st ps:=let ⟨fd,F⟩:=h;⟨⟨f,fd,F,F.binds q,a⟩⟩
end P
namespace My
def QA(ns:List Int):Int:=(ns[argBest (λi j=>decide ((ns[i]?).getD 0<(ns[j]?).getD 0))<|ns.length-1]?).getD 0
end My
namespace P
section
variable {X:Cx}{L:Lp}{O O':List Nat}
def c0{O1 O3:List Nat}{st:Stmt}{q:List Stmt}{f g:Sv}(h:PSD X L O1 st f [])(k:PSDs X L [] q g O3):PSDs X L O1 (st::q) (dD f g) O3:=cn h k
def ss(i:Nat)(q:X.N.Nodup)(F:PD X O e f)(hi:X.N[i]?=bx x:=by rfl)(hx:Loc X.env.scope x:=by exact zaZ rfl)(h:Sub O' (O.filter (· != i))=cf:=by rfl)(hs:zaz e (bx<|.Name x pos') pos.line X.env=pure ci:=by rfl)(z:X.fn x=cf\/X.env.scope.names.lookup x=bx .local:=by first|exact .inl rfl|exact .inr rfl):PSD X L O (.Assign [.Name x pos'] e pos) (d9 i f) O':=GQ q hi hx F h hs z
def gc(h1:B7 X O e g)(h2:EZ X O es k)(a:(za8 (e::es) X.env).map (·.2)=zbf e X.env::(za8 es X.env).map (·.2):=by rfl):EZ X O (e::es)<|eL g k:=gX (λx y=>jR x y a) h1 h2
def gu(n:Nat)(h:EZ X O es k)(q:X.calm=cf:=by rfl)(a:(za8 es X.env).length=n:=by rfl)(b:List.findIdx? (λx=>x.fst) (za8 es X.env)=cb:=by rfl):B7 X O (.Tuple es j pos)<|kQ n k:=FU<|D5 q h a b
def tc(F:kT X (zaC op) g)(z:PB X O a fa)(q:PB X O b fb)(h1:op≠CmpOp.In:=by decide)(h2:op≠CmpOp.NotIn:=by decide):uT X O (.Compare a [op] [b] pos)<|pS<|bB g fa fb:=GF F z q<|EF _ h1 h2
end
variable {X:Cx}{O:List Nat}{e:Expr}
end P
namespace P
section
variable {X:Cx}{L:Lp}{O O':List Nat}
def cO(O2:List Nat){O1 O3:List Nat}{st:Stmt}{q:List Stmt}{f g:Sv}(h:PSD X L O1 st f O2)(k:PSDs X L O2 q g O3):PSDs X L O1 (st::q) (dD f g) O3:=cn h k
def wt{x1}(h:wW X O es g)(q:Len g es.length)(z:Nat.ble es.length 100=cf:=by rfl):PD X O (.Tuple es x1 pos)<|fA g:=oE h λρ ds k=>by rw[q ρ ds k];exact zcA z
def wl(h:wW X O es g)(q:Len g es.length)(z:Nat.ble es.length 100=cf:=by rfl):PF X O (.List es pos)<|QF g:=Y1 h λρ ds k=>by rw[q ρ ds k];exact zcA z
def wE(O':Fn X.prog X.w X.K X.mg X.base x k ps F)(U:Room j X.A)(z:wW X O (e::es) f)(J:Len f ps.length)(G:k<=j)(N:Gl X x:=by rfl)(q:(x == ("__debug__" : Str))=ci:=by decide)(hs:isStar e=ci:=by rfl)(W:(es.all λe=>!isStar e)=cf:=by rfl):PD X O (.Call (.Name x p) (e::es) [] pos)<|aR F f:=cD O' (U.mono G) z J N q hs W
def qct{e:Expr}{es:List Expr}{f:Lv}{p pos:Pos}(q:X.mg "len" = cb)(z:wV X O (e::es) f)(G:Gl X "len")(hs:isStar e=ci)(F:((es:List Expr).all λe=>!isStar e)=cf):PD X O (.Call (.Name "len" p) (e::es) [] pos)<|aR gB f:=cB YG q My.boot_len z G (by decide) (by decide) hs F
def qbZ{e:Expr}{es:List Expr}{f:Lv}{p pos:Pos}(q:X.mg "tuple" = cb)(z:wV X O (e::es) f)(G:Gl X "tuple")(hs:isStar e=ci)(F:((es:List Expr).all λe=>!isStar e)=cf):PD X O (.Call (.Name "tuple" p) (e::es) [] pos)<|aR jY f:=qh jO q My.boot_tuple z G (by decide) (by decide) hs F
def qbX{e:Expr}{es:List Expr}{f:Lv}{p pos:Pos}(q:X.mg "int" = cb)(z:wV X O (e::es) f)(G:Gl X "int")(hs:isStar e=ci)(F:((es:List Expr).all λe=>!isStar e)=cf):PD X O (.Call (.Name "int" p) (e::es) [] pos)<|aR EV f:=qh YO q My.boot_int z G (by decide) (by decide) hs F
def qb6{e:Expr}{es:List Expr}{f:Lv}{p pos:Pos}(q:X.mg "list" = cb)(z:wV X O (e::es) f)(G:Gl X "list")(hs:isStar e=ci)(F:((es:List Expr).all λe=>!isStar e)=cf):PF X O (.Call (.Name "list" p) (e::es) [] pos)<|aR HZ f:=fTy RC q My.boot_list z G (by decide) (by decide) hs F
def qp{q:Expr}{e:Expr}{es:List Expr}{f:Lv}{p pos:Pos}(J:X.calm=cf)(G:X.mg "min" = cb)(z:wV X O [e,q] f)(F:Gl X "min")(hs:isStar e=ci)(N:(([q]:List Expr).all λe=>!isStar e)=cf):PD X O (.Call (.Name "min" p) [e,q] [] pos)<|aR B1 f:=cB (T4 J) G My.boot_min z F (by decide) (by decide) hs N
def qr{q:Expr}{e:Expr}{es:List Expr}{f:Lv}{p pos:Pos}(J:X.calm=cf)(G:X.mg "max" = cb)(z:wV X O [e,q] f)(F:Gl X "max")(hs:isStar e=ci)(N:(([q]:List Expr).all λe=>!isStar e)=cf):PD X O (.Call (.Name "max" p) [e,q] [] pos)<|aR IB f:=cB (Q0 J) G My.boot_max z F (by decide) (by decide) hs N
def qm{e:Expr}{f:Ev}{p p2 pos:Pos}(F:PB X O e f)(N:X.mg "isinstance" = cb)(q:X.mg "int" = cb)(G:Gl X "isinstance")(z:Gl X "int")(h1:zaf [e,.Name "int" p2] X.env=(ci,eval e X.env)::zaf [.Name "int" p2] X.env)(h2:(zaG pos<|zaf [.Name "int" p2] X.env).any (·.1)=ci)(J:zaf [.Name "int" p2] X.env=(ci,eval (.Name "int" p2) X.env)::zaf [] X.env):PD X O (.Call (.Name "isinstance" p) [e,.Name "int" p2] [] pos)<|K3 "int" f:=uA T7 G N z q My.boot_int F (by decide) (by decide) h1 h2 J
def YE{e:Expr}{f:Ev}{p p2 pos:Pos}(F:PB X O e f)(N:X.mg "isinstance" = cb)(q:X.mg "bool" = cb)(G:Gl X "isinstance")(z:Gl X "bool")(h1:zaf [e,.Name "bool" p2] X.env=(ci,eval e X.env)::zaf [.Name "bool" p2] X.env)(h2:(zaG pos<|zaf [.Name "bool" p2] X.env).any (·.1)=ci)(J:zaf [.Name "bool" p2] X.env=(ci,eval (.Name "bool" p2) X.env)::zaf [] X.env):PD X O (.Call (.Name "isinstance" p) [e,.Name "bool" p2] [] pos)<|K3 "bool" f:=uA MA G N z q My.boot_bool F (by decide) (by decide) h1 h2 J
def R6{e:Expr}{f:Ev}{p p2 pos:Pos}(F:PB X O e f)(N:X.mg "isinstance" = cb)(q:X.mg "tuple" = cb)(G:Gl X "isinstance")(z:Gl X "tuple")(h1:zaf [e,.Name "tuple" p2] X.env=(ci,eval e X.env)::zaf [.Name "tuple" p2] X.env)(h2:(zaG pos<|zaf [.Name "tuple" p2] X.env).any (·.1)=ci)(J:zaf [.Name "tuple" p2] X.env=(ci,eval (.Name "tuple" p2) X.env)::zaf [] X.env):PD X O (.Call (.Name "isinstance" p) [e,.Name "tuple" p2] [] pos)<|K3 "tuple" f:=uA kit_tuple G N z q My.boot_tuple F (by decide) (by decide) h1 h2 J
def ZO{e:Expr}{f:Ev}{p p2 pos:Pos}(F:PB X O e f)(N:X.mg "isinstance" = cb)(q:X.mg "list" = cb)(G:Gl X "isinstance")(z:Gl X "list")(h1:zaf [e,.Name "list" p2] X.env=(ci,eval e X.env)::zaf [.Name "list" p2] X.env)(h2:(zaG pos<|zaf [.Name "list" p2] X.env).any (·.1)=ci)(J:zaf [.Name "list" p2] X.env=(ci,eval (.Name "list" p2) X.env)::zaf [] X.env):PD X O (.Call (.Name "isinstance" p) [e,.Name "list" p2] [] pos)<|K3 "list" f:=uA LZ G N z q My.boot_list F (by decide) (by decide) h1 h2 J
def rSl{e:Expr}{lo hi:Option Expr}{p2 pos:Pos}{f:Ev}{a b:Ov}(F:PB X O e f)(q:V9 X O lo a)(z:V9 X O hi b):PD X O (.Subscript e (.Slice lo hi cb p2) pos)<|Z5 y3 f a b:=M1 qcc F q z
def rIt{a b:Expr}{pos:Pos}{q fb:Ev}(G:X.A.units+1<cLine)(F:PB X O a q)(z:PB X O b fb)(hs:xX b:=by exact λ_ _=>rfl):PD X O (.Subscript a b pos)<|bB aJ q fb:=GD G F z hs
def qb0{a b:Expr}{pos:Pos}{q fb:Ev}{j:Nat}(G:Room j X.A)(z:PB X O a q)(F:PB X O b fb)(J:zbV .NotIn b=ci):uT X O (.Compare a [.NotIn] [b] pos)<|pS<|bB nF q fb:=GF (KA G.units) z F J
def rCm{a b:Expr}{op:CmpOp}{pos:Pos}{g:D->D->Option D}{q fb:Ev}(G:kT X (zaC op) g)(F:PB X O a q)(z:PB X O b fb)(h1:op≠CmpOp.In)(h2:op≠CmpOp.NotIn):PD X O (.Compare a [op] [b] pos)<|bB g q fb:=OI G F z<|EF _ h1 h2
def xEq{j:Nat}(q:Room j X.A):kT X (zaC .Eq) kI:=qap q.units
def xNe{j:Nat}(q:Room j X.A):kT X (zaC .NotEq) wX:=qaa q.units
def xLt{j:Nat}(q:Room j X.A):kT X (zaC .Lt) dLt:=YM q.units0
def At(l:List Str)(x:Str)(i:Nat):Prop:=l[i]?=bx x
def at_(i:Nat){l:List Str}{x:Str}(h:l[i]?=bx x:=by eq_refl):At l x i:=h
def vB{i:Nat}{x:Str}{p:Pos}(h:At X.N x i)(q:QO X.env.scope x)(hd:(x == ("__debug__" : Str))=ci)(z:(x == ("__classdict__" : Str))=ci):PB X O (.Name x p)<|aD i:=WK i<|pv i h q hd z
def vD{i:Nat}{x:Str}{p:Pos}(h:At X.N x i)(n:O.contains i=ci)(q:QO X.env.scope x)(hd:(x == ("__debug__" : Str))=ci)(z:(x == ("__classdict__" : Str))=ci):PD X O (.Name x p)<|aD i:=t7 i (pv i h q hd z)<|by simpa using n
def gV{i:Nat}{x:Str}{pos:Pos}(h:At X.N x i)(n:O.contains i=ci)(q:X.N.Nodup)(hx:Loc X.env.scope x)(z:X.fn x=cf\/X.env.scope.names.lookup x=bx .local):B7 X O (.Name x pos)<|aS i:=mY (gF q h hx z) n
def aK(i:Nat)(F:PD X O e f:=by trivial)(q:X.N.Nodup:=by assumption)(hi:X.N[i]?=bx x:=by rfl)(hx:Loc X.env.scope x:=by first|exact zaZ rfl|exact zbT rfl)(h:Sub O' (O.filter (· != i))=cf:=by rfl)(hs:zaz e (bx<|.Name x pos') pos.line X.env=pure ci:=by rfl)(z:X.fn x=cf\/X.env.scope.names.lookup x=bx .local:=by first|exact .inl rfl|exact .inr rfl):PSD X L O (.Assign [.Name x pos'] e pos) (d9 i f) O':=GQ q hi hx F h hs z
def eJ(i:Nat)(G:PF X O e f:=by trivial)(q:X.N.Nodup:=by assumption)(hi:X.N[i]?=bx x:=by rfl)(hx:Loc X.env.scope x:=by first|exact zaZ rfl|exact zbT rfl)(h:Sub O' (i::O)=cf:=by rfl)(F:O.contains i=ci:=by rfl)(hs:zaz e (bx<|.Name x pos') pos.line X.env=pure ci:=by rfl)(z:X.fn x=cf\/X.env.scope.names.lookup x=bx .local:=by first|exact .inl rfl|exact .inr rfl):PSD X L O (.Assign [.Name x pos'] e pos) (d9 i f) O':=NL q hi hx G h F hs z
def kP(i:Nat)(z:PD X O e f:=by trivial)(q:PE X o<|cN i:=by exact pv _)(U:mem O i=cf:=by rfl)(W:zaW o "append" X.env (eval o X.env)=eval o X.env:=by rfl)(N:((((zaG cpos<|zaf [e] X.env).all λx=>!x.fst) && (backToKw cpos<|keywordEach [] X.env).all λx=>x.fst.isSome) && decide (([e].length+([]:List Keyword).length+if([]:List Keyword).isEmpty=cf then 0 else 1)<30))=cf:=by rfl)(Y:(apos.endLine == cpos.line)=cf:=by rfl)(G:zaf [e] X.env=(ci,eval e X.env)::zaf [] X.env:=by rfl)(J:((zaG cpos<|zaf [] X.env).any λx=>x.fst)=ci:=by rfl)(hs:zaz (.Call (.Attribute o "append" apos) [e] [] cpos) cb pos.line X.env=pure ci:=by rfl)(h:Sub O' O=cf:=by rfl):PSD X L O (.Expr (.Call (.Attribute o "append" apos) [e] [] cpos) pos) (KS i f) O':=CC q z U (B0 zd6 PySem.F.slot_list_append PySem.F.type_list_append wA q (bX (PD.pe z) eK (hs:=G)) W N Y G J) hs h
def aO(q:PD X O e f:=by trivial):PSDs X L O [.Return (bx e) pos] (B5 f) O':=aN<|Q5 q
def QB(z:PSDs X L O a f O')(q:PSDs X L O b k O')(F:uT X O c g:=by trivial):PSD X L O (.If c a b pos) (B9 g f k) O':=EJ F z q
def aW(q:PSDs X L O a f O')(z:uT X O c g:=by trivial)(h:Sub O' O=cf:=by rfl):PSD X L O (.If c a [] pos) (B9 g f LA) O':=EJ z q<|FI h
def Z3{st:Stmt}:PSDs X L O [st] UW O':=aN IP
def V4{c:Expr}{st:Stmt}{pos:Pos}{g:Bv}(q:uT X O c g:=by trivial)(h:Sub O' O=cf:=by rfl):PSD X L O (.If c [st] [] pos) (B9 g UW LA) O':=EJ q Z3<|FI h
def dY(O1 q:List Nat)(z:PSDs X ⟨q,O1⟩ O1 body b O1)(hi:PDI X O tg iter f:=by trivial)(F:B7 X O1 tg g:=by trivial)(N:zca (model X.prog X.w) X.A X.env X.xe:=by exact zeJ)(J:X.calm=cf:=by rfl)(h1:Sub O1 O=cf:=by rfl)(h2:Sub O' O1=cf:=by rfl)(G:Sub O' q=cf:=by rfl)(hs:∀x,zbc iter X.env x=pure x:=by intro _;rfl):PSD X L O (.For tg iter body [] pos) (y9 f g b) O':=QW N J hi F z h1 h2 G hs
def PZ(O1 q:List Nat)(z:PSDs X ⟨q,O1⟩ O1 body b O1)(G:uT X O1 c g:=by trivial)(J:zca (model X.prog X.w) X.A X.env X.xe:=by exact zeJ)(h1:Sub O1 O=cf:=by rfl)(h2:Sub O' O1=cf:=by rfl)(F:Sub O' q=cf:=by rfl):PSD X L O (.While c body [] pos) (lQ g b) O':=KC J G z h1 h2 F
def wK(i:Nat)(U:PD X O value fe:=by trivial)(G:PB X O k fk:=by trivial)(N:X.A.units+1<cLine:=by assumption)(z:PE X o<|cN i:=by exact pv _)(F:mem O i=cf:=by rfl)(h:Sub O' O=cf:=by rfl)(hs:zaz value (bx<|.Subscript o k pos') pos.line X.env=pure ci:=by rfl)(q:zds [.Subscript o k pos'] value pos.line X.env=pure ci:=by rfl)(hw:zdt [.Subscript o k pos'] value X.env=pure cb:=by rfl)
  (J:∀ {to ti:TE} {t:QD},PE X o to->PE X k ti->U0 X t->PG X (.Subscript o k pos') (Z0 to ti t):=by intro _ _ _ a b c;exact O9 a b c):PSD X L O (.Assign [.Subscript o k pos'] value pos) (EX i fk fe) O':=R4 N z G U F h hs q hw J
def eX(σ:zab)(N:List Str)(ms:List<|Option Nat)(hi:PDI X O tg iter it:=by trivial)(J:∀C s H fp,N.Nodup->B7 (My.aX X N scope (gT X.env.cells scope.names []) C s H fp) [] tg g:=by intros;trivial)(Y:∀C s H fp,My.E3 (My.aX X N scope (gT X.env.cells scope.names []) C s H fp) ifs<|tDT [] c:=by intros;trivial)(G:∀C s H fp,PD (My.aX X N scope (gT X.env.cells scope.names []) C s H fp) [] elt f:=by intros;trivial)
  (hx:X.env.cells=zcc (σ.heap.objs.size+1) X.env.scope.names []:=by rfl) (q:dF X scope N ms:=by repeat' first|exact za4|exact rfl|exact zaZ rfl|constructor) (W:N.Nodup:=by decide)
  (U:X.calm=cf:=by rfl) (z:scope.kind=.function:=by rfl) (h:BW scope.names X.env.scope.names=cf:=by rfl) (F:(ms.all λo=>match o with|some i=>!O.contains i|none=>cf)=cf:=by rfl) (hs:∀x,zbc iter X.env x=pure x:=by intro _;rfl):PF X O (.ListComp elt [⟨tg,iter,ifs,0⟩] scope pos)<|dZ ms it g c f:=R5 U (EB z h hx) q F hi (λC s H fp=>J C s H fp W) Y G hs
def jU(i:Nat)(σ:zab)(N:List Str)(ms:List<|Option Nat)(hi:PDI X O tg iter it:=by trivial)(hg:∀C s H fp,N.Nodup->B7 (My.aX X N scope (gT X.env.cells scope.names []) C s H fp) [] tg g:=by intros;trivial)(ht:∀C s H fp,My.E3 (My.aX X N scope (gT X.env.cells scope.names []) C s H fp) ifs<|tDT [] c:=by intros;trivial)(he:∀C s H fp,PD (My.aX X N scope (gT X.env.cells scope.names []) C s H fp) [] elt f:=by intros;trivial)
  (hx:X.env.cells=zcc (σ.heap.objs.size+1) X.env.scope.names []:=by rfl) (G:dF X scope N ms:=by repeat' first|exact za4|exact rfl|exact zaZ rfl|constructor) (hN:N.Nodup:=by decide)
  (hc:X.calm=cf:=by rfl) (J:scope.kind=.function:=by rfl) (h:BW scope.names X.env.scope.names=cf:=by rfl) (Y:(ms.all λo=>match o with|some i=>!O.contains i|none=>cf)=cf:=by rfl) (hs:∀x,zbc iter X.env x=pure x:=by intro _;rfl)
  (hX:X.N.Nodup:=by assumption) (F:X.N[i]?=bx x:=by rfl) (U:Loc X.env.scope x:=by first|exact zaZ rfl|exact zbT rfl) (q:Sub O' (O.filter (· != i))=cf:=by rfl) (z:zaz (.ListComp elt [⟨tg,iter,ifs,0⟩] scope pos) (bx<|.Name x pos') spos.line X.env=pure cf:=by rfl) (W:X.fn x=cf\/X.env.scope.names.lookup x=bx .local:=by first|exact .inl rfl|exact .inr rfl) :
  PSD X L O (.Assign [.Name x pos'] (.ListComp elt [⟨tg,iter,ifs,0⟩] scope pos) spos) (d9 i<|dZ ms it g c f) O':=N2 hX F U hc (EB J h hx) G Y hi (λC s H fp=>hg C s H fp hN) ht he q hs z W
def S5(i:Nat)(σ:zab)(N:List Str)(ms:List<|Option Nat)(hi:PDI X O tg iter it:=by trivial)(hg:∀C s H fp,N.Nodup->B7 (My.aX X N scope (gT X.env.cells scope.names []) C s H fp) [] tg g:=by intros;trivial)(ht:∀C s H fp,My.E3 (My.aX X N scope (gT X.env.cells scope.names []) C s H fp) ifs<|tDT [] c:=by intros;trivial)(he:∀C s H fp,PD (My.aX X N scope (gT X.env.cells scope.names []) C s H fp) [] elt f:=by intros;trivial)
  (hx:X.env.cells=zcc (σ.heap.objs.size+1) X.env.scope.names []:=by rfl) (J:dF X scope N ms:=by repeat' first|exact za4|exact rfl|exact zaZ rfl|constructor) (hN:N.Nodup:=by decide)
  (hc:X.calm=cf:=by rfl) (U:scope.kind=.function:=by rfl) (h:BW scope.names X.env.scope.names=cf:=by rfl) (hn:(ms.all λo=>match o with|some i=>!O.contains i|none=>cf)=cf:=by rfl) (hs:∀x,zbc iter X.env x=pure x:=by intro _;rfl)
  (hX:X.N.Nodup:=by assumption) (G:X.N[i]?=bx x:=by rfl) (W:Loc X.env.scope x:=by first|exact zaZ rfl|exact zbT rfl) (q:Sub O' (i::O)=cf:=by rfl) (z:O.contains i=ci:=by rfl) (F:zaz (.ListComp elt [⟨tg,iter,ifs,0⟩] scope pos) (bx<|.Name x pos') spos.line X.env=pure cf:=by rfl) (Y:X.fn x=cf\/X.env.scope.names.lookup x=bx .local:=by first|exact .inl rfl|exact .inr rfl) :
  PSD X L O (.Assign [.Name x pos'] (.ListComp elt [⟨tg,iter,ifs,0⟩] scope pos) spos) (d9 i<|dZ ms it g c f) O':=JX hX G W hc (EB U h hx) J hn hi (λC s H fp=>hg C s H fp hN) ht he q z hs F Y
end
def fx{Q:zah}{w:World}{K:zae}{mg:Str->Option Value}{base:Heap}{x:Str}{k:Nat}{ps:List Str}{F:List D->Option D}(B:List D->Option D)(h:Fn Q w K mg base x k ps F)(e:F=B:=by rfl):Fn Q w K mg base x k ps B:=e ▸ h
def ZS:List Str->(List Value->Prop)->Prop
 |[],Q=>Q []
 |_::ps,Q=>∀u,ZS ps λus=>Q<|u::us
def S4{ps:List Str}{Q:List Value->Prop}(h:ZS ps Q){q:List Value}(e:q.length=ps.length):Q q:=by
 induction ps generalizing q Q with
 |nil=>rw[List.length_eq_zero_iff.mp e];exact h
 |cons a ps ih=>
  cases q with
  |nil=>cases e
  |cons u q=>exact ih (h u)<|Nat.succ.inj e
def Bd(st:Stmt)(x:Str)(ps:List Str):Prop:=∀(kV doc pm:Value) (an:Option Addr) (cdv ct:Value),ZS ps λq=>bindArgs (zbl x x (eA st) (bF st) (aF st) .none kV doc pm an cdv ct) ⟨q,[]⟩=pure (ps.zip q)
def De(K:zae)(x:Str)(st:Stmt):Prop:=∃f,zbK K zaK x=bx (bx<|.ref f)/\Fe K x st f
def Des(K:zae)(tp:Nat->Stmt)(t:List<|Str×Nat×List Str):Prop:=∀p∈t,De K p.1<|tp p.2.1
def Des.nil{K:zae}{tp:Nat->Stmt}:Des K tp []:=λ_ h=>nomatch h
def Des.cons{K:zae}{tp:Nat->Stmt}{x:Str}{i:Nat}{ps:List Str}{t:List (Str×Nat×List Str)}{f:Addr}{G:Value}{od N:Option Addr}{F:Array (Option Value)}{kV z J q ct:Value}(a:zbK K zaK x=bx (bx<|.ref f))(l:K.lookup f=bx ⟨G,od,.func<|zbl x x (eA<|tp i) (bF<|tp i) (aF<|tp i) .none kV z J N q ct,F⟩)(c:zcr K q x=cf)(k:zbC K (.ref f)=cf)(r:Des K tp t):Des K tp<|(x,i,ps)::t:=
 zdk.2 ⟨⟨f,a,Fe.mk l c k⟩,r⟩
def Bds(tp:Nat->Stmt)(t:List<|Str×Nat×List Str):Prop:=∀p∈t,Bd (tp p.2.1) p.1 p.2.2
def Bds.nil:Bds tp []:=λ_ h=>nomatch h
def Bds.cons(a:Bd (tp i) x ps)(r:Bds tp t):Bds tp<|(x,i,ps)::t:=zdk.2 ⟨a,r⟩
theorem Des.d{K:zae}{h:Heap}{mg:Str->Option Value}{tp:Nat->Stmt}{t:List (Str×Nat×List Str)}(X:K.In h)(G:h.Ns zaK mg)(D:Des K tp t)(B:Bds tp t):∀p∈t,My.DefAt K mg p.1 (tp p.2.1) p.2.2:=λp F=>let ⟨_,a,e⟩:=D p F;e.d (zcz X G a) λkV q J N z ct U=>S4<|B p F kV q J N z ct
def Nos(K:zae)(t:List Str):Prop:=∀x∈t,zbK K zaK x=bx cb
def Nos.nil{K:zae}:Nos K []:=λ_ h=>nomatch h
def Nos.cons{K:zae}{x:Str}{t:List Str}(a:zbK K zaK x=bx cb)(r:Nos K t):Nos K<|x::t:=zdk.2 ⟨a,r⟩
def Gis(K:zae)(t:List<|Str×Int):Prop:=∀p∈t,∃k,zbK K zaK p.1=bx (bx<|.int p.2 k)
def Gis.nil{K:zae}:Gis K []:=λ_ h=>nomatch h
def Gis.cons{K:zae}{x:Str}{n:Int}{k:Tok}{t:List (Str×Int)}(a:zbK K zaK x=bx (bx<|.int n k))(r:Gis K t):Gis K<|(x,n)::t:=zdk.2 ⟨⟨k,a⟩,r⟩
def Gis.d{K:zae}{h:Heap}{mg:Str->Option Value}{t:List (Str×Int)}(X:K.In h)(G:h.Ns zaK mg)(D:Gis K t):∀p∈t,GInt mg p.1 p.2:=λp q=>let ⟨_,a⟩:=D p q;⟨⟨_,zcz X G a⟩⟩
def mon:List Int->List Int->Int
 |e::es,v::vs=>v^e.toNat*mon es vs
 |_,_=>1
def ev(vs:List Int)(F:List My.Tm):Int:=(F.map λt=>t.2*mon t.1 vs).sum
def pw(S:Nat->Int)(a:Int):Nat->Int
 |0=>0
 |n+1=>pw S a n+a^n*S n
def la(k:List Int):Int:=(k.getLast?).getD 0
section
variable {ρ ρ':cA}{f g:Ev}{a b:Bv}{l:Lv}{x y d r:D}{xs:List D}{i j:Int}{k:Nat}{s t:Sv}{o:Option Out}
def X4(h:ρ[k]?=bx (bx x)):aD k ρ=bx x:=by unfold aD;rw[h];rfl
def qcv:eC x ρ=bx x:=rfl
def HU{w:D->D->Option D}(z:f ρ=bx x)(F:g ρ=bx y)(q:w x y=bx r):bB w f g ρ=bx r:=by unfold bB;rw[z,aA,F,aA,q]
def UL{F:List D->Option D}(h:l ρ=bx xs)(k:F xs=bx r):aR F l ρ=bx r:=by unfold aR;rw[h,aA,k]
def UC(h:f ρ=bx x)(k:l ρ=bx xs):aC f l ρ=bx (x::xs):=by unfold aC;rw[h,aA,k,aA]
def WR(h:l ρ=bx xs):fA l ρ=bx (.tup xs):=by unfold fA;rw[h,aB]
def XD(h:l ρ=bx xs):QF l ρ=bx (.lst xs):=by unfold QF;rw[h,aB]
def P2(h:f ρ=bx (.int i)):wL f ρ=bx (bx i):=by unfold wL;rw[h,aA];rfl
def P3{w:D->Option Int->Option Int->Option D}{u v:Ov}{p q:Option Int}(G:f ρ=bx x)(F:u ρ=bx p)(J:v ρ=bx q)(z:w x p q=bx r):Z5 w f u v ρ=bx r:=by unfold Z5;rw[G,aA,F,aA,J,aA,z]
def X3(h:f ρ=bx (.int i)):UU f ρ=bx (.int<|-i):=by unfold UU;rw[h,aA];rfl
def X1{c:Bool}(h:f ρ=bx (.bl c)):pS f ρ=bx c:=by unfold pS;rw[h,aA];rfl
def WH{c:Bool}(h:a ρ=bx c):QJ a ρ=bx (!c):=by unfold QJ;rw[h,aB]
def Z4{α:Type}(c:Bool)(u v:α):α:=if c=cf then u else v
def qbp{q:Type}{c:Bool}{u v w:q}(h:c=cf)(k:u=w):Z4 c u v=w:=(ck h).trans k
def qa4{q:Type}{c:Bool}{u v w:q}(h:c=ci)(k:v=w):Z4 c u v=w:=(cq<|by rw[h];exact nofun).trans k
def ZN{c:Bool}{z:Option Bool}(h:a ρ=bx c)(k:Z4 c (b ρ) (bx ci)=z):K7 a b ρ=z:=by unfold K7;rw[h,aA];exact k
def qv{c:Bool}{z:Option Bool}(h:a ρ=bx c)(k:Z4 c (bx cf) (b ρ)=z):WB a b ρ=z:=by unfold WB;rw[h,aA];exact k
def qaq{c:Bool}(h:a ρ=bx c)(k:Z4 c (s ρ) (t ρ)=o):B9 a s t ρ=o:=by unfold B9;rw[h,aA];exact k
def sq(p:Out)(t:Sv):Option Out:=match p with
 |.nx ρ=>t ρ
 |p=>bx p
def WV{p:Out}(h:s ρ=bx p)(k:sq p t=o):dD s t ρ=o:=by unfold dD;rw[h,aA];exact k
def qaE(k:t ρ=o):sq (.nx ρ) t=o:=k
def qaH(h:f ρ=bx x):B5 f ρ=bx (.rt x):=qcw h
def X9{w:Gv}(h:f ρ=bx x)(k:w x ρ=bx ρ'):U3 f w ρ=bx (.nx ρ'):=by unfold U3;rw[h,aA,k,aB]
def O7(h:aD k ρ=bx (.lst xs))(e:f ρ=bx x)(z:xs.length<=1000000):KS k f ρ=bx (.nx<|ρ.set k<|bx<|.lst<|xs++[x]):=by
 unfold KS;rw[h,aA];show(f ρ).bind _=_;rw[e,aA];exact ck<|decide_eq_true z
def qat(h:gC xs i=bx x):aJ (.lst xs) (.int i)=bx x:=h
def XY(h:gC xs i=bx x):aJ (.tup xs) (.int i)=bx x:=h
def UE{ms:List (Option Nat)}{w:Gv}{ds:List D}(h:l ρ=bx xs)(z:xs.length<=1000000)(e:bD w a f xs (hW ms ρ)=bx ds):dZ ms l w a f ρ=bx (.lst ds):=by unfold dZ;rw[h,aA];exact(ck<|decide_eq_true z).trans<|by rw[e,aB]
def YI{w:Gv}:bD w a f [] ρ=bx []:=rfl
def RG{w:Gv}{ds:List D}(h:w x ρ=bx ρ')(k:a ρ'=bx cf)(e:f ρ'=bx y)(r:bD w a f xs ρ'=bx ds):bD w a f (x::xs) ρ=bx (y::ds):=by rw[bD,h,aA,k,aA,ck rfl,e,aA,r,aA]
def HV{w:Gv}(h:w x ρ=bx ρ')(k:s ρ'=o):turn w s x ρ=o:=by unfold turn;rw[h,aA,k]
def yL{w:Gv}{Q:cA->Prop}(h:turn w s x ρ=bx (.nx ρ'))(k:Q ρ'):∃ρ',turn w s x ρ=bx (.nx ρ')/\Q ρ':=⟨_,h,k⟩
def WT{w:Gv}(h:l ρ=bx xs)(k:kA w s xs ρ=o):y9 l w s ρ=o:=by unfold y9;rw[h,aA,k]
def TC{w:Gv}(h:turn w s x ρ=bx (.nx ρ'))(k:kA w s xs ρ'=o):kA w s (x::xs) ρ=o:=by
 unfold turn at h;obtain⟨z,q,F⟩:=bind_some h;unfold kA;rw[q,aA,F,aA];exact k
def RF{ys:List D}(h:l ρ=bx [x])(e:(gJ x).map (fY 0)=bx ys):HL l ρ=bx ys:=by unfold HL;rw[h,aA];exact e
def qt{w:List D->Option (List D)}{ys:List D}(h:l ρ=bx xs)(k:w xs=bx ys):lR w l ρ=bx ys:=by unfold lR;rw[h,aA,k]
end
end P
namespace My
open PySem.SeqAt
def FW:V->List V->Hp->VK->Prop:=λx vs H Q=>∃l xs i y,x=.ref l/\vs=[.int i,y]/\H l=bx (.lst xs)/\0<=i/\i<=(xs.length:Int)/\xs.length<zai/\Q .non (upd H l<|.lst<|xs.take i.toNat++y::xs.drop i.toNat)
theorem v9:∀ {xs:List V} {us:List Value} (n:Nat),Vals xs us->Vals (xs.take n) (us.take n)
 |_,_,0,_=>by simp;exact .nil
 |_,_,n+1,.nil=>.nil
 |_,_,n+1,.cons h t=>.cons h<|v9 n t
theorem vK:∀ {xs:List V} {us:List Value} (n:Nat),Vals xs us->Vals (xs.drop n) (us.drop n)
 |_,_,0,r=>r
 |_,_,n+1,.nil=>.nil
 |_,_,n+1,.cons h t=>vK n t
def IQ:MtM X "list.insert" FW:=by
 intro pins s σ H x vs v us Q I W rv h;obtain⟨l,xs,i,y,rfl,rfl,N,h0,h1,hz,q⟩:=h;cases W;obtain⟨u1,U,rfl,r1,r2⟩:=vals2 rv;obtain⟨t,rfl⟩:=r1;obtain⟨z,G,n,r,hl,e⟩:=I.lstM N;have J:¬ (!Builtin.List.listFitsIndex i)=cf:=by
  have hs:zai<=2^40:=by decide
  rw[fitsIndex_both (by lia)<|by lia];decide
 refine zdd F.slot_list_insert ⟨_,e,rfl⟩ F.entry_list_insert (F.args_list_insert_3 _ _ _) (AutoListH.list_insert_list_int_val_1 l G.toArray n i t U J<|by rw[zaw];lia) ⟨e,?_⟩;refine⟨.non,_,I.lset (its':=G.take i.toNat++U::G.drop i.toNat) N e ?_ ((v9 _ r).append<|.cons r2<|vK _ r) ?_,rfl,q⟩
 .have Y:min i.toNat G.length=i.toNat:=by lia
  simp only[zaw,cq<|show ¬ i<0 by lia,Y];apply Array.ext';simp;exact zb4<|by simp
 .simp only[zbk,zaA,zcd,zeu]
  lia
end My
namespace P
section
variable {X:Cx}{L:Lp}{O O':List Nat}
def ZV(i:Nat)(fk fe:Ev):Sv:=λρ=>(aD i ρ).bind λx=>(fk ρ).bind λk=>(fe ρ).bind λd=>match x,k with
 |.lst l,.int j=>if aZ l.length=cf/\0<=j/\j<=(l.length:Int)then bx (.nx<|ρ.set i<|bx<|.lst<|l.take j.toNat++d::l.drop j.toNat)else cb
 |_,_=>cb
def C8(ho:PE X o<|cN i)(h1:PD X O F fk)(h2:PD X O z fe)(U:mem O i=cf)(hp:PE X (.Call (.Attribute o "insert" apos) [F,z] [] cpos)<|tBM X.K "list" My.FW (cN i)<|wQ (tD Rep O fk)<|wQ (tD Rep O fe) UY)
  (hs:zaz (.Call (.Attribute o "insert" apos) [F,z] [] cpos) cb pos.line X.env=pure ci:=by rfl) (h:Sub O' O=cf:=by rfl):PSD X L O (.Expr (.Call (.Attribute o "insert" apos) [F,z] [] cpos) pos) (ZV i fk fe) O':=
 PS.mono (xM hp hs) <| by
  rintro T σ H ⟨H0,A0,A,E,ρ,out,st,e,p⟩;obtain⟨x,ex,e⟩:=bind_some e;obtain⟨k,ek,e⟩:=bind_some e;obtain⟨d,ed,e⟩:=bind_some e;cases x with
  |lst l=>
   cases k with
   |int j=>
    by_cases G:aZ l.length=cf/\0<=j/\j<=(l.length:Int)
    .replace e:(if aZ l.length=cf/\0<=j/\j<=(l.length:Int)then bx (Out.nx<|ρ.set i<|bx<|.lst<|l.take j.toNat++d::l.drop j.toNat)else cb)=bx out:=e
     rw[ck G]at e;cases e;obtain⟨a,F,z,e3,e4⟩:=st.own i _ (bT ex)<|gR U;cases e4 with
     |lst h4 r4=>
      refine⟨_,F,.inl ⟨rfl,_,SqL.of h4⟩,H0,A0,A,E,ρ,_,st,ek,λv H1 W r1=>⟨H0,A0,A,E,ρ,d,st.mono W,ed,λY H2 x2 r2=>?_⟩⟩;have:=RepB.int_inv<|.of r1;subst this;have q:=W.trans x2;have J:=q.ow _ _ z h4;refine⟨a,_,j,Y,rfl,rfl,J,G.2.1,by rw[r4.length];exact G.2.2,by rw[r4.length];exact iT G.1,?_⟩;obtain⟨A',N⟩:=((st.mono q).write (o:=.lst _) (bT ex) (gR U) F z e3 J trivial (.lst aI<|(((r4.ext q).take j.toNat).append<|.cons r2<|(r4.ext q).drop j.toNat).put z J trivial)).shut<|Sub.mem h;exact p A' σ _ N
    .replace e:(if aZ l.length=cf/\0<=j/\j<=(l.length:Int)then bx (Out.nx<|ρ.set i<|bx<|.lst<|l.take j.toNat++d::l.drop j.toNat)else cb)=bx out:=e
     rw[cq G]at e;cases e
   |_=>exact nn e
  |_=>exact nn e
end
end P
namespace My
abbrev NK:=Key×List Key
abbrev Mf:=NK->Option (Int×Int)
section
variable {P:zah}{w:World}{H:Hp}{h:Heap}{a b:Addr}{dom:List NK}{f:Mf}{p:Option NK}
def qD(ok:HOk P w H h)(e:H a=bx (.tup [kV k.1,.ref b]))(z:H b=bx (.tup<|k.2.map kV)):(cZ<|bA P w).is h k a:=by
 obtain⟨_,q,r,o,h1,h2,n,F⟩:=(show ObjOk P w H h a (.tup [kV k.1,.ref b])from ok a _ e);cases r with
 |cons r1 r=>
  cases r with
  |cons r2 r=>
   cases r;cases(show _=zap b from r2);exact⟨o,n,_,b,h1,h2,F.1,wR r1,nX ok z⟩
def Ent(H:Hp)(dom:List NK)(f:Mf)(x:NK×Addr×Value):Prop:=x.1∈dom/\(∃b,H x.2.1=bx (.tup [kV x.1.1,.ref b])/\H b=bx (.tup<|x.1.2.map kV))/\MemV H (f x.1) x.2.2
def BZ(ok:HOk P w H h)(e:H a=bx (.memo dom f p)):(a == zbb)=ci/\∃xs,(∀x∈xs,Ent H dom f x)/\(∀k,p=bx k->∃q,atKey xs k=bx q)/\h.DictOfH (cZ<|bA P w) a xs:=by
 obtain⟨y,xs,r,J,o,es,ep,h1,h2,N,U,G⟩:=(show ObjOk P w H h a (.memo dom f p)from ok a _ e);refine⟨y,xs,r,J,o,es,ep,h1,h2,N,U,λx hx=>?_,G⟩;obtain⟨_,⟨b,z,F⟩,_⟩:=r x hx;exact qD ok z F
def uK{xs:List (NK×Addr×Value)}{k:NK}{q:Addr×Value}(h:atKey xs k=bx q):(k,q)∈xs:=by
 unfold atKey at h;obtain⟨x,hx,e⟩:=Option.map_eq_some_iff.mp h;have:=List.mem_of_find?_eq_some hx;have z:x.1=k:=by simpa using List.find?_some hx
 rw[<- z,<- e];exact this
end
def MemW(H:Hp):Option (Int×Int)->V->Prop
 |none,v=>v=.non
 |some p,v=>∃b,v=.ref b/\H b=bx (.tup [.int p.1,.int p.2])
def MemV.of(h:MemV H r u):∃v,RelV v u/\MemW H r v:=by
 cases r with
 |none=>exact⟨.non,h,rfl⟩
 |some p=>obtain⟨b,q,z⟩:=h;exact⟨.ref b,q,b,rfl,z⟩
def MemW.to(h:MemW H r v)(q:RelV v u):MemV H r u:=by
 cases r with
 |none=>cases(show v=.non from h);exact q
 |some p=>obtain⟨b,z,F⟩:=h;subst z;exact⟨b,q,F⟩
def j7(H:Hp)(k:NK)(y:V):Prop:=∃c b,y=.ref c/\H c=bx (.tup [kV k.1,.ref b])/\H b=bx (.tup<|k.2.map kV)
section
variable {X:Cx}{pins:List (Addr×Obj)}{σ:L2.St}{H:Hp}{s:zab}{a:Addr}{y v:V}{u r:Value}{A:zal}{E:Value->zab->Prop}{dom:List NK}{f:Mf}{p:Option NK}{k:NK}
def YV(I:Inv X pins σ H s)(e:H a=bx (.memo dom f p)):s.TypeIs (.ref a) "dict" := by
 obtain⟨_,_,_,_,o,es,ep,h1,h2,_⟩:=BZ I.hok e;exact⟨o,h1,h2.1⟩
def xH(I:Inv X pins σ H s)(e:H a=bx (.memo dom f p))(h:∀xs:List (NK×Addr×Value),(∀k,p=bx k->∃q,atKey xs k=bx q)->s.heap.DictOfH (cZ<|bA X.prog X.w) a xs->∀k,p'=bx k->∃q,atKey xs k=bx q):Inv X pins σ (upd H a<|.memo dom f p') {s with toks:=t'}:=by
 obtain⟨y,xs,r,hp,o,es,ep,h1,h2,h3,h4,h5⟩:=(show ObjOk X.prog X.w H s.heap a (.memo dom f p)from I.hok a _ e);obtain⟨_,F,r',G,dd⟩:=BZ I.hok e;have J:∀b ys,H b=bx (.tup ys)->upd H a (.memo dom f p') b=bx (.tup ys):=λb ys z=>by rw[aG<|uH z e λq=>nomatch q];exact z
 obtain⟨o',U,N,g1,g2,g3,Y,_,g5⟩:=id dd;refine I.write (x:=a) (e:=a) (h':=s.heap) (t':=t') (by rw[e];exact za4) (.inl rfl) (λ_ _ _ z=>z) ⟨o',g1⟩ ⟨y,F,λx hx=>?_,h F G dd,o',U,N,g1,g2,g3,Y,g5⟩;obtain⟨d,⟨b,q1,q2⟩,m⟩:=r' x hx;refine⟨d,⟨b,J _ _ q1,J _ _ q2⟩,?_⟩;revert m;cases f x.1 with
 |none=>exact id
 |some p=>exact λ⟨c,W,e2⟩=>⟨c,W,J _ _ e2⟩
def SD{Q:Value->zab->Prop}(hu:A.units+2<cLine)(I:Inv X pins σ H s)(e:H a=bx (.memo dom f p))(ky:j7 H k y)(ry:RelV y u)(h1:∀s',Inv X pins σ (upd H a<|.memo dom f cb) s'->Q (.bool cf) s')(h2:∀s',Inv X pins σ (upd H a<|.memo dom f<|bx k) s'->Q (.bool ci) s') :
  wpAny (model X.prog X.w) A (zaC .NotIn u<|.ref a) Q E s:=by
 obtain⟨c,b,rfl,e1,e2⟩:=ky;cases(show u=zap c from ry);obtain⟨hd,xs,rr,hp,dd⟩:=BZ I.hok e;refine wpAny_notIn_heap (knd:=cZ<|bA X.prog X.w) (show A.in1.units+1<cLine from hu) (qD I.hok e1 e2) hd dd ?_;have F:∀ys,s.heap.DictOfH (cZ<|bA X.prog X.w) a ys->∀q,atKey xs k=bx q->∃q,atKey ys k=bx q:=λys N q G=>by
  obtain⟨o,es,ep,g1,g2,g3,g4,g5,g6⟩:=dd;obtain⟨o',ap,ac,Y,j2,U,j4,j5,j6⟩:=N;rw[g1]at Y;cases Y;rw[g3]at U;cases U;have he:xs.map (zcl<|cZ<|bA X.prog X.w)=ys.map (zcl<|cZ<|bA X.prog X.w):=g4.symm.trans j4;have W:=uK G;obtain⟨i,hi⟩:=List.mem_iff_getElem?.mp W;have hl:(ys.map<|zcl<|cZ<|bA X.prog X.w)[i]?=bx (zcl (cZ<|bA X.prog X.w) (k,q)):=by rw[<- he,zaD,hi];rfl
  rw[zaD]at hl;obtain⟨z,hz,ez⟩:=Option.map_eq_some_iff.mp hl;have ka:z.2.1=q.1:=by
   have:=congrArg DictEntry.key ez;injection this
  have kk:z.1=k:=(cZ<|bA X.prog X.w).inj (h:=s.heap) (a:=q.1) (ka ▸ j5 z (zax hz))<|g5 _ W;exact⟨z.2,atKey_of_get j6 (i:=i)<|by rw[hz,<- kk]⟩
 cases G:atKey xs k with
 |none=>exact h1 _<|xH (p':=cb) I e λ_ _ _ k J=>by cases J
 |some q=>exact h2 _<|xH I e λys _ N k' J=>by cases J;exact F ys N q G
def IU{Q:Value->zab->Prop}(Y:A.units+2<cLine)(I:Inv X pins σ H s)(e:H a=bx (.memo dom f<|bx k))(ky:j7 H k y)(J:RelV y u)(h:∀v F s',Inv X pins σ H s'->RelV v F->MemW H (f k) v->Q F s') :
  wpAny (model X.prog X.w) A (zbD (.ref a) u) Q E s:=by
 obtain⟨c,b,rfl,G,U⟩:=ky;cases(show u=zap c from J);obtain⟨hd,xs,W,hp,dd⟩:=BZ I.hok e;obtain⟨q,z⟩:=hp k rfl;refine wpAny_getItem_heap (knd:=cZ<|bA X.prog X.w) (show A.in1.units+1<cLine from Y) (qD I.hok G U) dd z ?_;obtain⟨_,_,m⟩:=W _<|uK z;obtain⟨v,N,mw⟩:=MemV.of m;exact h v _ _ (I.tok _) N mw
theorem HC:∀ {l:List NK},x∈l->(l.filter λy=>decide (y≠x)).length<l.length
 |[],h=>nomatch h
 |y::l,h=>by
  by_cases e:y=x
  .rw[List.filter_cons_of_neg<|by simp[e]]
   exact Nat.lt_succ_of_le<|zdl _ _
  .rw[List.filter_cons_of_pos<|by simp[e],zaA,zaA]
   exact Nat.succ_lt_succ<|HC<|(List.mem_cons.mp h).resolve_left λz=>e z.symm
theorem few:∀ {xs dom:List NK},xs.Nodup->(∀x∈xs,x∈dom)->xs.length<=dom.length
 |[],_,_,_=>zaM _
 |x::xs,dom,q,h=>by
  have q:=List.nodup_cons.mp q;have i:=few (xs:=xs) (dom:=dom.filter λy=>decide (y≠x)) q.2 λy F=>List.mem_filter.mpr ⟨h y<|zaq _ F,decide_eq_true λz=>q.1<|by rw[<- z];exact F⟩
  have:=HC<|h x<|zar ..;rw[zaA];lia
set_option tactic.hygienic true in
def JT{Q:Unit->zab->Prop}(hu:A.units+2<cLine)(I:Inv X pins σ H s)(e:H a=bx (.memo dom f p))(ky:j7 H k y)(hk:k∈dom)(hl:dom.length<zai)(mv:MemW H (f k) v)(ry:RelV y u)(rv:RelV v r)(h:∀s',Inv X pins σ (upd H a<|.memo dom f<|bx k) s'->Q () s') :
  wpAny (model X.prog X.w) A (setItem (.ref a) u r) Q E s:=by
 obtain⟨c,b,rfl,U,N⟩:=ky;cases(show u=zap c from ry);obtain⟨hd,xs,G,hp,dd⟩:=BZ I.hok e;have nd:(xs.map (·.1)).Nodup:=by obtain⟨_,_,_,_,_,_,_,_,z⟩:=dd;exact z
 have F:xs.length<=zai:=by
  have:=few nd (λx hx=>by obtain⟨y,J,rfl⟩:=List.mem_map.mp hx;exact(G y J).1);rw[zak]at this
  lia
 refine wpAny_setItem_heap (knd:=cZ<|bA X.prog X.w) (hsz:=F) (show A.in1.units+1<cLine from hu) (qD I.hok U N) dd λh' Y hs=>h _ ?_
 obtain⟨q,es,ep,hq,h2,h3,h4,_,h5⟩:=Y;have ne:∀b ys,H b=bx (.tup ys)->upd H a (.memo dom f<|bx k) b=bx (.tup ys):=λb ys z=>by rw[aG<|uH z e λq=>nomatch q];exact z
 have all:∀x∈storedH xs k c r,Ent H dom f x:=λx hx=>by
  unfold storedH at hx;split at hx
  .obtain⟨y,J,rfl⟩:=List.mem_map.mp hx
   unfold putAt;split
   .rename_i _ hyk
    obtain⟨a1,a2,a3⟩:=G y J;exact⟨a1,a2,by rw[hyk];exact mv.to rv⟩
   .exact G y J
  .rcases List.mem_append.mp hx with z|z
   .exact G x z
   .rw[List.mem_singleton.mp z];exact⟨hk,⟨b,U,N⟩,mv.to rv⟩
 refine nC I (by rw[e];exact za4) hs ⟨q,hq⟩ ⟨hd,_,λx hx=>?_,λk' W=>?_,q,es,ep,hq,h2,h3,h4,h5⟩
 .obtain⟨d,⟨b,q1,q2⟩,m⟩:=all x hx
  refine⟨d,⟨b,ne _ _ q1,ne _ _ q2⟩,?_⟩;revert m;cases f x.1 with
  |none=>exact id
  |some p=>exact λ⟨c,U,N⟩=>⟨c,U,ne _ _ N⟩
 .cases W
  have:∃q,(k,q)∈storedH xs k c r:=by
   unfold storedH;split
   .rename_i hh
    obtain⟨z,F⟩:=Option.isSome_iff_exists.mp hh;exact⟨(z.1,r),List.mem_map.mpr ⟨(k,z),uK F,by unfold putAt;rw[ck rfl]⟩⟩
   .exact⟨(c,r),za1 _<|List.mem_singleton.mpr rfl⟩
  obtain⟨z,F⟩:=this;obtain⟨i,hi⟩:=List.mem_iff_getElem?.mp F;exact⟨z,atKey_of_get h5 hi⟩
end
end My
namespace P
open My
def zB(C:Addr)(x:Str):D->Option D
 |.ob C' fs=>if C'=C then fs.lookup x else cb
 |_=>cb
def dH(C:Addr)(x:Str)(f:Ev):Ev:=λρ=>(f ρ).bind<|zB C x
theorem pW:∀ {fs:List (Str×D)} {vs:List (Str×V)} {d:D},vs.map (·.1)=fs.map (·.1)->RepL A H (fs.map (·.2)) (vs.map (·.2))->fs.lookup x=bx d->∃v,vs.lookup x=bx v/\Rep A H d v
 |[],[],_,_,_,h=>nomatch h
 |[],_::_,_,e,_,_=>nomatch e
 |_::_,[],_,e,_,_=>nomatch e
 |(a,d0)::fs,(b,v0)::vs,d,e,r,h=>by
  injection e with z e2
  have z:b=a:=z;subst z;cases r with
  |cons r1 r2=>
   by_cases q:(x == b)=cf
   .rw[zbI,q]at h
    cases h;exact⟨v0,by rw[zbI,q],r1⟩
   .rw[zbI,Bool.eq_false_iff.mpr q]at h
    obtain⟨v,G,F⟩:=pW e2 r2 h;exact⟨v,by rw[zbI,Bool.eq_false_iff.mpr q];exact G,F⟩
section
variable {X:Cx}{O:List Nat}
set_option tactic.hygienic true in
def kG(c:Cls X.K C)(n:NoAttr X.K C x)(J:PB X O e f)(F:zaW e x X.env (eval e X.env)=eval e X.env:=by rfl):PD X O (.Attribute e x pos)<|dH C x f:=
 PE.mono (jW J F) <| by
  rintro σ H Q ⟨H0,A0,A,E,ρ,d,st,e,q⟩;obtain⟨y,W,z⟩:=bind_some e;cases y with
  |ob C' fs=>
   unfold zB at z;dsimp only at z;split at z
   .rename_i hC
    subst hC;refine⟨H0,A0,A,E,ρ,_,st,W,λv H1 N r1=>?_⟩;obtain⟨a,dx,vs,rfl,h,U,r⟩:=r1.ob_inv;obtain⟨v,Y,G⟩:=pW U r z;exact⟨a,_,dx,vs,v,rfl,h,c,n,Y,q v H1 N G⟩
   .cases z
  |_=>cases z
end
def UB(ty td:TE):TE:=λσ H Q=>ty σ H λy H1=>td σ H1 λx H2=>∃a dom f p k,x=.ref a/\H2 a=bx (.memo dom f p)/\j7 H2 k y/\Q (.bl cf) (upd H2 a<|.memo dom f cb)/\Q (.bl ci) (upd H2 a<|.memo dom f<|bx k)
def qaC(td ty tv:TE):TS:=λD σ H=>tv σ H λv H1=>td σ H1 λx H2=>ty σ H2 λy q=>∃a dom f p k,x=.ref a/\q a=bx (.memo dom f p)/\j7 q k y/\k∈dom/\dom.length<zai/\MemW q (f k) v/\D.nx σ (upd q a<|.memo dom f<|bx k)
def VW(td ty:TE):TE:=λσ H Q=>td σ H λx H1=>ty σ H1 λy H2=>∃a dom f k,x=.ref a/\H2 a=bx (.memo dom f<|bx k)/\j7 H2 k y/\∀v,MemW H2 (f k) v->Q v (upd H2 a<|.memo dom f cb)
section
variable {X:Cx}{o i e value:Expr}{pos pos' tpos:Pos}{td ty tv:TE}
def IJ(hu:X.A.units+2<cLine)(hi:PE X i ty)(F:PE X o td):PC X .NotIn i o<|UB ty td:=by
 intro pins s σ H Q I h;refine cP (hi pins s σ H _ I h) λiv W ⟨y,H1,G,U,q1⟩=>cP (F pins W σ H1 _ G q1) λu s2 ⟨x,H2,J,N,a,dom,f,p,k,ex,g,ky,z,Y⟩=>?_
 subst ex;obtain rfl:u=zap a:=N;exact SD hu J g ky U (λs3 q=>⟨.bl cf,_,q,rfl,z⟩) λs3 q=>⟨.bl ci,_,q,rfl,Y⟩
def QY(N:X.A.units+2<cLine)(Y:PE X o td)(hi:PE X i ty)(hv:PE X value tv)(hs:zaz value (bx<|.Subscript o i pos') pos.line X.env=pure ci) :
  PS X (.Assign [.Subscript o i pos'] value pos) (qaC td ty tv):=by
 intro pins s σ H D I h;refine wpAny_Assign_Subscript (cP (hv pins s σ H _ I h) λr G ⟨v,H1,q,rv,q1⟩=>cP (Y pins G σ H1 _ q q1) λu U ⟨x,H2,I2,rx,J⟩=>cP (hi pins U σ H2 _ I2 J) λiv s3 ⟨y,H3,I3,ry,a,dom,f,p,k,ex,g,ky,F,kl,W,q3⟩=>?_) hs;subst ex;obtain rfl:u=zap a:=rx;exact JT N I3 g ky F kl W ry rv λs4 z=>⟨σ,_,z,q3⟩
def TV(hu:X.A.units+2<cLine)(G:PE X o td)(hi:PE X i ty)(hs:K4 i):PE X (.Subscript o i pos)<|VW td ty:=by
 intro pins s σ H Q I h;refine GC PySem.F.slot_dict_getitem.lookup hs<|cP (G pins s σ H _ I h) λu W ⟨x,H1,N,rx,q1⟩=>cP (hi pins W σ H1 _ N q1) λiv s2 ⟨y,H2,z,ry,a,dom,f,k,ex,g,ky,Y⟩=>?_;subst ex;obtain rfl:u=zap a:=rx;exact⟨YV z g,IU hu z g ky ry λv w' s3 J q mw=>⟨v,_,xH (p':=cb) (t':=s3.toks) J g (λ_ _ _ k U=>by cases U),q,Y v mw⟩⟩
end
def intsOf:List D->Option (List Int)
 |[]=>bx []
 |.int i::l=>(intsOf l).map (i::·)
 |_=>cb
def nkD:D->Option NK
 |.tup [.int i,.tup l]=>(intsOf l).map λns=>(.inl i,ns.map .inl)
 |_=>cb
def memD:Option (Int×Int)->D
 |none=>.non
 |some p=>.tup [.int p.1,.int p.2]
open Classical in
def VL(C:Addr)(nz kz tz:Nat)(f1 f2:Sv):Sv:=λρ=>(aD nz ρ).bind λnd=>(zB C "found" nd).bind λm=>match m with
 |.mem dom f=>(aD kz ρ).bind λkd=>(nkD kd).bind λk=>(f1 ρ).bind λo=>match o with
  |.nx ρ1=>(f2 ρ1).bind λo=>match o with
   |.nx ρ2=>(aD tz ρ2).bind λt=>if k∈dom/\dom.length<zai/\t=memD (f k)/\ρ2[nz]?=ρ[nz]?/\ρ2[kz]?=ρ[kz]? then bx (.rt t)else cb
   |_=>cb
  |_=>cb
 |_=>cb
theorem ints_rep:∀ {l:List D} {vs:List V} {ns:List Int},intsOf l=bx ns->RepL A H l vs->vs=(ns.map zby:List Key).map kV
 |[],vs,ns,h,r=>by cases h;cases r;rfl
 |.int i::l,vs,ns,h,r=>by
  obtain⟨ms,e,rfl⟩:=map_some<|show(intsOf l).map (i::·)=bx ns from h;cases r with
  |cons r1 r2=>cases r1;rw[ints_rep e r2];rfl
set_option tactic.hygienic true in
def T1(h:nkD d=bx k)(r:Rep A H d v):j7 H k v:=by
 unfold nkD at h;split at h
 .rename_i i l
  obtain⟨ns,e,rfl⟩:=map_some h;cases r with
  |tup h1 r1=>
   cases r1 with
   |cons a1 r1=>
    cases a1;cases r1 with
    |cons a2 r1=>
     cases r1;cases a2 with
     |tup h2 r2=>exact⟨_,_,rfl,h1,by rw[h2,ints_rep e r2]⟩
 .cases h
def RT(h:Rep A H (memD r) v):MemW H r v:=by
 cases r with
 |none=>cases h;rfl
 |some p=>
  cases h with
  |tup h1 r1=>
   cases r1 with
   |cons a1 r1=>
    cases a1;cases r1 with
    |cons a2 r1=>cases a2;cases r1;exact⟨_,rfl,h1⟩
def R0(h:MemW H r v):Rep A H (memD r) v:=by
 cases r with
 |none=>cases(show v=.non from h);exact .non
 |some p=>obtain⟨b,rfl,e⟩:=h;exact .tup e<|.cons (.int _)<|.cons (.int _) .nil
set_option tactic.hygienic true in
def PJ(h:H a=bx o):upd H a o=H:=by
 funext b;unfold upd;split
 .rename_i q;rw[q,h]
 .rfl
def YN(h:j7 H k v)(e:H a=bx o)(n:∀xs,o≠.tup xs):j7 (upd H a o') k v:=by
 obtain⟨c,b,rfl,q,F⟩:=h;exact⟨c,b,rfl,by rw[aG<|uH q e λz=>n _ z.symm];exact q,by rw[aG<|uH F e λz=>n _ z.symm];exact F⟩
section
variable {X:Cx}{L:Lp}{O':List Nat}
set_option tactic.hygienic true in
def NX(J N tz:Nat)(c:Cls X.K C)(n:NoAttr X.K C "found")(hu:X.A.units+2<cLine)(h1:PSD X ⟨[],[]⟩ [] Y f1 [])(h2:PSD X ⟨[],[]⟩ [] F f2 [])
  (a5:PE X n1<|cN J) (ax:PE X n2<|cN J) (aw:PE X n3<|cN J) (az:PE X k1<|cN N) (a4:PE X k2<|cN N) (a1:PE X k3<|cN N) (ht:PE X te<|cN tz) (hs:K4 k3)
  (b1:zaW n1 "found" X.env (eval n1 X.env)=eval n1 X.env:=by rfl) (b2:zaW n2 "found" X.env (eval n2 X.env)=eval n2 X.env:=by rfl) (b3:zaW n3 "found" X.env (eval n3 X.env)=eval n3 X.env:=by rfl)
  (hm:zbV .NotIn (.Attribute n1 "found" p1)=ci:=by rfl) (hw:zaz te (bx<|.Subscript (.Attribute n2 "found" p2) k2 p3) p4.line X.env=pure ci:=by rfl) :
  PSDs X L [] [.If (.Compare k1 [.NotIn] [.Attribute n1 "found" p1] p5) [Y,F,.Assign [.Subscript (.Attribute n2 "found" p2) k2 p3] te p4] [] p6,.Return (bx<|.Subscript (.Attribute n3 "found" p7) k3 p8) p9] (VL C J N tz f1 f2) O':=
 PSs.mono (cL (U8 (YZ (IJ hu az<|jW a5 b1) hm) (cL h1<|cL h2<|gG<|QY hu (jW ax b2) a4 ht hw) yB)<|gG<|EM<|TV hu (jW aw b3) a1 hs) <| by
  rintro T σ H ⟨H0,A0,A,E,ρ,out,st,e,ad⟩;obtain⟨nd,en,e⟩:=bind_some e;obtain⟨m,em,e⟩:=bind_some e;cases m with
  |mem dom f=>
   obtain⟨kd,ek,e⟩:=bind_some e;obtain⟨k,kk,e⟩:=bind_some e;obtain⟨o1,ay,e⟩:=bind_some e;cases o1 with
   |nx ρ1=>
    obtain⟨o2,al,e⟩:=bind_some e;cases o2 with
    |nx ρ2=>
     obtain⟨t,et,e⟩:=bind_some e;split at e
     .rename_i hh
      obtain⟨hd,hl,tm,r1,r2⟩:=hh;cases e;subst tm;cases nd with
      |ob C' fs=>
       unfold zB at em;dsimp only at em;split at em
       .rename_i hC
        subst hC
        -- what is true wherever the node and the key stand
        have U:∀ {A:Av} {σ:L2.St} {H:Hp} {ρ':cA},ST H0 A0 A E [] σ H ρ'->ρ'[J]?=ρ[J]?->ρ'[N]?=ρ[N]?->∃a dx vs q G,σ[J]?=bx (bx<|.ref a)/\σ[N]?=bx (bx G)/\H a=bx (.ins C' dx vs)/\vs.lookup ("found" : Str)=bx (V.ref q)/\H q=bx (.memo dom f cb)/\j7 H k G:=λ{A σ H ρ'} st q1 q2=>by
         obtain⟨v,ev,rv⟩:=st.val J _ (q1.trans<|bT en) (λz=>nomatch z);obtain⟨G,ak,rk⟩:=st.val N _ (q2.trans<|bT ek) (λz=>nomatch z);obtain⟨a,dx,vs,rfl,h,a6,r⟩:=RepB.ob_inv<|.of rv;obtain⟨w,hw,a2⟩:=pW a6 r em;obtain⟨q,rfl,ap⟩:=RepB.mem_inv<|.of a2;exact⟨a,dx,vs,q,G,ev,ak,h,hw,ap,T1 kk rk⟩
        have W:∀ {A:Av} {σ:L2.St} {H:Hp} {ρ':cA},ST H0 A0 A E [] σ H ρ'->∀ {a dx:Addr} {vs:List (Str×V)} {q:Addr} {G:V},σ[J]?=bx (bx<|.ref a)->σ[N]?=bx (bx G)->H a=bx (.ins C' dx vs)->vs.lookup ("found" : Str)=bx (V.ref q)->H q=bx (.memo dom f cb)->j7 H k G->qbc (VW (qa2 X.K (cN J) "found")<|cN N) T σ (upd H q<|.memo dom f<|bx k):=λ{A σ H ρ'} st {a dx vs q G} e1 e2 e3 e4 e5 e6=>by
         refine⟨_,e1,a,C',dx,vs,_,rfl,by rw[aG<|uH e3 e5 λz=>nomatch z];exact e3,c,n,e4,G,e2,q,dom,f,k,rfl,aI,YN e6 e5 (λ_ z=>nomatch z),λv mw=>?_⟩;rw[SN,PJ e5];have am:MemW H (f k) v:=by
          revert mw;cases f k with
          |none=>exact id
          |some p=>exact λ⟨b,q1,q2⟩=>⟨b,q1,by
            by_cases z:b=q
            .subst z;rw[aI]at q2;cases q2
            .rw[aG z]at q2;exact q2⟩
         exact ad v H st.ex<|R0 am
        obtain⟨a,dx,vs,q,G,e1,e2,e3,e4,e5,e6⟩:=U st rfl rfl;refine⟨G,e2,_,e1,a,C',dx,vs,_,rfl,e3,c,n,e4,q,dom,f,cb,k,rfl,e5,e6,⟨cf,rfl,?_⟩,⟨ci,rfl,?_⟩⟩
        .rw[PJ e5]
         dsimp only;rw[ck rfl];refine⟨H0,A0,A,E,ρ,_,st,ay,λA1 bu H1 Y=>⟨H0,A0,A1,E,ρ1,_,Y,al,λA2 bc H2 F=>?_⟩⟩;obtain⟨tv,aj,rt⟩:=F.val tz _ (bT et) (λz=>nomatch z);obtain⟨a',aq,ar,au,ao,g1,g2,g3,g4,g5,g6⟩:=U F r1 r2;exact⟨tv,aj,_,g1,a',C',aq,ar,_,rfl,g3,c,n,g4,ao,g2,au,dom,f,cb,k,rfl,g5,g6,hd,hl,RT rt,W F g1 g2 g3 g4 g5 g6⟩
        .dsimp only
         rw[cq zaB];exact W st e1 e2 e3 e4 e5 e6
       .cases em
      |_=>cases em
     .cases e
    |_=>exact nn e
   |_=>exact nn e
  |_=>exact nn e
end
structure Exx(x:Addr)(A:Av)(H H':Hp):Prop where
 rd:∀b u,b≠x->Rd H b u->Rd H' b u
 kp:∀b u,b≠x->Kp u->H b=bx u->H' b=bx u
 ow:∀b u,b≠x->A b->H b=bx u->H' b=bx u
 fz:∀b o u,b≠x->H b=bx (.frz o u)->H' b=bx (.frz o u)
section
variable {x:Addr}{A A':Av}{H H' H2:Hp}
def Exx.trans(a:Exx x A H H')(b:Exx x A H' H2):Exx x A H H2:=
 ⟨λc u n h=>b.rd c u n<|a.rd c u n h,λc u n k h=>b.kp c u n k<|a.kp c u n k h,λc u n k h=>b.ow c u n k<|a.ow c u n k h,λc o u n h=>b.fz c o u n<|a.fz c o u n h⟩
def Exx.of(a:Ext A H H'):Exx x A H H':=⟨λc u _ h=>a.rd c u h,λc u _ k h=>a.kp c u k h,λc u _ k h=>a.ow c u k h,λc o u _ h=>a.fz c o u h⟩
def Exx.put:Exx x A H<|upd H x o:=⟨λb u n h=>gP n h,λb u n _ h=>by rw[aG n];exact h,λb u n _ h=>by rw[aG n];exact h,λb o u n h=>by rw[aG n];exact h⟩
def Exx.ext(a:Exx x A H H')(n:H x=cb):Ext A H H':=
 have q:∀b,H b≠cb->b≠x:=λb F z=>F<|by rw[z];exact n
 ⟨λb u r => a.rd b u (q b<|by rcases r with r|⟨_, r⟩ <;> (rw[r];exact λz => nomatch z)) r, λb u k r => a.kp b u (q b<|by rw[r];exact λz => nomatch z) k r,
  λb u k r=>a.ow b u (q b<|by rw[r];exact λz=>nomatch z) k r,λb o u r=>a.fz b o u (q b<|by rw[r];exact λz=>nomatch z) r⟩
mutual
/-- an object that is under way is written -/
theorem Rep.putI(q:A a)(F:H a=bx (.ins C dx fs)):Rep A H d v->Rep A (upd H a o) d v
 |.non=>.non
 |.bl b=>.bl b
 |.int i=>.int i
 |.str s=>.str s
 |.tup (a:=b) h r=>.tup (by rw[aG λz=>by subst z;rw[F]at h;cases h];exact h)<|RepL.putI q F r
 |.lst (a:=b) n h r=>.lst n (gP (λz=>n<|by rw[z];exact q) h)<|RepL.putI q F r
 |.dK (a:=b) n h e r=>.dK n (gP (λz=>n<|by rw[z];exact q) h) e<|RepL.putI q F r
 |.dT (a:=b) n h e r=>.dT n (gP (λz=>n<|by rw[z];exact q) h) e<|RepL.putI q F r
 |.ob (a:=b) n h e r=>.ob n (by rw[aG λz=>n<|by rw[z];exact q];exact h) e<|RepL.putI q F r
 |.mem (a:=b) h=>.mem<|by rw[aG λz=>by subst z;rw[F]at h;cases h];exact h
theorem RepL.putI(q:A a)(z:H a=bx (.ins C dx fs)):RepL A H ds vs->RepL A (upd H a o) ds vs
 |.nil=>.nil
 |.cons h t=>.cons (Rep.putI q z h)<|RepL.putI q z t
end
end
structure IO(K:zae)(H0:Hp)(A:Av)(x C dx:Addr)(ds:List<|Str×D)(σ:L2.St)(H:Hp)(ρ:cA):Prop where
 cls:Cls K C
 ax:A x
 live:Live A H
 hx:∃fs:List (Str×V),H x=bx (.ins C dx fs)/\fs.map (·.1)=ds.map (·.1)/\RepL A H (ds.map (·.2)) (fs.map (·.2))
 s0:σ[0]?=bx (bx<|.ref x)
 len:σ.length=ρ.length
 val:∀(i:Nat) (d:D),ρ[i]?=bx (bx d)->∃v,σ[i]?=bx (bx v)/\Rep A H d v
 ke:Exx x A H0 H
section
variable {K:zae}{H0:Hp}{A:Av}{x C dx:Addr}{ds:List (Str×D)}{σ:L2.St}{H H':Hp}{ρ:cA}
def IO.st(s:IO K H0 A x C dx ds σ H ρ):ST H A A [] [] σ H ρ:=
 ⟨Ext.refl _ _,λ_ z=>z,s.live,s.live,s.len,λi d h _=>s.val i d h,(λj d _ h=>nomatch h),(λj k d d' a h=>nomatch h),(λq F=>nomatch F)⟩
theorem IO.ext(s:IO K H0 A x C dx ds σ H ρ)(e:Ext A H H'):IO K H0 A x C dx ds σ H' ρ:=
 ⟨s.cls,s.ax,(s.st.mono e).live,by obtain⟨fs,h,m,r⟩:=s.hx;exact⟨fs,e.ow _ _ s.ax h,m,r.ext e⟩,s.s0,s.len,λi d h=>(s.st.mono e).val i d h (λz=>nomatch z),s.ke.trans<|.of e⟩
theorem sT:∀ {fs:List (Str×V)},f∉fs.map (·.1)->i4 f v fs=fs++[(f,v)]
 |[],_=>rfl
 |(g,y)::fs,h=>by
  have h1:¬ g=f:=λz=>h<|by rw[zan,z];exact zar ..
  have h2:f∉fs.map (·.1):=λz=>h<|zaq _ z
  rw[i4,cq h1,sT h2];rfl
def RepL.snoc{ds:List D}{vs:List V}(r:RepL A H ds vs)(h:Rep A H d v):RepL A H (ds++[d])<|vs++[v]:=r.append<|.cons h .nil
theorem IO.put(s:IO K H0 A x C dx ds σ H ρ)(F:f∉ds.map (·.1))(r:Rep A H d v):∃fs,H x=bx (.ins C dx fs)/\fs.length=ds.length/\IO K H0 A x C dx (ds++[(f,d)]) σ (upd H x<|.ins C dx<|i4 f v fs) ρ:=by
 obtain⟨fs,h,m,G⟩:=s.hx;refine⟨fs,h,by have:=congrArg zbt m;simpa using this,s.cls,s.ax,λa J z=>?_,⟨_,aI,?_,?_⟩,s.s0,s.len,λi d h'=>?_,s.ke.trans .put⟩
 .by_cases q:a=x
  .subst q;rw[aI]at z;cases z
  .rw[aG q]at z;exact s.live a J z
 .rw[sT (by rw[m];exact F),zaR,zaR,m];rfl
 .rw[sT (by rw[m];exact F),zaR,zaR]
  exact RepL.putI s.ax h<|G.snoc r
 .obtain⟨v,e,q⟩:=s.val i d h'
  exact⟨v,e,q.putI s.ax h⟩
end
inductive tIO(K:zae)(f:Str)(fe:Ev)(T:Ends)(σ:L2.St)(H:Hp):Prop
 | mk (H0:Hp) (A:Av) (x C dx:Addr) (ds:List<|Str×D) (ρ:cA) (d:D) (st:IO K H0 A x C dx ds σ H ρ) (e:fe ρ=bx d) (nf:NoAttr K C f) (lf:ds.length<1000) (hf:f∉ds.map (·.1))
  (n:∀H',IO K H0 A x C dx (ds++[(f,d)]) σ H' ρ->T.nx σ H'):tIO K f fe T σ H
inductive tIC(K:zae)(f h:Str)(F:List D->Option D)(fe:Ev)(T:Ends)(σ:L2.St)(H:Hp):Prop
 | mk (H0:Hp) (A:Av) (x C dx:Addr) (ds:List<|Str×D) (ρ:cA) (d1 d2 d:D) (st:IO K H0 A x C dx ds σ H ρ) (e1:fe ρ=bx d1) (e2:ds.lookup h=bx d2) (e:F [d1,d2]=bx d) (nf:NoAttr K C f) (nh:NoAttr K C h) (lf:ds.length<1000) (hf:f∉ds.map (·.1))
  (n:∀H',IO K H0 A x C dx (ds++[(f,d)]) σ H' ρ->T.nx σ H'):tIC K f h F fe T σ H
inductive tIM(K:zae)(f:Str)(dom:List NK)(g:Mf)(T:Ends)(σ:L2.St)(H:Hp):Prop
 | mk (H0:Hp) (A:Av) (x C dx:Addr) (ds:List<|Str×D) (ρ:cA) (st:IO K H0 A x C dx ds σ H ρ) (nf:NoAttr K C f) (lf:ds.length<1000) (hf:f∉ds.map (·.1))
  (n:∀H',IO K H0 A x C dx (ds++[(f,.mem dom g)]) σ H' ρ->T.nx σ H'):tIM K f dom g T σ H
def qaA(dom:List NK)(g:Mf):TE:=λ_ H Q=>∀p,H p=cb->Q (.ref p) (upd H p<|.memo dom g cb)
section
variable {X:Cx}
def TH:PE X (.Dict [] [] pos)<|qaA dom g:=λpins s σ H Q I h=>
 wpAny_Dict_empty ⟨.ref s.heap.objs.size,_,I.laid (a:=s.heap.objs.size) (o:=.memo dom g cb) (t':=s.toks) (λ_ _ q=>zam _ q) (zaj _)
  ⟨beq_eq_false_iff_ne.mpr<|zaI<|zaE I.big,[],(λ_ z=>nomatch z),(λ_ z=>nomatch z),_,#[],0,zaF _ rfl,⟨rfl,rfl,rfl⟩,rfl,rfl,List.nodup_nil⟩,rfl,h _<|I.hok.fresh<|zaj _⟩
def ED(q:PE X o<|cN 0)(F:PD X [] e fe)(hs:zaz e (bx<|.Attribute o f pos') pos.line X.env=pure ci:=by rfl):PS X (.Assign [.Attribute o f pos'] e pos)<|tIO X.K f fe:=
 PS.mono (uB q F hs) λT σ H ⟨H0,A,x,C,dx,ds,ρ,d,st,e,nf,N,z,n⟩=>
  ⟨H, A, A, [], ρ, d, st.st, e, λv H1 G r1 => by
   obtain⟨fs,h,U,J⟩:=(st.ext G).put z r1;exact⟨_,st.s0,x,C,dx,fs,rfl,h,st.cls,nf,by lia,n _ J⟩⟩
def TU(F:PE X o<|cN 0)(hs:zaz (.Dict [] [] p) (bx<|.Attribute o f pos') pos.line X.env=pure ci:=by rfl):PS X (.Assign [.Attribute o f pos'] (.Dict [] [] p) pos)<|tIM X.K f dom g:=
 PS.mono (uB F (TH (dom:=dom) (g:=g)) hs) <| by
  rintro T σ H ⟨H0,A,x,C,dx,ds,ρ,st,nf,N,G,n⟩ q z;obtain⟨fs,h,U,J⟩:=(st.ext<|Ext.new (o:=.memo dom g cb) z).put G<|.mem<|aI (H:=H) (a:=q);exact⟨_,st.s0,x,C,dx,fs,rfl,h,st.cls,nf,by lia,n _ J⟩
def UF(FF:Fn X.prog X.w X.K X.mg X.base g k ps F)(hp:ps.length=2)(hr:Room k X.A)(hg:Gl X g)(ho:PE X o<|cN 0)(G:PE X o2<|cN 0)(he:PD X [] e fe)
  (Y:zaW o2 h X.env (eval o2 X.env)=eval o2 X.env:=by rfl) (N:(g == ("__debug__" : Str))=ci:=by decide) (h1:zaf [e,.Attribute o2 h p2] X.env=(ci,eval e X.env)::zaf [.Attribute o2 h p2] X.env:=by rfl) (h2:(zaG cpos<|zaf [.Attribute o2 h p2] X.env).any (·.1)=ci:=by rfl) (h3:zaf [.Attribute o2 h p2] X.env=(ci,eval (.Attribute o2 h p2) X.env)::zaf [] X.env:=by rfl)
  (hs:zaz (.Call (.Name g p) [e,.Attribute o2 h p2] [] cpos) (bx<|.Attribute o f pos') pos.line X.env=pure ci:=by rfl):PS X (.Assign [.Attribute o f pos'] (.Call (.Name g p) [e,.Attribute o2 h p2] [] cpos) pos)<|tIC X.K f h F fe:=by
 obtain⟨fa,fd,hk,J,hm,FO⟩:=My.Ok.ex FF;refine PS.mono (uB ho (xZ FO hr hg hm hk J .nil HP (bX he (bX (jW G Y) eK h3) h1) N h1 h2) hs) λT σ H ⟨H0,A,x,C,dx,ds,ρ,W,d2,d,st,e1,e2,e,nf,nh,lf,hf,n⟩=>?_
 refine⟨H,A,A,[],ρ,W,st.st,e1,λv H1 x1 r1=>?_⟩;have q:=st.ext x1;obtain⟨fs,hx,m,rr⟩:=q.hx;obtain⟨v2,U,z⟩:=pW m rr e2;refine⟨_,q.s0,x,C,dx,fs,v2,rfl,hx,q.cls,nh,U,?_⟩;refine⟨A,[W,d2],d,q.live,.cons r1<|.cons z .nil,hp.symm,e,λv3 H3 x3 r3=>?_⟩;obtain⟨fs',h',hl,s2⟩:=(q.ext x3).put hf r3;exact⟨_,q.s0,x,C,dx,fs',rfl,h',q.cls,nf,by lia,n _ s2⟩
end
def qd(C:Addr)(G:D->D->Option D):Sp:=λvs H Q _=>∃(A:Av) (H1:Hp) (x dx:Addr) (v:V) (b d0 d:D),vs=[.ref x,v]/\H=upd (upd H1 dx<|.own x) x (.ins C dx [])/\H1 x=cb/\H1 dx=cb/\dx≠x/\Live A H1/\Rep A H1 d0 v/\G b d0=bx d/\∀H2,Ext A H1 H2->Rep A H2 d (.ref x)->Q .non H2
structure MkO(P:zah)(w:World)(K:zae)(mg:Str->Option Value)(base:Heap)(k:Nat)(x:Str)(C:Addr)(p:Str)(G:D->D->Option D):Prop where
 ex:∃f fd,mg x=bx (.ref C)/\Mk K C f/\Binds K fd ["self",p] []/\FnOk P w K mg base uS k f fd ["self",p] (qd C G)
def eNew(G:D->D->Option D)(β f:Ev):Ev:=λρ=>(β ρ).bind λb=>(f ρ).bind<|G b
section
variable {X:Cx}{O:List Nat}
def lM(M:MkO X.prog X.w X.K X.mg X.base k x C p G)(hr:Room (k+1) X.A)(hg:Gl X x)(he:PD X O e fe)(z:(x == ("__debug__" : Str))=ci:=by decide)
  (h1:zaf [e] X.env=(ci,eval e X.env)::zaf [] X.env:=by rfl) (h2:(zaG pos<|zaf [] X.env).any (·.1)=ci:=by rfl):PD X O (.Call (.Name x pp) [e] [] pos)<|eNew G β fe:=by
 obtain⟨f,fd,hm,mk,Y,FO⟩:=M.ex;refine PE.mono (T2 mk FO hr hg hm Y .nil HP (bX he eK h1) z h1 h2) λσ H Q ⟨H0,A0,A,E,ρ,d,st,e,q⟩=>?_
 obtain⟨b,eb,e⟩:=bind_some e;obtain⟨F,e0,N⟩:=bind_some e;refine⟨H0,A0,A,E,ρ,F,st,e0,λv H1 J r1=>λW dx n1 n2 U=>?_⟩;exact⟨A,H1,W,dx,v,b,F,d,rfl,rfl,n1,n2,U,(st.mono J).live,r1,N,λH2 x2 r2=>⟨rfl,q _ H2 (J.trans x2) r2⟩⟩
end
structure ObT(K:zae)(mg:Str->Option Value)(x q p:Str)(st:Stmt)(C:Addr)(fs:List Str):Prop where
 cls:Cls K C
 na:∀a∈fs,NoAttr K C a
 ex:∃f fd,mg x=bx (.ref C)/\Mk K C f/\Binds K fd ["self",p] []/\Fun K "__init__" q st f fd
section
variable {P:zah}{w:World}{K:zae}{mg:Str->Option Value}{base:Heap}
def ObT.mko{x q p:Str}{st:Stmt}{C:Addr}{fs N:List Str}{k:Nat}{G:D->D->Option D}(T:ObT K mg x q p st C fs)(S:FnScope N ["self",p]<|aF st)
  (h:∀(fa:Addr) (z:Value) (A:zal) (outer:List Env) (s:zab) (H:Hp) (E:XK),Room k (A.deeper<|zaH q (aF st) s.heap.objs.size fa z)->∀(vs:List V) (Q:VK),qd C G vs H Q E->∃t,PSs (dC uS P w K mg base N q (aF st) fa z A outer s H E).nox (bF st) t/\t {nx:=λ_ H'=>Q .non H',rt:=Q} (start N vs) H) :
  MkO P w K mg base (k+1) x C p G:=by
 obtain⟨f,fd,W,M,U,F⟩:=T.ex;exact⟨f,fd,W,M,U,F.ok S (λvs H Q E hsp=>by obtain⟨_,_,_,_,_,_,_,_,rfl,_⟩:=hsp;rfl) λz A outer s H vs Q E J hsp=>h f z A outer s H E J vs Q hsp⟩
end
def IO.begun{K:zae}{C x dx:Addr}{A:Av}{H1:Hp}{v:V}{G:D}(cls:Cls K C)(J:H1 x=cb)(U:H1 dx=cb)(Y:dx≠x)(lv:Live A H1)(r:Rep A H1 G v)(m:List<|Option V)(hm:∀o∈m,o=cb):IO K H1 (λb=>A b\/b=x) x C dx [] (bx (.ref x)::bx v::m) (upd (upd H1 dx<|.own x) x<|.ins C dx [])<|cb::bx G::m.map λ_=>cb:=by
 have nx:upd H1 dx (.own x) x=cb:=by rw[aG Y.symm];exact J
 have N:Ext (λb=>A b\/b=x) H1<|upd (upd H1 dx<|.own x) x<|.ins C dx []:=(Ext.new U).trans<|Ext.new nx;have r':Rep (λb=>A b\/b=x) (upd (upd H1 dx<|.own x) x<|.ins C dx []) G v:=(r.av (A':=λb=>A b\/b=x) λa F=>F.imp id λz=>by rw[z];exact J).ext N;refine⟨cls,.inr rfl,λa F z=>?_,⟨[],aI,rfl,.nil⟩,rfl,by simp,λi d h=>?_,.of N⟩
 .rcases F with F|rfl
  .have h0:=lv a F
   have a1:a≠x:=λq=>h0<|by rw[q];exact J
   have W:a≠dx:=λq=>h0<|by rw[q];exact U
   rw[aG a1,aG W]at z;exact h0 z
  .rw[aI]at z;cases z
 .match i,h with
  |1,h=>cases h;exact⟨v,rfl,r'⟩
  |i+2,h=>
   have:(m.map λ_=>(cb:Option D))[i]?=bx (bx d):=h;rw[zaD]at this;obtain⟨_,_,q⟩:=Option.map_eq_some_iff.mp this;cases q
def IO.done{K:zae}{C x dx:Addr}{A:Av}{H1 H2:Hp}{ds:List (Str×D)}{σ:L2.St}{ρ:cA}(s:IO K H1 (λb=>A b\/b=x) x C dx ds σ H2 ρ)(F:H1 x=cb)(G:Live A H1):Ext A H1 H2/\Rep A H2 (.ob C ds) (.ref x):=by
 refine⟨(s.ke.ext F).mono λa q=>.inl q,?_⟩;obtain⟨fs,h,m,r⟩:=s.hx;exact .ob (λz=>G x z F) h m<|r.av λa q=>.inl<|.inl q
def HY(C:Addr)(fb:Ev)(z:List D->Option D)(F:D->List NK)(ff:D->Mf)(q:D):Option D:=(fb [cb,bx q]).bind λb=>(z [q,b]).bind λns=>bx<|.ob C [("part",q),("below",b),("names",ns),("found",.mem (F q)<|ff q)]
section
variable {X:Cx}
def IX{C:Addr}{k:Nat}{gp:List Str}{o1 o2 o3 G o5 e1 e2 W:Expr}{g:Str}{fb:D->Ev}{Nm:List D->Option D}{dm:D->D->List NK}{ff:D->D->Mf}{a1 a2 a3 a4 p1 p2 p3 p4 q2 J c3 d4:Pos}(cls:Cls X.K C)(N:∀a∈(["part", "below", "names", "found"]:List Str),NoAttr X.K C a)(FF:Fn X.prog X.w X.K X.mg X.base g k gp Nm)(hp:gp.length=2)(hr:Room k X.A)(hg:Gl X g)
  (ac:PE X o1<|cN 0) (ab:PE X o2<|cN 0) (al:PE X o3<|cN 0) (af:PE X G<|cN 0) (ah:PE X o5<|cN 0) (ag:PD X [] e1<|aD 1) (aa:∀b,PD X [] e2<|fb b) (Y:PD X [] W<|aD 1)
  (hb:zaW G "below" X.env (eval G X.env)=eval G X.env:=by rfl) (ak:(g == ("__debug__" : Str))=ci:=by decide) (h1:zaf [W,.Attribute G "below" J] X.env=(ci,eval W X.env)::zaf [.Attribute G "below" J] X.env:=by rfl) (h2:(zaG c3<|zaf [.Attribute G "below" J] X.env).any (·.1)=ci:=by rfl) (h3:zaf [.Attribute G "below" J] X.env=(ci,eval (.Attribute G "below" J) X.env)::zaf [] X.env:=by rfl)
  (s1:zaz e1 (bx<|.Attribute o1 "part" a1) p1.line X.env=pure ci:=by rfl) (s2:zaz e2 (bx<|.Attribute o2 "below" a2) p2.line X.env=pure ci:=by rfl) (s3:zaz (.Call (.Name g q2) [W,.Attribute G "below" J] [] c3) (bx<|.Attribute o3 "names" a3) p3.line X.env=pure ci:=by rfl) (s4:zaz (.Dict [] [] d4) (bx<|.Attribute o5 "found" a4) p4.line X.env=pure ci:=by rfl)
  {vs:List V} {H:Hp} {Q:VK} {E:XK} (hsp:qd C (λb=>HY C (fb b) Nm (dm b)<|ff b) vs H Q E) {R:VK}:∃t,PSs X [.Assign [.Attribute o1 "part" a1] e1 p1,.Assign [.Attribute o2 "below" a2] e2 p2,.Assign [.Attribute o3 "names" a3] (.Call (.Name g q2) [W,.Attribute G "below" J] [] c3) p3,.Assign [.Attribute o5 "found" a4] (.Dict [] [] d4) p4] t/\t {nx:=λ_ H'=>Q .non H',rt:=R} (vs.map bx) H:=by
 obtain⟨A,H1,x,dx,v,bb,F,d,rfl,rfl,n1,n2,ne,lv,rp,U,q⟩:=hsp;obtain⟨b,eb,U⟩:=bind_some U;obtain⟨ns,en,U⟩:=bind_some U;cases U;refine⟨_,cL (ED ac ag s1)<|cL (ED ab (aa bb) s2)<|cL (UF FF hp hr hg al af Y hb ak h1 h2 h3 s3)<|gG<|TU (dom:=dm bb F) (g:=ff bb F) ah s4,?_⟩;have I0:=IO.begun cls n1 n2 ne lv rp [] (λ_ z=>nomatch z);refine⟨H1,_,x,C,dx,[],_,F,I0,rfl,N _<|by simp,by simp,by simp,λH2 I2=>?_⟩;refine⟨H1,_,x,C,dx,_,_,b,I2,eb,N _<|by simp,by simp,(show("below" : Str)∉(["part"]:List Str) by decide),λH3 I3=>?_⟩;refine⟨H1,_,x,C,dx,_,_,F,b,ns,I3,rfl,rfl,en,N _<|by simp,N _<|by simp,by simp,(show("names" : Str)∉(["part", "below"]:List Str) by decide),λH4 I4=>?_⟩;refine⟨H1,_,x,C,dx,_,_,I4,N _<|by simp,by simp,(show("found" : Str)∉(["part", "below", "names"]:List Str) by decide),λH5 I5=>?_⟩;obtain⟨x5,r5⟩:=I5.done n1 lv;exact q H5 x5 r5
end
def kR{α:Type}(f:D->α->Option α):List D->α->Option α
 |[],a=>bx a
 |x::l,a=>(f x a).bind<|kR f l
abbrev LT:=List<|List Key×D
def jP(e:Ext A Hs H1)(n:H1 r=cb)(H:Hp)(o:HO)(x:Ext A Hs H):Ext A Hs (upd H r o) where
 rd:=λb u h=>by
  by_cases q:b=r
  .subst q;rcases e.rd _ _ h with z|⟨_,z⟩ <;> (rw[n]at z;cases z)
  .exact gP q<|x.rd _ _ h
 kp:=λb u k h=>by
  by_cases q:b=r
  .subst q;have z:=e.kp _ _ k h;rw[n]at z;cases z
  .rw[aG q];exact x.kp _ _ k h
 ow:=λb u k h=>by
  by_cases q:b=r
  .subst q;have z:=e.ow _ _ k h;rw[n]at z;cases z
  .rw[aG q];exact x.ow _ _ k h
 fz:=λb o u h=>by
  by_cases q:b=r
  .subst q;have z:=e.fz _ _ _ h;rw[n]at z;cases z
  .rw[aG q];exact x.fz _ _ _ h
structure IA(K:zae)(Hs:Hp)(A0 A:Av)(x C dx r s:Addr)(bk:D)(E:List Fact)(p:LT×LT)(σ:L2.St)(H:Hp)(ρ:cA):Prop where
 cls:Cls K C
 nr:NoAttr K C "routes"
 ns:NoAttr K C "spans"
 av:∀b,A b->A0 b\/b=x\/b=r\/b=s
 a0:∀b,A0 b->A b
 ax:A x
 ar:A r
 at':A s
 ne:r≠s
 fr:∀H o,Ext A0 Hs H->Ext A0 Hs (upd H r o)
 fs:∀H o,Ext A0 Hs H->Ext A0 Hs (upd H s o)
 live:Live A H
 hx:∃vb,H x=bx (.ins C dx [("book",vb),("routes",.ref r),("spans",.ref s)])/\Rep A H bk vb
 o1:Own A H (.dT p.1) r
 o2:Own A H (.dT p.2) s
 s0:σ[0]?=bx (bx<|.ref x)
 len:σ.length=ρ.length
 val:∀(i:Nat) (d:D),ρ[i]?=bx (bx d)->∃v,σ[i]?=bx (bx v)/\Rep A H d v
 fx:∀q∈E,q.Holds A H
 ke:Ext A0 Hs H
section
variable {K:zae}{Hs:Hp}{A0 A:Av}{x C dx r s:Addr}{bk:D}{E:List Fact}{p:LT×LT}{σ:L2.St}{H H':Hp}{ρ:cA}
def IA.st(t:IA K Hs A0 A x C dx r s bk E p σ H ρ):ST H A A E [] σ H ρ:=
 ⟨Ext.refl _ _,λ_ z=>z,t.live,t.live,t.len,λi d h _=>t.val i d h,(λj d _ h=>nomatch h),(λj k d d' a h=>nomatch h),t.fx⟩
theorem IA.ext(t:IA K Hs A0 A x C dx r s bk E p σ H ρ)(e:Ext A H H'):IA K Hs A0 A x C dx r s bk E p σ H' ρ:=
 {t with live:=(t.st.mono e).live,hx:=by obtain⟨F,h,q⟩:=t.hx;exact⟨F,e.ow _ _ t.ax h,q.ext e⟩,o1:=t.o1.ext e t.ar,o2:=t.o2.ext e t.at',val:=λi d h=>(t.st.mono e).val i d h (λz=>nomatch z),fx:=(t.st.mono e).ext,ke:=t.ke.trans (e.mono t.a0)}
def IA.more(t:IA K Hs A0 A x C dx r s bk E p σ H ρ)(h:∀q∈E1,q.Holds A H):IA K Hs A0 A x C dx r s bk (E1++E) p σ H ρ:=
 {t with fx:=λq z=>(List.mem_append.mp z).elim (h q) (t.fx q)}
def IA.less(t:IA K Hs A0 A x C dx r s bk E p σ H ρ)(h:∀q∈E1,q∈E):IA K Hs A0 A x C dx r s bk E1 p σ H ρ:=
 {t with fx:=λq z=>t.fx q (h q z)}
theorem IA.set(t:IA K Hs A0 A x C dx r s bk E p σ H ρ)(h:Rep A H d v)(n:i≠0):IA K Hs A0 A x C dx r s bk E p (σ.set i<|bx v) H<|ρ.set i<|bx d:=
 {t with
  s0:=by rw[za7 n];exact t.s0
  len:=by rw[zce,zce];exact t.len
  val:=λj e h'=>by
   rcases dA h' with⟨rfl,q,l⟩|⟨z,q⟩
   .cases q
    exact⟨v,by rw[zcG<|by rw[t.len];exact l],h⟩
   .rw[za7 z.symm];exact t.val j e q}
def AZ(G:Live A H):Live A<|upd H a o:=λb F z=>by
 by_cases q:b=a
 .subst q;rw[aI]at z;cases z
 .rw[aG q]at z;exact G b F z
def IA.put1(t:IA K Hs A0 A x C dx r s bk E p σ H ρ):∃xs,H r=bx (.dT xs)/\xs.length=p.1.length/\∀F w v,Rep A H w v->IA K Hs A0 A x C dx r s bk E (putD p.1 F w,p.2) σ (upd H r<|.dT<|putK xs F v) ρ:=by
 cases t.o1 with
 |@dT _ _ xs h e rl=>
  refine⟨xs,h,by have:=congrArg zbt e;simpa using this,λF w v G=>?_⟩;obtain⟨U,Y⟩:=wJ<|t8 F G<|uL e rl;obtain⟨W,hx,rb⟩:=t.hx;exact {t with
   live:=AZ t.live
   hx:=⟨W,by rw[aG λz=>by rw[z,h]at hx;cases hx];exact hx,rb.put t.ar h trivial⟩
   o1:=.dT aI U<|Y.put t.ar h trivial
   o2:=t.o2.put t.ar h trivial t.ne.symm
   val:=λi d hi=>by obtain⟨v,N,q⟩:=t.val i d hi;exact⟨v,N,q.put t.ar h trivial⟩
   fx:=λq J=>Fact.put t.ar h trivial (t.fx q J)
   ke:=t.fr _ _ t.ke}
def IA.put2(t:IA K Hs A0 A x C dx r s bk E p σ H ρ):∃xs,H s=bx (.dT xs)/\xs.length=p.2.length/\∀F w v,Rep A H w v->IA K Hs A0 A x C dx r s bk E (p.1,putD p.2 F w) σ (upd H s<|.dT<|putK xs F v) ρ:=by
 cases t.o2 with
 |@dT _ _ xs h e rl=>
  refine⟨xs,h,by have:=congrArg zbt e;simpa using this,λF w v G=>?_⟩;obtain⟨U,Y⟩:=wJ<|t8 F G<|uL e rl;obtain⟨W,hx,rb⟩:=t.hx;exact {t with
   live:=AZ t.live
   hx:=⟨W,by rw[aG λz=>by rw[z,h]at hx;cases hx];exact hx,rb.put t.at' h trivial⟩
   o1:=t.o1.put t.at' h trivial t.ne
   o2:=.dT aI U<|Y.put t.at' h trivial
   val:=λi d hi=>by obtain⟨v,N,q⟩:=t.val i d hi;exact⟨v,N,q.put t.at' h trivial⟩
   fx:=λq J=>Fact.put t.at' h trivial (t.fx q J)
   ke:=t.fs _ _ t.ke}
def IA.done(t:IA K Hs A0 A x C dx r s bk E p σ H ρ)(W:Live A0 Hs)(G:¬ A0 x)(J:¬ A0 r)(F:¬ A0 s):Ext A0 Hs H/\Rep A0 H (.ob C [("book",bk),("routes",.dT p.1),("spans",.dT p.2)]) (.ref x):=by
 obtain⟨U,h,N⟩:=t.hx;have q:∀b,A0 b->A b\/H b=cb:=λb z=>.inl<|t.a0 b z
 exact⟨t.ke,.ob G h rfl<|.cons (N.av q)<|.cons ((t.o1.av q).rep J)<|.cons ((t.o2.av q).rep F) .nil⟩
inductive tA1(K:zae)(fk fv:Ev)(T:Ends)(σ:L2.St)(H:Hp):Prop
 | mk (Hs:Hp) (A0 A:Av) (x C dx r s:Addr) (bk:D) (E:List Fact) (p:LT×LT) (ρ:cA) (kd w:D) (kk:List Key) (st:IA K Hs A0 A x C dx r s bk E p σ H ρ) (ek:fk ρ=bx kd) (et:WD kd=bx kk) (ew:fv ρ=bx w) (sz:aZ p.1.length=cf)
  (n:∀H',IA K Hs A0 A x C dx r s bk E (putD p.1 kk w,p.2) σ H' ρ->T.nx σ H'):tA1 K fk fv T σ H
inductive tA2(K:zae)(fk fe:Ev)(F:List D->Option D)(T:Ends)(σ:L2.St)(H:Hp):Prop
 | mk (Hs:Hp) (A0 A:Av) (x C dx r s:Addr) (bk:D) (E:List Fact) (p:LT×LT) (ρ:cA) (kd w d z:D) (kk:List Key) (st:IA K Hs A0 A x C dx r s bk E p σ H ρ) (ek:fk ρ=bx kd) (et:WD kd=bx kk) (ev:e8 p.1 kk=bx w) (ed:fe ρ=bx d) (ez:F [d,w]=bx z) (sz:aZ p.2.length=cf)
  (n:∀H',IA K Hs A0 A x C dx r s bk E (p.1,putD p.2 kk z) σ H' ρ->T.nx σ H'):tA2 K fk fe F T σ H
end
section
variable {X:Cx}
def TB(hu:X.A.units+1<cLine)(G:PE X o<|cN 0)(U:PB X [] k fk)(hv:PD X [] value fv)(z:zaW o "routes" X.env (eval o X.env)=eval o X.env:=by rfl)
  (hs:zaz value (bx<|.Subscript (.Attribute o "routes" p1) k p2) pos.line X.env=pure ci:=by rfl):PS X (.Assign [.Subscript (.Attribute o "routes" p1) k p2] value pos)<|tA1 X.K fk fv:=
 PS.mono (yG hu (jW G z) U hv hs) <| by
  rintro T σ H ⟨Hs,A0,A,x,C,dx,r,s,bk,E,p,ρ,kd,w,N,st,Y,J,ew,sz,n⟩;refine⟨_,A,A,E,ρ,w,st.st,ew,λv H1 x1 r1=>?_⟩;have q:=st.ext x1;obtain⟨vb,hx,_⟩:=q.hx;refine⟨_,q.s0,x,C,dx,_,.ref r,rfl,hx,q.cls,q.nr,rfl,_,A,A,E,ρ,kd,q.st,Y,λy H2 F r2=>?_⟩;have s2:=q.ext F;obtain⟨xs,h,W,go⟩:=s2.put1;obtain⟨b,rfl,z⟩:=qG J r2;exact⟨r,_,rfl,DPut.t h z (by rw[W];exact iT sz),n _<|go N w v<|r1.ext F⟩
def TK(FF:Fn X.prog X.w X.K X.mg X.base g kn ps F)(hp:ps.length=2)(hr:Room kn X.A)(hg:Gl X g)(hu:X.A.units+1<cLine)(ho:PE X o<|cN 0)(Y:PE X o2<|cN 0)(hk:PB X [] k fk)(ae:PB X [] k2 fk)(he:PD X [] e fe)(hn:K4 k2)
  (N:zaW o "spans" X.env (eval o X.env)=eval o X.env:=by rfl) (U:zaW o2 "routes" X.env (eval o2 X.env)=eval o2 X.env:=by rfl) (af:(g == ("__debug__" : Str))=ci:=by decide)
  (h1:zaf [e,.Subscript (.Attribute o2 "routes" p3) k2 p4] X.env=(ci,eval e X.env)::zaf [.Subscript (.Attribute o2 "routes" p3) k2 p4] X.env:=by rfl) (h2:(zaG cp<|zaf [.Subscript (.Attribute o2 "routes" p3) k2 p4] X.env).any (·.1)=ci:=by rfl) (h3:zaf [.Subscript (.Attribute o2 "routes" p3) k2 p4] X.env=(ci,eval (.Subscript (.Attribute o2 "routes" p3) k2 p4) X.env)::zaf [] X.env:=by rfl)
  (hs:zaz (.Call (.Name g gp) [e,.Subscript (.Attribute o2 "routes" p3) k2 p4] [] cp) (bx<|.Subscript (.Attribute o "spans" p1) k p2) pos.line X.env=pure ci:=by rfl) :
  PS X (.Assign [.Subscript (.Attribute o "spans" p1) k p2] (.Call (.Name g gp) [e,.Subscript (.Attribute o2 "routes" p3) k2 p4] [] cp) pos) (tA2 X.K fk fe F):=by
 obtain⟨fa,fd,W,ab,hm,FO⟩:=My.Ok.ex FF;refine PS.mono (yG hu (jW ho N) hk (xZ FO hr hg hm W ab .nil HP (bX he (bX (FN hu (jW Y U) ae hn) eK h3) h1) af h1 h2) hs) λT σ H ⟨Hs,A0,A,x,C,dx,r,s,bk,E,p,ρ,kd,w,d,z,kk,st,ek,et,ev,ed,ez,sz,n⟩=>?_
 refine⟨_,A,A,E,ρ,d,st.st,ed,λv1 H1 x1 r1=>?_⟩;have G:=st.ext x1;obtain⟨vb,hx,_⟩:=G.hx;refine⟨_,G.s0,x,C,dx,_,.ref r,rfl,hx,G.cls,G.nr,rfl,_,A,A,E,ρ,kd,G.st,ek,λy H2 x2 r2=>?_⟩;have s2:=G.ext x2;obtain⟨a,ov,e1,_,dg,J⟩:=tR (d:=.dT p.1) (k:=kd) (o:=bx w) (by simp only[nJ,et,zac,ev]) s2.o1.b r2;rcases J with⟨J,_⟩|⟨w',v2,J,e3,r3⟩
 .cases J
 .cases J;subst e3;cases e1
  refine⟨r,v2,rfl,dg,?_⟩;refine⟨A,[d,w],z,s2.live,.cons (r1.ext x2)<|.cons r3 .nil,hp.symm,ez,λv3 H3 x3 r4=>?_⟩;have q:=s2.ext x3;obtain⟨a1,ad,_⟩:=q.hx;refine⟨_,q.s0,x,C,dx,_,.ref s,rfl,ad,q.cls,q.ns,rfl,_,A,A,E,ρ,kd,q.st,ek,λy4 H4 x4 r5=>?_⟩;have s4:=q.ext x4;obtain⟨xs,h,hl,go⟩:=s4.put2;obtain⟨b,rfl,N⟩:=qG et r5;exact⟨s,_,rfl,DPut.t h N (by rw[hl];exact iT sz),n _<|go kk z v3<|r4.ext x4⟩
inductive tAF(K:zae)(f:Lv)(i:Nat)(tb:TS)(T:Ends)(σ:L2.St)(H:Hp):Prop
 | mk (Hs:Hp) (A0 A:Av) (x C dx r s:Addr) (bk:D) (E:List Fact) (p out:LT×LT) (ρ:cA) (items:List D) (step:D->LT×LT->Option (LT×LT)) (R:cA->Prop) (st:IA K Hs A0 A x C dx r s bk E p σ H ρ) (h0:R ρ) (e:f ρ=bx items) (fo:kR step items p=bx out)
  (turn:∀E' σ H ρ d p p' T',R ρ->step d p=bx p'->IA K Hs A0 A x C dx r s bk E' p σ H (ρ.set i<|bx d)->(∀σ H ρ,R ρ->IA K Hs A0 A x C dx r s bk E' p' σ H ρ->T'.nx σ H)->tb T' σ H)
  (n:∀σ H ρ,R ρ->IA K Hs A0 A x C dx r s bk E out σ H ρ->T.nx σ H):tAF K f i tb T σ H
def N8(hp:zca (model X.prog X.w) X.A X.env X.xe)(hc:X.calm=cf)(hi:PDI X [] tg iter f)(hg:PG X tg<|gL i)(hb:PSs X body tb)(hn:i≠0:=by decide)
  (hs:∀x,zbc iter X.env x=pure x:=by intro _;rfl):PS X (.For tg iter body [] pos)<|tAF X.K f i tb:=
 PS.mono (O6 hp hc hi hg hb hs) <| by
  rintro T σ H ⟨Hs,A0,A,x,C,dx,r,s,bk,E,p,out,ρ,items,step,R,st,h0,e,fo,turn,n⟩;refine⟨_,A,A,E,ρ,items,st.st,e,λJ H1 E1 x1 W J1=>?_⟩;have Y:=(st.ext x1).more W;refine⟨λi m σ H=>m=items.length-i/\i<=items.length/\∃ρ p,R ρ/\IA X.K Hs A0 A x C dx r s bk (E1++E) p σ H ρ/\kR step (items.drop i) p=bx out,⟨items.length,by simp,zaM _,ρ,p,h0,Y,fo⟩,?_⟩;rintro i m σ H ⟨rfl,ax,ρ,p,hR,st,e⟩;obtain⟨N,go⟩:=J1 A H st.live (λq U=>st.fx q<|zbq _ U) i;by_cases F:i<items.length
  .have ed:items[i]?=bx items[i]:=by simp[F]
   obtain⟨aa,hy⟩:=go _ ed;rw[zdX F]at e;obtain⟨p1,es,e⟩:=bind_some e;refine .inr ⟨aa,λG H'=>∃z p2,R z/\IA X.K Hs A0 A x C dx r s bk (E1++E) p2 G H' z/\kR step (items.drop<|i+1) p2=bx out,λG H' ⟨z,p2,r2,s2,e2⟩=>⟨items.length-(i+1),by lia,rfl,F,z,p2,r2,s2,e2⟩,λy H' ac=>?_⟩;obtain⟨x2,r2⟩:=hy y H' ac;exact turn _ _ _ ρ _ p p1 _ hR es ((st.ext x2).set r2 hn) λaw H3 ab R3 i3=>⟨ab,p1,R3,i3,e⟩
  .have ad:i=items.length:=by lia
   subst ad;rw[zeG]at e;cases e;exact .inl ⟨N<|zaj _,n _ _ ρ hR<|st.less λq U=>za1 _ U⟩
end
def lK(G J:List D->Option D)(bk j k:D)(p:LT×LT):Option<|LT×LT:=(G [bk,j,k]).bind λw=>(WD<|.tup [j,k]).bind λq=>if aZ p.1.length=cf/\aZ p.2.length=cf then(e8 (putD p.1 q w) q).bind λF=>(J [bk,F]).map λz=>(putD p.1 q w,putD p.2 q z)else cb
def t5(C:Addr)(g:D->Option (List D))(q z:List D->Option D)(bk:D):Option D:=(g bk).bind λF=>(kR (λj p=>(g bk).bind λks=>kR (lK q z bk j) ks p) F ([],[])).map λp=>.ob C [("book",bk),("routes",.dT p.1),("spans",.dT p.2)]
def NH{K:zae}{Hs:Hp}{A0:Av}{x C dx r s:Addr}{bk:D}{G:V}{σ:L2.St}{H:Hp}{ρ:cA}(nr:NoAttr K C "routes")(ns:NoAttr K C "spans")(t:IO K Hs (λb=>A0 b\/b=x) x C dx [("book",bk)] σ H ρ)(n1:Hs x=cb)(nx:¬ A0 x)(hx:H x=bx (.ins C dx [("book",G)]))(rb:Rep (λb=>A0 b\/b=x) H bk G)
  (U:H r=cb) (hs:upd (upd H r<|.dT []) x (.ins C dx [("book",G),("routes",.ref r)]) s=cb):IA K Hs A0 (λb=>A0 b\/b=x\/b=r\/b=s) x C dx r s bk [] ([],[]) σ (upd (upd (upd (upd H r<|.dT []) x<|.ins C dx [("book",G),("routes",.ref r)]) s<|.dT []) x<|.ins C dx [("book",G),("routes",.ref r),("spans",.ref s)]) ρ/\¬ A0 r/\¬ A0 s:=by
 have sx:s≠x:=λz=>by rw[z,aI]at hs;cases hs
 have F:upd H r (.dT []) s=cb:=by rw[aG sx]at hs;exact hs
 have sr:s≠r:=λz=>by rw[z,aI]at F;cases F
 have J:H s=cb:=by rw[aG sr]at F;exact F
 have rx:r≠x:=λz=>by rw[z,hx]at U;cases U
 have W:Ext A0 Hs H:=(t.ke.ext n1).mono λb N=>.inl N
 have ar:¬ A0 r:=λz=>t.live r (.inl z) U
 have ae:¬ A0 s:=λz=>t.live s (.inl z) J
 have up:∀a,(A0 a\/a=x\/a=r\/a=s)->(A0 a\/a=x)\/H a=cb:=λa ha=>by
  rcases ha with h|h|h|h
  .exact .inl<|.inl h
  .exact .inl<|.inr h
  .exact .inr<|by rw[h];exact U
  .exact .inr<|by rw[h];exact J
 have Y:∀d v,Rep (λb=>A0 b\/b=x) H d v->Rep (λb=>A0 b\/b=x\/b=r\/b=s) (upd (upd (upd (upd H r<|.dT []) x<|.ins C dx [("book",G),("routes",.ref r)]) s<|.dT []) x<|.ins C dx [("book",G),("routes",.ref r),("spans",.ref s)]) d v:=λd v h=>by
  have h1:=(h.av up).ext (Ext.new (o:=.dT []) U);have h2:=h1.putI (a:=x) (o:=.ins C dx [("book",G),("routes",.ref r)]) (.inr<|.inl rfl) (by rw[aG rx.symm];exact hx);have h3:=h2.ext<|Ext.new (o:=.dT []) hs;exact h3.putI (a:=x) (.inr<|.inl rfl)<|by rw[aG sx.symm];exact aI
 refine⟨⟨t.cls,nr,ns,λb N=>N,λb N=>.inl N,.inr<|.inl rfl,.inr<|.inr<|.inl rfl,.inr<|.inr<|.inr rfl,sr.symm,jP W U,jP W J,λb N z=>?_,⟨G,aI,Y _ _ rb⟩,.dT (xs:=[]) ?_ rfl .nil,.dT (xs:=[]) ?_ rfl .nil,t.s0,t.len,λi d h=>?_,(λ_ z=>nomatch z),?_⟩,ar,ae⟩
 .by_cases q1:b=x
  .rw[q1,aI]at z;cases z
  .rw[aG q1]at z
   by_cases q2:b=s
   .rw[q2,aI]at z;cases z
   .rw[aG q2,aG q1]at z
    by_cases q3:b=r
    .rw[q3,aI]at z;cases z
    .rw[aG q3]at z
     rcases N with h|h|h|h
     .exact t.live b (.inl h) z
     .exact q1 h
     .exact q3 h
     .exact q2 h
 .rw[aG rx,aG sr.symm,aG rx,aI]
 .rw[aG sx,aI]
 .obtain⟨v,e,q⟩:=t.val i d h
  exact⟨v,e,Y _ _ q⟩
 .have fx:=jP (Ext.refl A0 Hs) n1
  exact fx _ _<|jP W J _ _<|fx _ _<|jP W U _ _ W
section
variable {X:Cx}
set_option tactic.hygienic true in
def CI{C:Addr}{kn:Nat}{gp:List Str}{g2:Str}{o0 o1 o2 o3 o4 N e0 e5 k3 k4 k5 value W Y ab ag:Expr}{g:D->Option (List D)}{f1 f2:Lv}{fk fv fe:Ev}{F1 F2:List D->Option D}{a0 a1 a2 a3 a4 a5 b3 b4 b5 p0 p1 p2 p3 p4 p5 p6 d1 d2 c5 q5:Pos}(cls:Cls X.K C)(na:∀a∈(["book", "routes", "spans"]:List Str),NoAttr X.K C a)(FF:Fn X.prog X.w X.K X.mg X.base g2 kn gp F2)(bc:gp.length=2)(hr:Room kn X.A)(au:Gl X g2)(hu:X.A.units+1<cLine)
  (hp:zca (model X.prog X.w) X.A X.env X.xe) (hc:X.calm=cf)
  (h0:PE X o0<|cN 0) (h1:PE X o1<|cN 0) (h2:PE X o2<|cN 0) (h3:PE X o3<|cN 0) (h4:PE X o4<|cN 0) (h5:PE X N<|cN 0) (bg:PD X [] e0<|aD 1) (bb:PDI X [] ab W f1) (bd:PDI X [] ag Y f2) (bu:PG X ab<|gL 2) (bh:PG X ag<|gL 3) (bw:PB X [] k3 fk) (b0:PB X [] k4 fk) (a8:PB X [] k5 fk) (hv:PD X [] value fv) (az:PD X [] e5 fe) (hn:K4 k5)
  (bj:∀ {ρ:cA} {bk:D},ρ[1]?=bx (bx bk)->f1 ρ=g bk) (bq:∀ {ρ:cA} {bk:D},ρ[1]?=bx (bx bk)->f2 ρ=g bk) (ak:∀ {ρ:cA} {j k:D},ρ[2]?=bx (bx j)->ρ[3]?=bx (bx k)->fk ρ=bx (.tup [j,k])) (aq:∀ {ρ:cA} {bk j k:D},ρ[1]?=bx (bx bk)->ρ[2]?=bx (bx j)->ρ[3]?=bx (bx k)->fv ρ=F1 [bk,j,k]) (aw:∀ {ρ:cA} {bk:D},ρ[1]?=bx (bx bk)->fe ρ=bx bk)
  (bm:zaW o3 "routes" X.env (eval o3 X.env)=eval o3 X.env:=by rfl) (be:zaW o4 "spans" X.env (eval o4 X.env)=eval o4 X.env:=by rfl) (ax:zaW N "routes" X.env (eval N X.env)=eval N X.env:=by rfl) (ay:(g2 == ("__debug__" : Str))=ci:=by decide)
  (z1:zaf [e5,.Subscript (.Attribute N "routes" a5) k5 b5] X.env=(ci,eval e5 X.env)::zaf [.Subscript (.Attribute N "routes" a5) k5 b5] X.env:=by rfl) (z2:(zaG c5<|zaf [.Subscript (.Attribute N "routes" a5) k5 b5] X.env).any (·.1)=ci:=by rfl) (z3:zaf [.Subscript (.Attribute N "routes" a5) k5 b5] X.env=(ci,eval (.Subscript (.Attribute N "routes" a5) k5 b5) X.env)::zaf [] X.env:=by rfl)
  (s0:zaz e0 (bx<|.Attribute o0 "book" a0) p0.line X.env=pure ci:=by rfl) (s1:zaz (.Dict [] [] d1) (bx<|.Attribute o1 "routes" a1) p1.line X.env=pure ci:=by rfl) (s2:zaz (.Dict [] [] d2) (bx<|.Attribute o2 "spans" a2) p2.line X.env=pure ci:=by rfl)
  (s3:zaz value (bx<|.Subscript (.Attribute o3 "routes" a3) k3 b3) p3.line X.env=pure ci:=by rfl) (s4:zaz (.Call (.Name g2 q5) [e5,.Subscript (.Attribute N "routes" a5) k5 b5] [] c5) (bx<|.Subscript (.Attribute o4 "spans" a4) k4 b4) p4.line X.env=pure ci:=by rfl)
  (y1:∀x,zbc W X.env x=pure x:=by intro _;rfl) (y2:∀x,zbc Y X.env x=pure x:=by intro _;rfl)
  {vs:List V} {H:Hp} {Q:VK} {E:XK} (hsp:qd C (λ_=>t5 C g F1 F2) vs H Q E) {R:VK} :
  ∃t,PSs X [.Assign [.Attribute o0 "book" a0] e0 p0,.Assign [.Attribute o1 "routes" a1] (.Dict [] [] d1) p1,.Assign [.Attribute o2 "spans" a2] (.Dict [] [] d2) p2,
   .For ab W [.For ag Y [.Assign [.Subscript (.Attribute o3 "routes" a3) k3 b3] value p3,.Assign [.Subscript (.Attribute o4 "spans" a4) k4 b4] (.Call (.Name g2 q5) [e5,.Subscript (.Attribute N "routes" a5) k5 b5] [] c5) p4] [] p5] [] p6] t /\
   t {nx:=λ_ H'=>Q .non H',rt:=R} (vs.map bx++[cb,cb]) H:=by
 obtain⟨A,H1,x,dx,v,_,bk,d,rfl,rfl,n1,n2,ne,lv,rp,ed,q⟩:=hsp;obtain⟨js,ej,ed⟩:=bind_some ed;obtain⟨out,eo,ed⟩:=map_some ed;subst ed;refine⟨_,cL (ED h0 bg s0)<|cL (uB h1 AE s1)<|cL (uB h2 AE s2)<|gG<|N8 hp hc bb bu (gG<|N8 hp hc bd bh (cL (TB hu h3 bw hv bm s3)<|gG<|TK FF bc hr au hu h4 h5 b0 a8 az hn be ax ay z1 z2 z3 s4) (by decide) y2) (by decide) y1,?_⟩;have nx:¬ A x:=λz=>lv x z n1
 have I0:=IO.begun cls n1 n2 ne lv rp [cb,cb] (λo ho=>by simpa using ho);refine⟨H1,_,x,C,dx,[],_,bk,I0,rfl,na _<|by simp,by simp,by simp,λH2 I2=>λr af=>?_⟩;obtain⟨fs,hx,em,rr⟩:=I2.hx;obtain⟨vb,rfl,rb⟩:∃vb,fs=[(("book" : Str),vb)]/\Rep (λb=>A b\/b=x) H2 bk vb:=by
  match fs,em,rr with
  |[(f,vb)],em,rr=>
   have:f = "book" := by simpa using em
   subst this;cases rr with
   |cons h _=>exact⟨vb,rfl,h⟩
  |[],em,_=>exact nomatch em
  |_::_::_,em,_=>simp at em
 have rx:r≠x:=λz=>by rw[z,hx]at af;cases af
 refine⟨_,I2.s0,x,C,dx,_,rfl,by rw[aG rx.symm];exact hx,cls,na _<|by simp,by simp,λs bi=>?_⟩;have G:upd (upd H2 r<|.dT []) x (.ins C dx [("book",vb),("routes",.ref r)]) s=cb:=bi;have sx:s≠x:=λz=>by rw[z,aI]at G;cases G
 refine⟨_,I2.s0,x,C,dx,[("book",vb),("routes",.ref r)],rfl,by rw[aG sx.symm];exact aI,cls,na _<|by simp,by simp,?_⟩;obtain⟨J,ar,bv⟩:=NH (na _<|by simp) (na _<|by simp) I2 n1 nx hx rb af G;refine⟨H1,A,_,x,C,dx,r,s,bk,[],([],[]),out,_,js,_,λρ=>ρ.length=4/\ρ[1]?=bx (bx bk),J,⟨rfl,rfl⟩,by rw[bj (bk:=bk) rfl];exact ej,eo,λE' σ H ρ j p p' T' U F I n=>?_,λσ H ρ U I=>?_⟩
 .obtain⟨ks,ek,hf⟩:=bind_some F
  have b1:(ρ.set 2<|bx j)[1]?=bx (bx bk):=by rw[za7<|by decide];exact U.2
  refine⟨H1,A,_,x,C,dx,r,s,bk,E',p,p',_,ks,lK F1 F2 bk j,λρ=>ρ.length=4/\ρ[1]?=bx (bx bk)/\ρ[2]?=bx (bx j),I,⟨by rw[zce];exact U.1,b1,by rw[zcG<|by lia]⟩,by rw[bq b1];exact ek,hf,λE2 σ H ρ k p p' T' U F I n=>?_,λσ H ρ U I=>n σ H ρ ⟨U.1,U.2.1⟩ I⟩;have c1:(ρ.set 3<|bx k)[1]?=bx (bx bk):=by rw[za7<|by decide];exact U.2.1
  have c2:(ρ.set 3<|bx k)[2]?=bx (bx j):=by rw[za7<|by decide];exact U.2.2
  have c3:(ρ.set 3<|bx k)[3]?=bx (bx k):=by rw[zcG<|by lia]
  obtain⟨w,ew,F⟩:=bind_some F;obtain⟨kk,al,F⟩:=bind_some F;split at F
  .rename_i sz
   obtain⟨w',bz,F⟩:=bind_some F;obtain⟨z,ez,rfl⟩:=map_some F;refine⟨H1,A,_,x,C,dx,r,s,bk,E2,p,_,_,w,kk,I,ak c2 c3,al,by rw[aq c1 c2 c3];exact ew,sz.1,λH' I'=>?_⟩;exact⟨H1,A,_,x,C,dx,r,s,bk,E2,_,_,_,w',bk,z,kk,I',ak c2 c3,al,bz,aw c1,ez,sz.2,λH' I'=>n _ _ _ ⟨by rw[zce];exact U.1,c1,c2⟩ I'⟩
  .cases F
 .obtain⟨x5,r5⟩:=I.done lv nx ar bv
  exact q _ x5 r5
end
def Fas(K:zae)(C:Addr)(fs:List Str):Prop:=∀a∈fs,NoAttr K C a
def Fas.nil{K:zae}{C:Addr}:Fas K C []:=λ_ h=>nomatch h
def Fas.cons{K:zae}{C:Addr}{x:Str}{fs:List Str}(a:zbg K (.ref C) x=bx cb)(r:Fas K C fs):Fas K C<|x::fs:=zdk.2 ⟨a,r⟩
structure ObQ(K:zae)(x q:Str)(st:Stmt)(C:Addr)(fs:List Str):Prop where
 cls:Cls K C
 na:Fas K C fs
 ex:∃f fd,zbK K zaK x=bx (bx<|.ref C)/\Mk K C f/\Fun K "__init__" q st f fd
def obq{K:zae}{x q:Str}{st:Stmt}{C f:Addr}{fs:List Str}{J:Value}{od U:Option Addr}{G:Array (Option Value)}{kV F N z ct:Value}(a:zbK K zaK x=bx (bx<|.ref C))(m1:zel K C=cf)(m2:zbg K (.ref C) "__init__" = bx (bx<|.ref f))(m3:PySem.W.isFn K (.ref f)=cf)(m4:zbC K (.ref C)=cf)(m5:zdv K C Str.empty=cf)(m6:zdw K C=cf)(m7:zej K C=cf)(m8:zbg K (.ref C) "__setattr__" = bx (bx<|.builtin "object.__setattr__"))
  (l:K.lookup f=bx ⟨J,od,.func<|zbl "__init__" q (eA st) (bF st) (aF st) .none kV F N U z ct,G⟩) (c:zcr K z q=cf) (k:zbC K (.ref f)=cf) (n:Fas K C fs):ObQ K x q st C fs:=⟨⟨m5,m6,m7,m8⟩,n,f,_,a,⟨m1,m2,m3,m4⟩,D6 l c k⟩
def ObQ.t{K:zae}{h:Heap}{mg:Str->Option Value}{x q p:Str}{st:Stmt}{C:Addr}{fs:List Str}(Q:ObQ K x q st C fs)(X:K.In h)(G:h.Ns zaK mg)(b:∀(kV z N:Value) (U:Option Addr) (J ct:Value) (u v:Value),bindArgs (zbl "__init__" q (eA st) (bF st) (aF st) .none kV z N U J ct) ⟨[u,v],[]⟩=pure ((["self",p]:List Str).zip [u,v])):ObT K mg x q p st C fs:=by
 obtain⟨f,fd,a,m,F⟩:=Q.ex;exact⟨Q.cls,Q.na,f,fd,zcz X G a,m,F.binds (ps:=["self",p]) λkV z N U J ct Y W=>match Y,W with|[u,v],_=>b kV z N U J ct u v,F⟩
def OT(h:qd C G vs H Q E):start N vs=vs.map bx++zb0 (N.length-2) cb:=by
 obtain⟨_,_,_,_,_,_,_,_,rfl,_⟩:=h;rfl
def RH(h:qd C G vs H Q E)(n:N.length=2):start N vs=vs.map bx:=by
 rw[OT h,n];exact zbi _
def pQ(h:ρ[i]?=bx (bx d)):aD i ρ=bx d:=by unfold aD;rw[h];rfl
def hu2(q:Room k A):A.units+2<cLine:=zdK (Nat.add_le_add_left (by decide:2<=64) _) q.units
end P
namespace My
def qa5(K:zae)(a:Addr)(n:Nat):It:=
 ⟨λi H=>∃xs x,SqL K H a xs/\i<n/\xs[n-1-i]?=bx x,λi H x H'=>H'=H/\∀xs,SqL K H a xs->xs[n-1-i]?=bx x,λi H=>n<=i⟩
def NZ{P:zah}{w:World}{K:zae}{tg:Expr}(a it:Addr)(n:Nat):Turn P w K tg (qa5 K a n) [it] it (λi h=>i<=n/\h.IsRevIter it a ((n:Int)-1-(i:Int))) where
 mem:=by simp
 obj:=λi h st b q=>by
  have e:b=it:=by simpa using q
  subst e;obtain⟨_,o,e,c,d⟩:=st;exact⟨o,e,λv z=>by rw[d]at z;cases z⟩
 keep:=λi h h' st k=>⟨st.1,st.2.at λo e=>k it (by simp) o e⟩
 item:=by
  intro X hP hw U hc i pins s σ H E I J st Y;subst hP hw U;obtain⟨xs,x,hq,hi,hx⟩:=Y;obtain⟨am,rv,p,hz⟩:=I.list hq;obtain⟨u,hu,ru⟩:=rv.get hx;obtain⟨f0,f1,f2,f3,f4,N⟩:=J it (by simp);have W:s.heap.IsRevIter it a ((n-1-i:Nat):Int):=by
   have e:((n-1-i:Nat):Int)=(n:Int)-1-(i:Int):=by lia
   rw[e];exact st.2
  refine wpAny_pyNext_rev_item W p.isList (x:=u) (by simpa using hu) λh' F sb=>?_
  have I1:Inv X pins σ H {s with heap:=h'}:=I.turned (t':=s.toks) (λb o q e=>(sb.2 b q).trans e) f0 f1 f3 f4 N;obtain⟨o,e,c,d⟩:=id F;refine⟨u,rfl,uE (s:={s with heap:=h'}) e c d (by decide) ⟨x,H,I1,ru,⟨rfl,λys hy=>by rw[I.list_inj hy hq];exact hx⟩,⟨hi,?_⟩,λb q=>(J b q).1⟩⟩;have e:(n:Int)-1-((i+1:Nat):Int)=((n-1-i:Nat):Int)-1:=by lia
  rw[e];exact F
 done:=by
  intro X hP hw U hc i pins s σ H E I J st Y;subst hP hw U;obtain⟨f0,f1,f2,f3,f4,N⟩:=J it (by simp);have hn:n<=i:=Y;have e:(n:Int)-1-(i:Int)=-1:=by have:=st.1;lia
  have G:=st.2;rw[e]at G;exact wpAny_pyNext_rev_end (I.ok.hd hc) G λh' eb=>⟨rfl,I.turned (t':=s.toks) (λb o q e=>eb b o q e) f0 f1 f3 f4 N⟩
 self:=λ_ _ _ _ _ st h=>wpAny_pyIter_revIter st.2 h
def boot_reversed:zaL "reversed" = bx (.type "reversed"):=by first|rfl|decide +kernel
def qcm(K:zae)(ta:TA):TI:=λσ H R=>ta σ H λvs H1=>∃l xs,vs=[.ref l]/\SqL K H1 l xs/\R (qa5 K l xs.length) H1
def WM{X:Cx}{tg:Expr}{a:Expr}{ta:TA}{p pos:Pos}(hg:Gl X "reversed")(hm:X.mg "reversed" = cb)(U:PA X [a] ta)(hs:zaf [a] X.env=[(ci,eval a X.env)]:=by rfl) :
  PI X tg (.Call (.Name "reversed" p) [a] [] pos) (qcm X.K ta):=by
 intro pins s σ H R I h;refine Call_<|lS I hg hm boot_reversed<|zc7 (cP (U pos pins s σ H _ I h) λus J ⟨vs,H1,G,r1,N⟩=>?_) (by rw[hs];rfl) rfl;obtain⟨l,xs,rfl,N,q⟩:=N;obtain⟨u,rfl,ru⟩:=vals1 r1;cases ru;obtain⟨z,rv,W,hz⟩:=G.list N;have hl:=rv.length;refine call_reversed_list W.isList ?_;have F:(J.heap.push<|revObj l<|(z.toArray.size:Int)-1).IsRevIter J.heap.objs.size l<|(xs.length:Int)-1-((0:Nat):Int):=by
  refine⟨_,zaF _ rfl,rfl,?_⟩;have e:(z.toArray.size:Int)-1=(xs.length:Int)-1-((0:Nat):Int):=by simp;lia
  rw[<- e];rfl
 refine wpAny_pyIter_revIter F ?_;refine⟨_,[_],_,_,H1,rfl,G.kept (t':=J.toks) λb o e=>zam _ e,NZ l _ xs.length,⟨zaM _,F⟩,λb Y=>?_,q⟩;have e:b=J.heap.objs.size:=by simpa using Y
 subst e;exact G.fpOk (zaj _)<|G.hok.fresh<|zaj _
end My
namespace P
def qbo(f:Lv):Lv:=λρ=>(f ρ).bind λds=>match ds with
 |[.lst l]=>bx l.reverse
 |_=>cb
set_option tactic.hygienic true in
def Q4(hg:Gl X "reversed")(hm:X.mg "reversed" = cb)(N:wW X O [a] f)(hs:zaf [a] X.env=[(ci,eval a X.env)]:=by rfl) :
  PDI X O tg (.Call (.Name "reversed" p) [a] [] pos) (qbo f):=PI.mono (My.WM hg hm N hs) λσ H R ⟨H0,A0,A,E,ρ,items,st,e,q⟩=>by
 obtain⟨ds,F,e⟩:=bind_some e;refine⟨H0,A0,A,E,ρ,ds,st,F,λvs H1 x1 r1=>?_⟩;split at e
 case h_2=>cases e
 rename_i l;cases e;obtain⟨v,rfl,r2⟩:=r1.one;obtain⟨a,xs,rfl,h1,W⟩:=RepB.lst_inv<|.of r2;have Y:=W.length;refine⟨a,xs,rfl,.inl h1,q _ H1 [.rep (.lst l)<|.ref a] x1 (λp hp=>by rw[List.mem_singleton.mp hp];exact r2) ?_⟩;intro A' H' lv J i;have a1:Rep A' H' (.lst l)<|.ref a:=J _<|List.mem_singleton.mpr rfl;obtain⟨a',ys,e,h2,z⟩:=RepB.lst_inv<|.of a1;cases e;have ae:=z.length;refine⟨λhi=>(show xs.length<=i by rw[List.length_reverse]at hi;lia),λd hd=>?_⟩;have hi:i<l.length:=by have:=(List.getElem?_eq_some_iff.mp hd).1;simpa using this
 have G:l[xs.length-1-i]?=bx d:=by rw[List.getElem?_reverse hi]at hd;rw[Y];exact hd
 obtain⟨v,F,r1⟩:=z.get' G;refine⟨⟨ys,v,.inl h2,by lia,F⟩,λx U y=>?_⟩;obtain⟨rfl,y⟩:=y;have:=y ys<|.inl h2;rw[F]at this;cases this;exact⟨Ext.refl _ _,r1⟩
def HS(i j:Int):Prop:=0<j/\j<10^500
instance:∀i j,Decidable<|HS i j:=λi j=>by unfold HS;infer_instance
def LY{j:Int}(h0:0<j)(h:j<10^500):j.natAbs.log2<9000:=by
 have a:j.natAbs≠0:=by lia
 refine(Nat.log2_lt a).mpr ?_;have b:(10:Nat)^500<2^9000:=by decide +kernel
 have c:(j.natAbs:Int)<((10^500:Nat):Int):=by
  rw[Int.natAbs_of_nonneg<|Int.le_of_lt h0,show((10^500:Nat):Int)=(10:Int)^500 from by decide +kernel];exact h
 exact Nat.lt_trans (Int.ofNat_lt.mp c) b
section
variable {X:Cx}
def MX:OpR X (zaQ .FloorDiv)<|rI HS λi j=>.int<|i/j:=opI λi j _ _ _ _ _ z q=>floordiv_int (zaX z.1) (by rw[Int.fdiv_eq_ediv_of_nonneg i<|Int.le_of_lt z.1];exact q)<|.inl<|PyProof.noPylong_of_log2<|LY z.1 z.2
def HM:D->D->Option D:=K9 λi j=>if HS i j then bx (.int<|i/j)else cb
def x9:kT X (zaQ .FloorDiv) HM:=tU MX
def EK(h:0<j)(h2:j<10^500):HM (.int i) (.int j)=bx (.int<|i/j):=ck ⟨h,h2⟩
end
end P
namespace My
section
variable {X:Cx}
def CH(hc:X.calm=cf)(I:Inv X pins σ H s)(hq:SqL X.K H p<|ns.map V.int)(hn:ns≠[])(q:Q (.int<|QA ns) H) :
  wpAny (model X.prog X.w) X.A (call (.builtin "min") [.ref p]) (EP X pins σ Q) X.xe s:=by
 obtain⟨F,U,pl,hz⟩:=I.list hq;have J:s.heap.IsList p F.toArray:=pl.isList;obtain⟨o,ho,ae,n,hd⟩:=id J;have lt:=zao ho;have W:=(Walks.list (prog:=X.prog) (w:=X.w) (A:=X.A.in1) (I.ok.hd hc) s.heap.objs.size p (zaE lt) F.toArray).toS;have G:=U.length;rw[zak]at G;have sz:F.toArray.size=ns.length:=by rw[zaw];exact G.symm
 have hv:∀(i:Nat) (v:Value),F.toArray[i]?=bx v->∃t,v=zcC ((ns[i]?).getD 0) t:=λi v N=>BE U<|by simpa using N
 refine call_min_walkS<|zcb J ⟨s.heap.objs.size,_,_,_,_,_,_,_,rfl,W,⟨⟨_,zaF _ rfl,rfl,rfl⟩,J.at λo e=>zam _ e⟩,λb hb=>?_,by rw[sz];exact List.length_pos_iff.mpr hn,CmpOf.ints_lt (λi=>(ns[i]?).getD 0) hv,λv s' N Y=>?_⟩
 .rw[size_push']
  rcases List.mem_cons.mp hb with z|z
  .rw[z];exact zdy _
  .rw[List.mem_singleton.mp z];exact Nat.lt_succ_of_lt lt
 .obtain⟨t,rfl⟩:=hv _ v N
  rw[Moved.eq_with Y];refine⟨.int<|QA ns,H,I.kept (t':=s'.toks) λb o e=>Y.heap b o (λz=>zaE (zao e)<|List.mem_singleton.mp z)<|zam _ e,⟨t,?_⟩,q⟩;rw[sz];rfl
end
end My
namespace P
section
variable {X:Cx}
def D7:List D->Option D
 |[.lst l]=>(iX l).bind λns=>if ns=[]then cb else bx<|.int<|My.QA ns
 |_=>cb
set_option tactic.hygienic true in
def NS(G:X.calm=cf):jZ X (.builtin "min") D7:=by
 intro pins s σ H xs U Q I r h;obtain⟨A,ds,d,N,F,e,q⟩:=h;unfold D7 at e;split at e
 .rename_i l
  obtain⟨ns,z,e⟩:=bind_some e;split at e
  .cases e
  .rename_i hn
   cases e;obtain⟨v,rfl,h1⟩:=F.one;obtain⟨a,ys,rfl,h2,r3⟩:=h1.lst_inv;rw[fS z r3]at h2;obtain⟨u,rfl,J⟩:=vals1 r;cases J;exact My.CH G I (.inl h2) hn<|q _ H (Ext.refl _ _)<|.int _
 .cases e
def SX(h:ns≠[]):D7 [.lst<|ns.map .int]=bx (.int<|My.QA ns):=by
 show(iX<|ns.map .int).bind _=_;rw[jK,aA,cq h]
end
section
variable {ρ ρ':cA}{f g:Ev}{a b:Bv}{l:Lv}{x y d r:D}{xs ys zs:List D}{i j:Int}{k:Nat}{s t:Sv}{o:Option Out}
def qaB{C:Addr}{n:Str}(h:f ρ=bx x)(k:zB C n x=bx r):dH C n f ρ=bx r:=by unfold dH;rw[h,aA,k]
def qav(h:f ρ=bx x)(k:gJ x=bx xs):fM f ρ=bx xs:=by
 unfold fM;rw[h,aA];cases x <;> first|exact k|cases k
def WZ(h:l ρ=bx [x,y])(k:gJ x=bx xs)(k2:gJ y=bx ys)(e:lU xs ys=zs):UX l ρ=bx zs:=by
 unfold UX;rw[h,aA];show(gJ x).bind _=_;rw[k,aA,k2,aB,e]
def qaM{c:Bool}{z:Option D}(h:a ρ=bx c)(k:Z4 c (f ρ) (g ρ)=z):eIf a f g ρ=z:=by unfold eIf;rw[h,aA];exact k
def OV(z:g ρ=bx d)(hx:aD k ρ=bx x)(q:f ρ=bx y)(h:kJ x y d=bx r):EX k f g ρ=bx (.nx<|ρ.set k<|bx r):=by unfold EX;rw[z,aA,hx,aA,q,aA,h,aB]
def ZJ{c:Bool}{z:Option D}(h:f ρ=bx (.bl c))(k:Z4 c (g ρ) (bx<|.bl ci)=z):QH f g ρ=z:=by unfold QH;rw[h,aA];exact k
def qz{i j:Nat}:kQ 2 (eL (aS i)<|eL (aS j) uF) (.tup [x,y]) ρ=bx ((ρ.set i<|bx x).set j<|bx y):=rfl
def qad{i j k:Nat}{z:D}:kQ 3 (eL (aS i)<|eL (aS j)<|eL (aS k) uF) (.tup [x,y,z]) ρ=bx (((ρ.set i<|bx x).set j<|bx y).set k<|bx z):=rfl
def qcd:aS k x ρ=bx (ρ.set k<|bx x):=rfl
end
section
variable {X:Cx}{O:List Nat}
def fxF{Q:zah}{w:World}{K:zae}{mg:Str->Option Value}{base:Heap}{x:Str}{k:Nat}{ps:List Str}{F:List D->Option D}(B:List D->Option D)(h:FnF Q w K mg base x k ps F)(e:F=B:=by rfl):FnF Q w K mg base x k ps B:=e ▸ h
def LO(FF:FnF X.prog X.w X.K X.mg X.base x k ps F)(hr:Room k X.A)(hg:Gl X x)(W:wW X O (e::es) fa)(hl:Len fa ps.length)
  (z:(x == ("__debug__" : Str))=ci:=by decide) (he:zaf (e::es) X.env=(ci,eval e X.env)::zaf es X.env:=by rfl) (J:(zaG cpos<|zaf es X.env).any (·.1)=ci:=by rfl) :
  PF X O (.Call (.Name x p) (e::es) [] cpos) (aR F fa):=PE.mono (My.A3 FF hr hg W z he J) λσ H Q ⟨H0,A0,A,E,ρ,d,st,e,q⟩=>by
 obtain⟨ds,N,Y⟩:=bind_some e;exact⟨H0,A0,A,E,ρ,ds,st,N,λvs H1 G r1=>⟨A,ds,d,(st.mono G).live,r1.toL,by rw[r1.length];exact hl ρ ds N,Y,λa H2 x2 n na U=>q a H2 (G.trans x2) (G.free n) na U⟩⟩
end
end P
namespace P
open PySem.SeqAt
section
variable {X:Cx}{O:List Nat}{pins:List (Addr×Obj)}{σ:L2.St}{H:Hp}{s:zab}
def qbl:D->D->Option D
 |.lst a,.lst b=>(K6 a).bind λx=>(K6 b).map λy=>.bl<|decide (x=y)
 |_,_=>cb
theorem tH:∀ {bs:List Bool} {us:List Value},L2.Vals (bs.map V.bl) us->us=bs.map zbL
 |[],us,r=>by cases r;rfl
 |b::bs,us,r=>by
  cases r with
  |cons r1 r2=>cases r1;rw[tH r2];rfl
def SL:∀(a b:List Bool),a.length=b.length->((zas a.length).all λj=>a.getD j ci == b.getD j ci)=decide (a=b):=by
 intro a b z;by_cases h:a=b
 .subst h;simp
 .rw[decide_eq_false h,Bool.eq_false_iff]
  intro q;rw[List.all_eq_true]at q;refine h<|List.ext_getElem z λi h1 h2=>?_;have:=zc6<|q i<|List.mem_range.mpr h1;simpa[zcP,h1,h2]using this
def WP(hu:X.A.units+64<cLine):kT X (zaC .Eq) qbl:=by
 intro pins s σ H x y v u Q I rx ry h;obtain⟨A,dx,dy,d,lv,r1,r2,e,q⟩:=h;have F:X.A.units<cLine:=by lia
 cases dx with
 |lst a=>
  cases dy with
  |lst b=>
   obtain⟨p,ep,e⟩:=bind_some e;obtain⟨r,er,rfl⟩:=map_some e;obtain⟨Y,xs,rfl,h1,k1⟩:=r1.lst_inv;obtain⟨l2,ys,rfl,h2,k2⟩:=r2.lst_inv;have ex:=sW ep k1;have ey:=sW er k2;subst ex ey;cases rx;cases ry;obtain⟨_,J,n1,v1,_,o1⟩:=Inv.lstR I h1;obtain⟨_,N,n2,v2,_,o2⟩:=Inv.lstR I h2;have w1:=tH v1;have w2:=tH v2;subst w1 w2;have W:s.heap.IsList Y (p.map zbL).toArray:=⟨_,o1,rfl,_,rfl⟩;have U:s.heap.IsList l2 (r.map zbL).toArray:=⟨_,o2,rfl,_,rfl⟩
   suffices a:RcAt X.A s (.ref Y) (.ref l2) (decide (p=r))from a X.prog X.w X.xe _ ⟨.bl _,H,I,rfl,q _ H (Ext.refl _ _)<|.bl _⟩
   by_cases G:p.length=r.length
   .have a:=RcAt.lists (A:=X.A) (e:=λj=>p.getD j ci == r.getD j ci) W U (by simp[G]) F λj h1 h2=>by
     have j1:j<p.length:=by simpa using h1
     have j2:j<r.length:=by simpa using h2
     have e1:(p.map zbL).toArray[j]=.bool (p.getD j ci):=by simp[zcP,j1]
     have e2:(r.map zbL).toArray[j]=.bool (r.getD j ci):=by simp[zcP,j2]
     rw[e1,e2];exact EqAt.bool_bool _ _
    rw[zaw,zak,SL p r G]at a;exact a
   .rw[decide_eq_false λz=>G<|by rw[z]]
    exact RcAt.lists_lengths W U (by simpa using G) F
  |_=>cases e
 |_=>cases e
@[simp] theorem q_eqBs{a b:List D}:qbl (.lst a) (.lst b)=(K6 a).bind λx=>(K6 b).map λy=>.bl<|decide (x=y):=rfl
end
end P
namespace Law
def Ten:(10:Int)^60=1000000000000000000000000000000000000000000000000000000000000:=by decide +kernel
open P
local macro_rules | `(tactic|ac_rfl) => `(tactic|first
 | (with_reducible first|exact qcv|exact qcd|exact qz|exact qad|exact at0|exact at1|exact at2|exact qf|exact YI|exact rfl|assumption)
 | ((with_reducible apply X4);exact rfl)
 | (with_reducible first|apply qaE|apply WV|apply HU|apply UC|apply UL|apply aM|apply WR|apply XD|apply P3|apply P2|apply X9|apply qaH|apply qaq|apply X1|apply X3|apply UE|apply RG|apply WT|apply TC|apply HV|apply RF|apply qav|apply qaB|apply WZ|apply qaM|apply ZJ|apply OV|apply qt|apply WH|apply ZN|apply qv|apply O7) <;> ac_rfl
 | ((with_reducible apply qbp);(with_reducible first|exact rfl|(apply decide_eq_true;assumption));ac_rfl)
 | ((with_reducible apply qa4);(with_reducible first|exact rfl|(apply decide_eq_false;assumption));ac_rfl)
 | (with_reducible apply qbp) <;> ac_rfl
 | (with_reducible apply qa4) <;> ac_rfl
 | (with_reducible first|apply bO|apply g9|apply q_eqI|apply qat|apply XY|apply decide_eq_true|apply decide_eq_false) <;> ac_rfl
 | (show bD _ _ _ _ _=_;assumption)
 | (apply aM <;> ac_rfl)
 | (apply O7 <;> ac_rfl)
 | (apply OV <;> ac_rfl)
 | exact rfl
 | exact zcA rfl
 | decide
 | lia)
local macro_rules | `(tactic|simp_all[$xs,*]) => `(tactic|simp[-zad, -zac, aA, aB, $xs,*])
local macro_rules|`(tactic|simp_all)=>`(tactic|simp[-zad,-zac,aA,aB])
abbrev CN:Addr:=147
abbrev CA:Addr:=173
def at5{a b c d e f:D}{l:List D}:gC (a::b::c::d::e::f::l) 5=bx f:=bS (j:=5) rfl
def at6{a b c d e f g:D}{l:List D}:gC (a::b::c::d::e::f::g::l) 6=bx g:=bS (j:=6) rfl
structure Mk where
 nm:Str
 takes:List Int
 g:Int
 f:D
 pr:Int
def kD(m:Mk):D:=.tup [.str m.nm,tupI m.takes,.int m.g,m.f,.int m.pr]
structure Bk where
 M:Int
 kinds:List Str
 rs:List Ro
 makes:List Mk
def a7(C:Bk):D:=.tup [.int C.M,.tup<|C.kinds.map .str,.tup<|C.rs.map kW,.tup<|C.makes.map kD]
structure OkB(C:Bk):Prop where
 M3:3<=C.M
 M60:C.M<10^60
 k1:1<=C.kinds.length
 k6:C.kinds.length<=6
 gr:GR C.M (C.kinds.length:Int) C.rs
 tk:∀m∈C.makes,(∃t,m.takes=[t])\/∃t u,m.takes=[t,u]
 tb:∀m∈C.makes,∀t∈m.takes,0<=t/\t<(C.kinds.length:Int)
 gb:∀m∈C.makes,0<=m.g/\m.g<(C.kinds.length:Int)
 ml:C.makes.length<=6
inductive Rg where
 | name (x:Str) (j:Int) (w:List Int)
 | num (n j:Int) (w:List Int)
 | use1 (v:Nat) (nm:Str) (p:Rg) (w:List Int)
 | use2 (v:Nat) (nm:Str) (p q:Rg) (w:List Int)
 | lett (x:Str) (j:Int) (p q:Rg)
 | pick (c k:Int) (p q r:Rg) (w:List Int)
 | again (n k:Int) (x:Str) (p q:Rg) (w:List Int)
def pt:Rg->D
 |.name x _ _=>.tup [.str "name",.str x]
 |.num n j _=>.tup [.str "number",.int n,.int j]
 |.use1 _ nm p _=>.tup [.str "use",.str nm,.tup [pt p]]
 |.use2 _ nm p q _=>.tup [.str "use",.str nm,.tup [pt p,pt q]]
 |.lett x _ p q=>.tup [.str "let",.str x,pt p,pt q]
 |.pick c k p q r _=>.tup [.str "pick",.int c,.int k,pt p,pt q,pt r]
 |.again n k x p q _=>.tup [.str "again",.int n,.int k,.str x,pt p,pt q]
def rd:Rg->D
 |.name x _ w=>.tup [.str "name",.str x,tupI w]
 |.num n j w=>.tup [.str "number",.int n,.int j,tupI w]
 |.use1 v _ p w=>.tup [.str "use",.int (v:Int),.tup [rd p],tupI w]
 |.use2 v _ p q w=>.tup [.str "use",.int (v:Int),.tup [rd p,rd q],tupI w]
 |.lett x j p q=>.tup [.str "let",.str x,.int j,rd p,rd q]
 |.pick c k p q r w=>.tup [.str "pick",.int c,.int k,rd p,rd q,rd r,tupI w]
 |.again n k x p q w=>.tup [.str "again",.int n,.int k,.str x,rd p,rd q,tupI w]
def beh:Rg->List Int->Rg
 |.name x j w,v=>.name x j<|w++v
 |.num n j w,v=>.num n j<|w++v
 |.use1 u nm p w,v=>.use1 u nm p<|w++v
 |.use2 u nm p q w,v=>.use2 u nm p q<|w++v
 |.lett x j p q,v=>.lett x j p<|beh q v
 |.pick c k p q r w,v=>.pick c k p q r<|w++v
 |.again n k x p q w,v=>.again n k x p q<|w++v
def size:Rg->Nat
 |.name _ _ _=>1
 |.num _ _ _=>1
 |.use1 _ _ p _=>1+size p
 |.use2 _ _ p q _=>1+(size p+size q)
 |.lett _ _ p q=>1+(size p+size q)
 |.pick _ _ p q r _=>1+(size p+(size q+size r))
 |.again _ _ _ p q _=>1+(size p+size q)
def lets:Rg->Int
 |.name _ _ _=>0
 |.num _ _ _=>0
 |.use1 _ _ p _=>lets p
 |.use2 _ _ p q _=>lets p+lets q
 |.lett _ _ p q=>1+(lets p+lets q)
 |.pick _ _ p q r _=>lets p+(lets q+lets r)
 |.again _ _ _ p q _=>lets p+lets q
def mpr(C:Bk)(v:Nat):Int:=((C.makes[v]?).map Mk.pr).getD 0
def cost(C:Bk):Rg->Int
 |.name _ _ w=>f7 C.rs w
 |.num _ _ w=>f7 C.rs w
 |.use1 v _ p w=>mpr C v+f7 C.rs w+cost C p
 |.use2 v _ p q w=>mpr C v+f7 C.rs w+(cost C p+cost C q)
 |.lett _ _ p q=>cost C p+cost C q
 |.pick _ _ p q r w=>f7 C.rs w+(cost C p+(cost C q+cost C r))
 |.again _ _ _ p q w=>f7 C.rs w+(cost C p+cost C q)
def WF(C:Bk):List (Str×Int)->Rg->Int->Prop
 |kn,.name x j w,e=>(x,j)∈kn/\gw C.rs j w=bx e
 |kn,.num n j w,e=>(0<=n/\n<C.M)/\(0<=j/\j<(C.kinds.length:Int))/\gw C.rs j w=bx e
 |kn,.use1 v nm p w,e=>∃m t,C.makes[v]?=bx m/\m.nm=nm/\m.takes=[t]/\WF C kn p t/\gw C.rs m.g w=bx e
 |kn,.use2 v nm p q w,e=>∃m t u,C.makes[v]?=bx m/\m.nm=nm/\m.takes=[t,u]/\WF C kn p t/\WF C kn q u/\gw C.rs m.g w=bx e
 |kn,.lett x j p q,e=>WF C kn p j/\WF C ((x,j)::kn) q e
 |kn,.pick c k p q r w,e=>(0<=c/\c<(C.kinds.length:Int))/\(0<=k/\k<(C.kinds.length:Int))/\WF C kn p c/\WF C kn q k/\WF C kn r k/\gw C.rs k w=bx e
 |kn,.again n k x p q w,e=>(0<=n/\n<4)/\(0<=k/\k<(C.kinds.length:Int))/\WF C kn p k/\WF C ((x,k)::kn) q k/\gw C.rs k w=bx e
def WF.mono{C:Bk}{g:Rg}:∀ {kn kn':List (Str×Int)} {e:Int},WF C kn g e->(∀p∈kn,p∈kn')->WF C kn' g e:=by
 have J:∀ {x:Str×Int} {kn kn':List (Str×Int)},(∀p∈kn,p∈kn')->∀p∈x::kn,p∈x::kn':=λh y N=>(List.mem_cons.mp N).elim (λz=>z ▸ zar ..) λz=>zaq _<|h y z
 induction g with
 |name x j w=>exact λW h=>⟨h _ W.1,W.2⟩
 |num n j w=>exact λW _=>W
 |use1 v nm p w ih=>rintro _ _ _ ⟨m,t,a,b,c,d,f⟩ h;exact⟨m,t,a,b,c,ih d h,f⟩
 |use2 v nm p q w ih ih2=>rintro _ _ _ ⟨m,t,u,a,b,c,d,U,f⟩ h;exact⟨m,t,u,a,b,c,ih d h,ih2 U h,f⟩
 |lett x j p q ih ih2=>exact λW h=>⟨ih W.1 h,ih2 W.2<|J h⟩
 |pick c k p q r w ih ih2 ih3=>rintro _ _ _ ⟨a,b,F,G,Y,d⟩ h;exact⟨a,b,ih F h,ih2 G h,ih3 Y h,d⟩
 |again n k x p q w ih ih2=>rintro _ _ _ ⟨a,b,F,G,d⟩ h;exact⟨a,b,ih F h,ih2 G<|J h,d⟩
def wI{rs:List Ro}{j e f:Int}{v w:List Int}(h:gw rs j v=bx e)(k:gw rs e w=bx f):gw rs j (v++w)=bx f:=by
 rw[nS,h];exact k
def WF.beh{C:Bk}{v:List Int}{f:Int}{g:Rg}:∀ {kn:List (Str×Int)} {e:Int},WF C kn g e->gw C.rs e v=bx f->WF C kn (beh g v) f:=by
 induction g with
 |name x j w=>exact λW h=>⟨W.1,wI W.2 h⟩
 |num n j w=>exact λW h=>⟨W.1,W.2.1,wI W.2.2 h⟩
 |use1 u nm p w=>rintro _ _ ⟨m,t,a,b,c,d,f⟩ h;exact⟨m,t,a,b,c,d,wI f h⟩
 |use2 u nm p q w=>rintro _ _ ⟨m,t,G,a,b,c,d,J,f⟩ h;exact⟨m,t,G,a,b,c,d,J,wI f h⟩
 |lett x j p q _ ih=>exact λW h=>⟨W.1,ih W.2 h⟩
 |pick c k p q r w=>rintro _ _ ⟨a,b,z,F,N,d⟩ h;exact⟨a,b,z,F,N,wI d h⟩
 |again n k x p q w=>rintro _ _ ⟨a,b,z,F,d⟩ h;exact⟨a,b,z,F,wI d h⟩
theorem mO:∀(g:Rg) (v:List Int),size (beh g v)=size g
 |.name ..,_=>rfl
 |.num ..,_=>rfl
 |.use1 ..,_=>rfl
 |.use2 ..,_=>rfl
 |.lett x j p q,v=>by rw[beh,size,size,mO q v]
 |.pick ..,_=>rfl
 |.again ..,_=>rfl
theorem sV:∀(g:Rg) (v:List Int),lets (beh g v)=lets g
 |.name ..,_=>rfl
 |.num ..,_=>rfl
 |.use1 ..,_=>rfl
 |.use2 ..,_=>rfl
 |.lett x j p q,v=>by rw[beh,lets,lets,sV q v]
 |.pick ..,_=>rfl
 |.again ..,_=>rfl
theorem PN:∀(g:Rg) (v:List Int),pt (beh g v)=pt g
 |.name ..,_=>rfl
 |.num ..,_=>rfl
 |.use1 ..,_=>rfl
 |.use2 ..,_=>rfl
 |.lett x j p q,v=>by rw[beh,pt,pt,PN q v]
 |.pick ..,_=>rfl
 |.again ..,_=>rfl
theorem BP{C:Bk}:∀(g:Rg) (v:List Int),cost C (beh g v)=cost C g+f7 C.rs v
 |.name ..,_=>by simp only[beh,cost,eN]
 |.num ..,_=>by simp only[beh,cost,eN]
 |.use1 ..,_=>by simp only[beh,cost,eN];lia
 |.use2 ..,_=>by simp only[beh,cost,eN];lia
 |.lett x j p q,v=>by simp only[beh,cost,BP q v];lia
 |.pick ..,_=>by simp only[beh,cost,eN];lia
 |.again ..,_=>by simp only[beh,cost,eN];lia
def Short:Rg->Prop
 |.name _ _ w=>w.length<=6
 |.num _ _ w=>w.length<=6
 |.use1 _ _ p w=>Short p/\w.length<=6
 |.use2 _ _ p q w=>Short p/\Short q/\w.length<=6
 |.lett _ _ p q=>Short p/\Short q
 |.pick _ _ p q r w=>Short p/\Short q/\Short r/\w.length<=6
 |.again _ _ _ p q w=>Short p/\Short q/\w.length<=6
def d6{C:Bk}(B:OkB C){j e:Int}{w:List Int}(h:gw C.rs j w=bx e)(z:0<=j)(q:j<(C.kinds.length:Int)):w.length<=6/\0<=e/\e<(C.kinds.length:Int):=by
 have a:=jV B.gr h;have b:=VZ B.gr h q;have:=B.k6;exact⟨by lia,by lia,b⟩
def OkN(C:Bk)(kn:List<|Str×Int):Prop:=∀p∈kn,0<=p.2/\p.2<(C.kinds.length:Int)
def OkN.cons{C:Bk}{kn:List (Str×Int)}{x:Str}{j:Int}(h:OkN C kn)(a:0<=j)(b:j<(C.kinds.length:Int)):OkN C<|(x,j)::kn:=λp q=>by
 rcases List.mem_cons.mp q with z|z
 .rw[z];exact⟨a,b⟩
 .exact h p z
def WF.short{C:Bk}(B:OkB C){g:Rg}:∀ {kn:List (Str×Int)} {e:Int},OkN C kn->WF C kn g e->Short g/\0<=e/\e<(C.kinds.length:Int):=by
 induction g with
 |name x j w=>exact λK W=>d6 B W.2 (K _ W.1).1 (K _ W.1).2
 |num n j w=>exact λK W=>d6 B W.2.2 W.2.1.1 W.2.1.2
 |use1 v nm p w ih=>
  rintro _ _ K ⟨m,t,a,b,c,d,f⟩;have z:=zax a;have s:=d6 B f (B.gb m z).1 (B.gb m z).2;exact⟨⟨(ih K d).1,s.1⟩,s.2⟩
 |use2 v nm p q w ih ih2=>
  rintro _ _ K ⟨m,t,u,a,b,c,d,U,f⟩;have z:=zax a;have s:=d6 B f (B.gb m z).1 (B.gb m z).2;exact⟨⟨(ih K d).1,(ih2 K U).1,s.1⟩,s.2⟩
 |lett x j p q ih ih2=>
  intro _ _ K W;have F:=ih K W.1;have N:=ih2 (K.cons F.2.1 F.2.2) W.2;exact⟨⟨F.1,N.1⟩,N.2⟩
 |pick c k p q r w ih ih2 ih3=>
  rintro _ _ K ⟨a,b,G,J,Y,d⟩;have s:=d6 B d b.1 b.2;exact⟨⟨(ih K G).1,(ih2 K J).1,(ih3 K Y).1,s.1⟩,s.2⟩
 |again n k x p q w ih ih2=>
  rintro _ _ K ⟨a,b,G,J,d⟩;have s:=d6 B d b.1 b.2;exact⟨⟨(ih K G).1,(ih2 (K.cons b.1 b.2) J).1,s.1⟩,s.2⟩
def NF(U:List Str):List Str->Rg->Prop
 |_,.name _ _ _=>True
 |_,.num _ _ _=>True
 |N,.use1 _ _ p _=>NF U N p
 |N,.use2 _ _ p q _=>NF U N p/\NF U N q
 |N,.lett x _ p q=>NF U N p/\(x∉N/\x∈U)/\NF U (x::N) q
 |N,.pick _ _ p q r _=>NF U N p/\NF U N q/\NF U N r
 |N,.again _ _ x p q _=>NF U N p/\(x∉N/\x∈U)/\NF U (x::N) q
theorem NF.anti{U:List Str}:∀ {g:Rg} {N N':List Str},NF U N g->(∀y∈N',y∈N)->NF U N' g
 |.name ..,_,_,_,_=>trivial
 |.num ..,_,_,_,_=>trivial
 |.use1 u nm p w,N,N',h,k=>NF.anti (g:=p) (N:=N) h k
 |.use2 ..,N,N',⟨a,b⟩,k=>⟨NF.anti a k,NF.anti b k⟩
 |.lett x j p q,N,N',⟨a,b,c⟩,k=>⟨NF.anti a k,⟨λz=>b.1<|k _ z,b.2⟩,NF.anti c λy F=>(List.mem_cons.mp F).elim (λz=>z ▸ zar ..) λz=>zaq _<|k y z⟩
 |.pick ..,N,N',⟨a,b,c⟩,k=>⟨NF.anti a k,NF.anti b k,NF.anti c k⟩
 |.again n k' x p q w,N,N',⟨a,b,c⟩,k=>⟨NF.anti a k,⟨λz=>b.1<|k _ z,b.2⟩,NF.anti c λy F=>(List.mem_cons.mp F).elim (λz=>z ▸ zar ..) λz=>zaq _<|k y z⟩
theorem NF.beh{U:List Str}{v:List Int}:∀ {g:Rg} {N:List Str},NF U N g->NF U N (beh g v)
 |.name ..,_,_=>trivial
 |.num ..,_,_=>trivial
 |.use1 ..,N,h=>h
 |.use2 ..,N,h=>h
 |.lett x j p q,N,⟨a,b,c⟩=>⟨a,b,c.beh⟩
 |.pick ..,N,h=>h
 |.again ..,N,h=>h
inductive Pa where
 | name (x:Str)
 | num (n j:Int)
 | use1 (nm:Str) (p:Pa)
 | use2 (nm:Str) (p q:Pa)
 | lett (x:Str) (p q:Pa)
 | pick (c k:Int) (p q r:Pa)
 | again (n k:Int) (x:Str) (p q:Pa)
def pa:Rg->Pa
 |.name x _ _=>.name x
 |.num n j _=>.num n j
 |.use1 _ nm p _=>.use1 nm<|pa p
 |.use2 _ nm p q _=>.use2 nm (pa p)<|pa q
 |.lett x _ p q=>.lett x (pa p)<|pa q
 |.pick c k p q r _=>.pick c k (pa p) (pa q)<|pa r
 |.again n k x p q _=>.again n k x (pa p)<|pa q
def bJ:Pa->D
 |.name x=>.tup [.str "name",.str x]
 |.num n j=>.tup [.str "number",.int n,.int j]
 |.use1 nm p=>.tup [.str "use",.str nm,.tup [bJ p]]
 |.use2 nm p q=>.tup [.str "use",.str nm,.tup [bJ p,bJ q]]
 |.lett x p q=>.tup [.str "let",.str x,bJ p,bJ q]
 |.pick c k p q r=>.tup [.str "pick",.int c,.int k,bJ p,bJ q,bJ r]
 |.again n k x p q=>.tup [.str "again",.int n,.int k,.str x,bJ p,bJ q]
def psz:Pa->Nat
 |.name _=>1
 |.num _ _=>1
 |.use1 _ p=>1+psz p
 |.use2 _ p q=>1+(psz p+psz q)
 |.lett _ p q=>1+(psz p+psz q)
 |.pick _ _ p q r=>1+(psz p+(psz q+psz r))
 |.again _ _ _ p q=>1+(psz p+psz q)
theorem cT:∀g:Rg,psz (pa g)=size g
 |.name ..=>rfl
 |.num ..=>rfl
 |.use1 _ _ p _=>by simp only[pa,psz,size,cT p]
 |.use2 _ _ p q _=>by simp only[pa,psz,size,cT p,cT q]
 |.lett _ _ p q=>by simp only[pa,psz,size,cT p,cT q]
 |.pick _ _ p q r _=>by simp only[pa,psz,size,cT p,cT q,cT r]
 |.again _ _ _ p q _=>by simp only[pa,psz,size,cT p,cT q]
theorem fZ:∀g:Rg,pt g=bJ (pa g)
 |.name ..=>rfl
 |.num ..=>rfl
 |.use1 _ _ p _=>by simp only[pa,bJ,pt,fZ p]
 |.use2 _ _ p q _=>by simp only[pa,bJ,pt,fZ p,fZ q]
 |.lett _ _ p q=>by simp only[pa,bJ,pt,fZ p,fZ q]
 |.pick _ _ p q r _=>by simp only[pa,bJ,pt,fZ p,fZ q,fZ r]
 |.again _ _ _ p q _=>by simp only[pa,bJ,pt,fZ p,fZ q]
def xK:∀ {p q:Pa},bJ p=bJ q->p=q:=by
 intro p;induction p with
 |name x=>intro q h;cases q <;> simp[-zad,-zac,aA,aB,bJ]at h ⊢ <;> exact h
 |num n j=>intro q h;cases q <;> simp[-zad,-zac,aA,aB,bJ]at h ⊢ <;> exact h
 |use1 nm p ih=>intro q h;cases q <;> simp[-zad,-zac,aA,aB,bJ]at h ⊢ <;> exact⟨h.1,ih h.2⟩
 |use2 nm p q ih1 ih2=>intro q h;cases q <;> simp[-zad,-zac,aA,aB,bJ]at h ⊢ <;> exact⟨h.1,ih1 h.2.1,ih2 h.2.2⟩
 |lett x p q ih1 ih2=>intro q h;cases q <;> simp[-zad,-zac,aA,aB,bJ]at h ⊢ <;> exact⟨h.1,ih1 h.2.1,ih2 h.2.2⟩
 |pick c k p q r ih1 ih2 ih3=>intro q h;cases q <;> simp[-zad,-zac,aA,aB,bJ]at h ⊢ <;> first|exact⟨h.1,h.2.1,ih1 h.2.2.1,ih2 h.2.2.2.1,ih3 h.2.2.2.2⟩|exact absurd h.1<|by decide
 |again n k x p q ih1 ih2=>intro q h;cases q <;> simp[-zad,-zac,aA,aB,bJ]at h ⊢ <;> first|exact⟨h.1,h.2.1,h.2.2.1,ih1 h.2.2.2.1,ih2 h.2.2.2.2⟩|exact absurd h.1<|by decide
theorem nG{q:Type}{f:q->D}(h:∀a b,f a=f b->a=b):∀ {l m:List q},l.map f=m.map f->l=m
 |[],[],_=>rfl
 |[],_::_,e=>nomatch e
 |_::_,[],e=>nomatch e
 |a::l,b::m,e=>by injection e with e1 e2;rw[h _ _ e1,nG h e2]
def RM(a b:Mk)(h:kD a=kD b):a=b:=by
 unfold kD tupI at h;simp only[D.tup.injEq,zeK,D.str.injEq,D.int.injEq,and_true]at h;obtain⟨h1,h2,q,z,F⟩:=h;have:=nG (f:=D.int) (λ_ _ e=>by injection e) h2;cases a;cases b;simp only at *;subst h1 q z F this;rfl
def S9(a b:Ro)(h:kW a=kW b):a=b:=by
 unfold kW at h;simp only[D.tup.injEq,zeK,D.int.injEq,and_true]at h;obtain⟨h1,h2,q,z,F⟩:=h;cases a;cases b;simp only at *;subst h1 h2 q z F;rfl
def xO{a b:Bk}(h:a7 a=a7 b):a=b:=by
 unfold a7 at h;simp only[D.tup.injEq,zeK,D.int.injEq,and_true]at h;obtain⟨h1,h2,G,J⟩:=h;have z:=nG (f:=D.str) (λ_ _ e=>by injection e) h2;have F:=nG S9 G;have q:=nG RM J;cases a;cases b;simp only at *;subst h1 z F q;rfl
def fF(h:Option Str)(acc l:List Str):List Str:=acc++l.filter λx=>!decide (bx x=h) && !decide (x∈acc)
def aP:Pa->List Str
 |.name x=>[x]
 |.num _ _=>[]
 |.use1 _ p=>fF cb []<|aP p
 |.use2 _ p q=>fF cb (fF cb []<|aP p)<|aP q
 |.lett x p q=>fF (bx x) (fF cb []<|aP p)<|aP q
 |.pick _ _ p q r=>fF cb (fF cb (fF cb []<|aP p)<|aP q)<|aP r
 |.again _ _ x p q=>fF (bx x) (fF cb []<|aP p)<|aP q
abbrev Sm:=Option<|Int×Int
def pO:Sm->Sm->Sm
 |some a,bx b=>bx (a.1*b.1,a.2+b.2)
 |_,_=>cb
def c8:Sm->Sm->Sm
 |some a,bx b=>bx (a.1+b.1,min a.2 b.2)
 |none,b=>b
 |a,cb=>a
def QL(C:Bk)(j k:Int):Sm:=
 if(bU C.rs k 8 j).length=0 then cb else bx (((bU C.rs k 8 j).length:Int),My.QA<|(bU C.rs k 8 j).map<|f7 C.rs)
def csum(C:Bk)(own j k:Int)(q:List Sm):Sm:=q.foldl pO<|pO (bx (1,own))<|QL C j k
abbrev gU:=Str->Int
def eZ(e:gU)(x:Str)(j:Int):gU:=λy=>if y=x then j else e y
def aT(C:Bk)(v i:Nat):Int:=(((C.makes[v]?).map Mk.takes).getD [])[i]?.getD 0
def dG(C:Bk)(v:Nat):Int:=((C.makes[v]?).map Mk.g).getD 0
def nL(C:Bk)(nm:Str)(n:Nat):List Nat:=(zas C.makes.length).filter λv=>match C.makes[v]? with
 |some m=>decide (m.nm=nm) && decide (m.takes.length=n)
 |none=>ci
def aU(C:Bk):Pa->gU->Int->Sm
 |.name x,e,k=>csum C 0 (e x) k []
 |.num _ j,_,k=>csum C 0 j k []
 |.use1 nm p,e,k=>(nL C nm 1).foldl (λt v=>c8 t<|csum C (mpr C v) (dG C v) k [aU C p e<|aT C v 0]) cb
 |.use2 nm p q,e,k=>(nL C nm 2).foldl (λt v=>c8 t<|csum C (mpr C v) (dG C v) k [aU C p e<|aT C v 0,aU C q e<|aT C v 1]) cb
 |.lett x p q,e,k=>(zas C.kinds.length).foldl (λt (j:Nat)=>c8 t<|csum C 0 k k [aU C p e (j:Int),aU C q (eZ e x (j:Int)) k]) cb
 |.pick c k' p q r,e,k=>csum C 0 k' k [aU C p e c,aU C q e k',aU C r e k']
 |.again _ k' x p q,e,k=>csum C 0 k' k [aU C p e k',aU C q (eZ e x k') k']
def a9{h:Option Str}{acc l:List Str}{x:Str}:x∈fF h acc l↔x∈acc\/(x∈l/\bx x≠h):=by
 unfold fF;by_cases hx:x∈acc <;> simp_all[hx]
theorem b8(C:Bk):∀(p:Pa) (e f:gU) (k:Int),(∀x∈aP p,e x=f x)->aU C p e k=aU C p f k
 |.name x,e,f,k,h=>by simp only[aU,h x<|by simp_all[aP]]
 |.num _ j,e,f,k,h=>rfl
 |.use1 nm p,e,f,k,h=>by
  have a:=λk=>b8 C p e f k λx hx=>h x<|by simp only[aP,a9];exact .inr ⟨hx,by simp_all⟩
  simp only[aU,a]
 |.use2 nm p q,e,f,k,h=>by
  have a:=λk=>b8 C p e f k λx hx=>h x<|by simp only[aP,a9];exact .inl<|.inr ⟨hx,by simp_all⟩
  have b:=λk=>b8 C q e f k λx hx=>h x<|by simp only[aP,a9];exact .inr ⟨hx,by simp_all⟩
  simp only[aU,a,b]
 |.lett y p q,e,f,k,h=>by
  have a:=λk=>b8 C p e f k λx hx=>h x<|by simp only[aP,a9];exact .inl<|.inr ⟨hx,by simp_all⟩
  have b:=λj k=>b8 C q (eZ e y j) (eZ f y j) k λx hx=>by
   unfold eZ;by_cases z:x=y
   .rw[ck z,ck z]
   .rw[cq z,cq z];exact h x<|by simp only[aP,a9];exact .inr ⟨hx,by simpa using z⟩
  simp only[aU,a,b]
 |.pick c k' p q r,e,f,k,h=>by
  have a:=λk=>b8 C p e f k λx hx=>h x<|by simp only[aP,a9];exact .inl<|.inl<|.inr ⟨hx,by simp_all⟩
  have b:=λk=>b8 C q e f k λx hx=>h x<|by simp only[aP,a9];exact .inl<|.inr ⟨hx,by simp_all⟩
  have c:=λk=>b8 C r e f k λx hx=>h x<|by simp only[aP,a9];exact .inr ⟨hx,by simp_all⟩
  simp only[aU,a,b,c]
 |.again n k' y p q,e,f,k,h=>by
  have a:=λk=>b8 C p e f k λx hx=>h x<|by simp only[aP,a9];exact .inl<|.inr ⟨hx,by simp_all⟩
  have b:=λj k=>b8 C q (eZ e y j) (eZ f y j) k λx hx=>by
   unfold eZ;by_cases z:x=y
   .rw[ck z,ck z]
   .rw[cq z,cq z];exact h x<|by simp only[aP,a9];exact .inr ⟨hx,by simpa using z⟩
  simp only[aU,a,b]
def KW:List Str->List Int->gU
 |x::xs,j::js=>eZ (KW xs js) x j
 |_,_=>λ_=>0
theorem AY(e:gU):∀ {xs:List Str} {x:Str},x∈xs->KW xs (xs.map e) x=e x
 |[],_,h=>nomatch h
 |y::ys,x,h=>by
  show eZ (KW ys<|ys.map e) y (e y) x=e x;unfold eZ;by_cases z:x=y
  .rw[ck z,z]
  .rw[cq z];exact AY e<|(List.mem_cons.mp h).resolve_left z
def ZW:Key->Int
 |.inl i=>i
 |.inr _=>0
def wN(m:Nat):Nat->List (List Int)
 |0=>[[]]
 |n+1=>(wN m n).flatMap λl=>(zas m).map λ(j:Nat)=>(j:Int)::l
theorem v5(m:Nat):∀n,(wN m n).length=m^n
 |0=>rfl
 |n+1=>by
  have h:∀L:List (List Int),(L.flatMap λl=>(zas m).map λ(j:Nat)=>(j:Int)::l).length=L.length*m:=λL=>by
   induction L with
   |nil=>simp_all
   |cons a L ih=>rw[List.flatMap_cons,zbk,ih,zak,zcV,zaA,Nat.succ_mul,Nat.add_comm]
  rw[wN,h,v5 m n,Nat.pow_succ]
theorem v8(m:Nat):∀ {n:Nat} {l:List Int},l.length=n->(∀j∈l,0<=j/\j<(m:Int))->l∈wN m n
 |0,[],_,_=>by simp_all[wN]
 |n+1,j::l,hl,h=>by
  have a:=v8 m (n:=n) (l:=l) (by simpa using hl) λi hi=>h i<|zaq _ hi
  have b:=h j<|zar ..;refine List.mem_flatMap.mpr ⟨l,a,List.mem_map.mpr ⟨j.toNat,List.mem_range.mpr<|by lia,?_⟩⟩;rw[show((j.toNat:Nat):Int)=j by lia]
open Classical in
def FF(b p:D):My.Mf:=λk=>if h:∃q:Bk×Pa,b=a7 q.1/\p=bJ q.2 then aU h.choose.1 h.choose.2 (KW (aP h.choose.2)<|k.2.map ZW) (ZW k.1)else cb
open Classical in
def DM(b p:D):List My.NK:=if h:∃q:Bk×Pa,b=a7 q.1/\p=bJ q.2 then(wN h.choose.1.kinds.length<|(aP h.choose.2).length+1).map λl=>match l with
 |j::l=>(.inl j,l.map .inl)
 |[]=>(.inl 0,[])else []
def qah(C:Bk)(p:Pa)(k:Int)(l:List Int):FF (a7 C) (bJ p) (.inl k,l.map .inl)=aU C p (KW (aP p) l) k:=by
 have h:∃q:Bk×Pa,a7 C=a7 q.1/\bJ p=bJ q.2:=⟨(C,p),rfl,rfl⟩;unfold FF;rw[dif_pos h];have z:=xO h.choose_spec.1;have F:=xK h.choose_spec.2;rw[<- z,<- F,zav];have e:(ZW ∘ zby:Int->Int)=id:=rfl;rw[e,List.map_id];rfl
def qas{C:Bk}{p:Pa}{k:Int}{l:List Int}(h0:0<=k/\k<(C.kinds.length:Int))(N:l.length=(aP p).length)(h:∀j∈l,0<=j/\j<(C.kinds.length:Int)):((.inl k,l.map .inl):My.NK)∈DM (a7 C) (bJ p):=by
 have F:∃q:Bk×Pa,a7 C=a7 q.1/\bJ p=bJ q.2:=⟨(C,p),rfl,rfl⟩;unfold DM;rw[dif_pos F];have J:=xO F.choose_spec.1;have U:=xK F.choose_spec.2;rw[<- J,<- U];refine List.mem_map.mpr ⟨k::l,v8 _ (by rw[zaA,N]) λj G=>?_,rfl⟩;rcases List.mem_cons.mp G with z|z
 .rw[z];exact h0
 .exact h j z
def WL{C:Bk}{p:Pa}(G:C.kinds.length<=6)(N:(aP p).length<=8):(DM (a7 C)<|bJ p).length<zai:=by
 have z:∃q:Bk×Pa,a7 C=a7 q.1/\bJ p=bJ q.2:=⟨(C,p),rfl,rfl⟩;unfold DM;rw[dif_pos z];have F:=xO z.choose_spec.1;have J:=xK z.choose_spec.2;rw[<- F,<- J,zak,v5];have a:C.kinds.length^((aP p).length+1)<=6^((aP p).length+1):=Nat.pow_le_pow_left G _;have b:(6:Nat)^((aP p).length+1)<=6^9:=Nat.pow_le_pow_right (by decide) (by lia);have c:(6:Nat)^9<zai:=by decide
 lia
def top(i:Nat):Stmt:=PySem.Challenge.pw_chiefway_k44_counts.main.body.getD i<|.Pass ⟨0,0,0,0⟩
abbrev s_law:Stmt:=top 64
abbrev tb(x:Str)(i:Nat)(ps:List Str):=(x,i,ps)
def tab:List<|Str×Nat×List Str:=[tb "_law_cell" 36 ["script", "k"],tb "_law_price" 38 ["cell"],tb "_law_road" 39 ["cell", "M", "j", "k"],tb "_law_roads" 40 ["script", "M", "many"],tb "_law_name" 37 ["cell", "n"],tb "_law_shape" 41 ["cell", "M", "n"],tb "_law_makes" 42 ["script", "M", "many"],tb "_law_book" 43 ["script"],tb "_law_heads" 57 ["script", "tome", "names"],tb "_law_back" 45 ["tome", "k", "cell"],tb "_law_cost" 46 ["tome", "way"],tb "_law_leaf" 48 ["tome", "known", "kind", "cell"],tb "_law_begun" 58 ["script", "tome", "names", "pairs"],tb "_law_walk" 44 ["tome", "j", "cell"],tb "_law_behind" 47 ["reading", "way"],tb "_law_walked" 55 ["tome", "state", "cell"],tb "_law_many" 59 ["script"],tb "_law_over" 49 ["part", "reading", "kind", "states", "cost"],tb "_law_used" 50 ["tome", "known", "state", "cell"],tb "_law_closed" 54 ["tome", "known", "state", "pair", "cell"],tb "_law_picked" 51 ["tome", "known", "state", "cell"],tb "_law_around" 52 ["tome", "known", "state", "name", "cell"],tb "_law_named" 53 ["tome", "known", "state", "name", "cell"],tb "_law_step" 56 ["tome", "names", "now", "cell"],tb "_law_grown" 60 ["script", "tome", "names", "pairs"],tb "ways" 10 ["book", "j", "k"],tb "way_price" 11 ["book", "way"],tb "ways_sum" 22 ["book", "routes"],tb "name_within" 8 ["part", "number"],tb "names_used" 20 ["part", "below"],tb "inner" 7 ["part"],tb "number_in" 28 ["total"],tb "choices" 13 ["book", "part"],tb "either" 24 ["one", "other"],tb "both" 23 ["one", "other"],tb "inner_kinds" 14 ["book", "part", "kind", "choice"],tb "inner_heads" 15 ["heads", "part", "number", "choice"],tb "spots" 27 ["atlas", "node", "heads", "kind", "choice"],tb "way_begins" 16 ["book", "heads", "part", "kind", "choice"],tb "sum_at" 25 ["atlas", "node", "heads", "kind"],tb "choice_sum" 26 ["atlas", "node", "heads", "kind", "choice"],tb "counts" 29 ["book", "heads", "part"],tb "_law_number" 61 ["script"],tb "parted" 34 ["n", "many"],tb "assembled" 17 ["part", "choice", "readings", "way"],tb "sizes" 33 ["atlas", "places", "routes"],tb "told_at" 31 ["atlas", "node", "heads", "kind", "n"],tb "told_choice" 32 ["atlas", "node", "heads", "kind", "choice", "n"],tb "told" 30 ["book", "heads", "part", "kind", "n"],tb "_law_refused" 63 ["tome", "heads", "part", "kind", "n"],tb "_law_whole" 62 ["found"]]
def blt:List Str:=["ValueError", "bool", "dict", "enumerate", "int", "isinstance", "len", "list", "max", "min", "range", "reversed", "sum", "tuple", "zip"]
def gis:List<|Str×Int:=[]
def sc_law:FnScope ["script", "tome", "names", "pairs", "state", "part", "many", "handed", "found", "k", "n", "kind", "size", "wrong", "kept"] ["script"]<|aF s_law:=⟨rfl,rfl,rfl,by decide +kernel,rfl,by decide +kernel,by decide +kernel⟩
structure Txt(K:zae)(mg:Str->Option Value):Prop where
 d:∀p∈tab,My.DefAt K mg p.1 (top p.2.1) p.2.2
 b:∀x∈blt,mg x=cb
 g:∀p∈gis,GInt mg p.1 p.2
 t_NoReading:My.TryAt K mg "NoReading" "ChiefError" ["NoForm", "NoHead", "NoKind"]
 o_Node:ObT K mg "Node" "Node.__init__" "part" (inClass (top 19) 0) CN ["part", "below", "names", "found"]
 o_Atlas:ObT K mg "Atlas" "Atlas.__init__" "book" (inClass (top 21) 0) CA ["book", "routes", "spans"]
def Txt.n{K:zae}{mg:Str->Option Value}(T:Txt K mg){x:Str}(h:x∈blt:=by decide +kernel):mg x=cb:=T.b x h
abbrev Tx(P:zah)(w:World)(K:zae)(mg:Str->Option Value)(base:Heap):Prop:=Txt K mg
abbrev Zt(x:Str)(ps:List Str)(k n:Nat):Type:={b:Sv // ∀ {P:zah} {w:World} {K:zae} {mg:Str->Option Value} {base:Heap},Tx P w K mg base->Fn P w K mg base x k ps (bE n b)}
def gM(N:List Str)(i:Nat){x:Str}{ps:List Str}{k:Nat}{b:Sv}(h:∀ {P:zah} {w:World} {K:zae} {mg:Str->Option Value} {base:Heap} {z:Addr} {q:Value} {A:zal} {outer:List Env} {H:Hp} {E:XK} (T:Tx P w K mg base) (s:zab) (nd:N.Nodup) (F:Room k<|A.deeper<|zaH x (aF<|top i) s.heap.objs.size z q) (hu:(A.deeper<|zaH x (aF<|top i) s.heap.objs.size z q).units+1<cLine),∃g,PSDs (dC uS P w K mg base N x (aF<|top i) z q A outer s H E).nox ⟨[],[]⟩ [] (bF<|top i) g []/\g=b)(m:(x,i,ps)∈tab:=by decide +kernel)(sc:FnScope N ps<|aF<|top i:=by exact⟨rfl,rfl,rfl,by decide +kernel,rfl,by decide +kernel,by decide +kernel⟩):Zt x ps (k+1) N.length:=⟨b,λT=>uJ (T.d _ m) sc λz q A outer s H E F=>h T s sc.nd F<|hJ F⟩
abbrev ZtF(x:Str)(ps:List Str)(k n:Nat):Type:={b:Sv // ∀ {P:zah} {w:World} {K:zae} {mg:Str->Option Value} {base:Heap},Tx P w K mg base->FnF P w K mg base x k ps (P6 n b)}
def qbq(N:List Str)(i:Nat){x:Str}{ps:List Str}{k:Nat}{b:Sv}(h:∀ {P:zah} {w:World} {K:zae} {mg:Str->Option Value} {base:Heap} {z:Addr} {q:Value} {A:zal} {outer:List Env} {H:Hp} {E:XK} (T:Tx P w K mg base) (s:zab) (nd:N.Nodup) (F:Room k<|A.deeper<|zaH x (aF<|top i) s.heap.objs.size z q) (hu:(A.deeper<|zaH x (aF<|top i) s.heap.objs.size z q).units+1<cLine),∃g,PSs (dC uS P w K mg base N x (aF<|top i) z q A outer s H E).nox (bF<|top i) (tSF [] g)/\g=b)(m:(x,i,ps)∈tab:=by decide +kernel)(sc:FnScope N ps<|aF<|top i:=by exact⟨rfl,rfl,rfl,by decide +kernel,rfl,by decide +kernel,by decide +kernel⟩):ZtF x ps (k+1) N.length:=⟨b,λT=>X5 (T.d _ m) sc λz q A outer s H E F=>h T s sc.nd F<|hJ F⟩
abbrev Zr(x:Str)(ps:List Str)(k n m:Nat):Type:={b:(List D->Option D)->Sv // ∀ {P:zah} {w:World} {K:zae} {mg:Str->Option Value} {base:Heap},Tx P w K mg base->Fn P w K mg base x (k+m+1) ps (i6 n b m)}
def KR(N:List Str)(i:Nat){x:Str}{ps:List Str}{k m:Nat}{b:(List D->Option D)->Sv}(h:∀ {P:zah} {w:World} {K:zae} {mg:Str->Option Value} {base:Heap} {fa:Addr} {cdv:Value} {A:zal} {outer:List Env} {H:Hp} {E:XK} (T:Tx P w K mg base) (R:List D->Option D) (j:Nat) (hj:k<=j) (ih:Fn P w K mg base x j ps R) (s:zab) (nd:N.Nodup) (hr:Room j<|A.deeper<|zaH x (aF<|top i) s.heap.objs.size fa cdv) (hu:(A.deeper<|zaH x (aF<|top i) s.heap.objs.size fa cdv).units+1<cLine),∃g,PSDs (dC uS P w K mg base N x (aF<|top i) fa cdv A outer s H E).nox ⟨[],[]⟩ [] (bF<|top i) g []/\g=b R)(me:(x,i,ps)∈tab:=by decide +kernel)(sc:FnScope N ps<|aF<|top i:=by exact⟨rfl,rfl,rfl,by decide +kernel,rfl,by decide +kernel,by decide +kernel⟩):Zr x ps k N.length m:=⟨b,λT=>by
 induction m with
 |zero=>exact GO (T.d _ me) sc
 |succ m ih=>exact uJ (T.d _ me) sc λfa cdv A outer s H E hr=>h T _ (k+m+1) (by lia) ih s sc.nd hr<|hJ hr⟩
local macro_rules | `(tactic|exists $x:ident) => `(tactic|(refine' (?f:∀y:(List D -> Option D) -> Sv, zcX $x = y -> (List D -> Option D) -> Sv) _ ?h;(case h => unfold $x;(try unfold KR);(try dsimp only);try exact rfl);(case f => exact λy _ => y)))
local macro_rules | `(tactic|exists $x:ident) => `(tactic|(refine' (?f:∀y:Xv, zcX $x = y -> Xv) _ ?h;(case h => unfold $x;(try dsimp only);try exact rfl);(case f => exact λy _ => y)))
local macro_rules | `(tactic|exists $x:ident) => `(tactic|(refine' (?f:∀y:Sv, zcX $x = y -> Sv) _ ?h;(case h => unfold $x;(try unfold gM);(try unfold qbq);(try dsimp only);try exact rfl);(case f => exact λy _ => y)))
def QP{X:Cx}{O:List Nat}{e:Expr}{f:Ev}{pos:Pos}(T:Txt X.K X.mg)(z:PB X O e f)(q:zaW e "part" X.env (eval e X.env)=eval e X.env):PD X O (.Attribute e "part" pos)<|dH CN "part" f:=kG T.o_Node.cls (T.o_Node.na _<|by decide) z q
def LM{X:Cx}{O:List Nat}{e:Expr}{f:Ev}{pos:Pos}(T:Txt X.K X.mg)(z:PB X O e f)(q:zaW e "below" X.env (eval e X.env)=eval e X.env):PD X O (.Attribute e "below" pos)<|dH CN "below" f:=kG T.o_Node.cls (T.o_Node.na _<|by decide) z q
def L4{X:Cx}{O:List Nat}{e:Expr}{f:Ev}{pos:Pos}(T:Txt X.K X.mg)(z:PB X O e f)(q:zaW e "names" X.env (eval e X.env)=eval e X.env):PD X O (.Attribute e "names" pos)<|dH CN "names" f:=kG T.o_Node.cls (T.o_Node.na _<|by decide) z q
def TQ{X:Cx}{O:List Nat}{e:Expr}{f:Ev}{pos:Pos}(T:Txt X.K X.mg)(z:PB X O e f)(q:zaW e "book" X.env (eval e X.env)=eval e X.env):PD X O (.Attribute e "book" pos)<|dH CA "book" f:=kG T.o_Atlas.cls (T.o_Atlas.na _<|by decide) z q
def KN{X:Cx}{O:List Nat}{e:Expr}{f:Ev}{pos:Pos}(T:Txt X.K X.mg)(z:PB X O e f)(q:zaW e "routes" X.env (eval e X.env)=eval e X.env):PD X O (.Attribute e "routes" pos)<|dH CA "routes" f:=kG T.o_Atlas.cls (T.o_Atlas.na _<|by decide) z q
def MQ{X:Cx}{O:List Nat}{e:Expr}{f:Ev}{pos:Pos}(T:Txt X.K X.mg)(z:PB X O e f)(q:zaW e "spans" X.env (eval e X.env)=eval e X.env):PD X O (.Attribute e "spans" pos)<|dH CA "spans" f:=kG T.o_Atlas.cls (T.o_Atlas.na _<|by decide) z q
local macro_rules | `(tactic|trivial) => `(tactic|first
 | exact rfl
 | assumption
 | (show PD _ _ _ _;first|(apply vD <;> trivial)|(apply wE <;> trivial)|((first|apply XB|apply bI|apply rSl|apply rIt|apply qct|apply wt|apply qab|apply XU|apply YR|apply qbZ|apply qbX|apply qp|apply qr|apply qm|apply YE|apply R6|apply ZO|apply QP|apply LM|apply L4|apply TQ|apply KN|apply MQ|apply rCm|apply YF|apply YD|apply WU|apply VA|apply YA|apply PF.d) <;> trivial))
 | (show PB _ _ _ _;first|(apply vB <;> trivial)|(apply PD.b <;> trivial))
 | (show wW _ _ _ _;((first|apply SE|apply lW) <;> trivial))
 | (show wV _ _ _ _;((first|apply E7|apply Z8) <;> trivial))
 | (show Len _ _;((first|apply l0|apply lc) <;> trivial))
 | (show kT _ _ _;((first|apply eD|apply fX|apply EI|apply YW|apply qq|apply YL|apply XZ|apply XX|apply UO|apply xEq|apply xNe|apply xLt) <;> trivial))
 | (show At _ _ _;first|exact at_ 0|exact at_ 1|exact at_ 2|exact at_ 3|exact at_ 4|exact at_ 5|exact at_ 6|exact at_ 7|exact at_ 8|exact at_ 9|exact at_ 10|exact at_ 11|exact at_ 12|exact at_ 13|exact at_ 14)
 | (show uT _ _ _ _;first|((first|apply qb0|apply tc|apply GB) <;> trivial)|(apply PDW.pt <;> trivial)|(apply G5 <;> trivial))
 | (show PDW _ _ _ _;((first|apply RE|apply ZC|apply BL|apply GN) <;> trivial))
 | (show V9 _ _ _ _;((first|apply NW|apply M0) <;> trivial))
 | (show PDI _ _ _ _ _;((first|apply CF|apply UJ|apply LK|apply Q4|apply NV) <;> trivial))
 | (show B7 _ _ _ _;first|(apply gV <;> trivial)|(apply gu 2 <;> trivial)|(apply gu 3 <;> trivial))
 | (show EZ _ _ _ _;((first|apply NG|apply gc) <;> trivial))
 | (show My.E3 _ _ _;((first|apply MK|apply LH) <;> trivial))
 | (show PF _ _ _ _;((first|apply wl|apply qb6) <;> trivial))
 | rfl
 | exact Txt.n (by assumption)
 | exact .inl rfl
 | exact .inr rfl
 | exact .inr (.inl rfl)
 | exact .inr (.inr rfl)
 | exact λ_=>rfl
 | exact λ_ _=>rfl
 | (with_unfolding_all rfl)
 | (constructor <;> rfl)
 | exact zaj _
 | (refine zaO ?_ (by assumption);decide))
seal PD PB PF wW wV uT PDW PDI V9 PSD PSDs Fn kT zaC zaQ
def c7:Zt "_law_cell" ["script", "k"] 1 3:=gM ["script", "k", "near"] 36 λT s z q F=>by exact⟨_,(c0 (aW aO)<|c0 (aK 2<|bI eD (by trivial)<|PD.b<|bI cM (by trivial)<|by trivial)<|c0 (aW<|aN<|aK 2<|bI eD (by trivial)<|PD.b<|bI cM (PD.b<|bI cM (by trivial)<|by trivial)<|by trivial)<|aO<|bI EI (PD.b<|bI fX (PD.b<|bI cM (by trivial)<|by trivial)<|by trivial)<|by trivial),rfl⟩
def iM:Sv:=by exists c7
def bW:=bE 3 iM
def jD:Zt "_law_price" ["cell"] 1 1:=gM ["cell"] 38 λT s z q F=>by exact⟨_,(c0 (aW aO)<|aO<|bI fX (PD.b<|bI cM (by trivial)<|by trivial)<|by trivial),rfl⟩
def jB:Sv:=by exists jD
def jH:=bE 1 jB
def rH:Zt "_law_road" ["cell", "M", "j", "k"] 2 6:=gM ["cell", "M", "j", "k", "a", "b"] 39 λT s z q F=>by have:=fx jH<|jD.2 T;exact⟨_,(c0 (aK 4<|bI fX (PD.b<|bI cM (by trivial)<|by trivial)<|by trivial)<|c0 (aK 5<|bI fX (PD.b<|bI eD (by trivial)<|PD.b<|bI cM (by trivial)<|by trivial)<|by trivial)<|c0 (aW<|aN<|aK 4)<|c0 (aW<|aN<|aK 5) aO),rfl⟩
def rN:Sv:=by exists rH
def lB:=bE 6 rN
def pI:Zt "_law_roads" ["script", "M", "many"] 3 9:=gM ["script", "M", "many", "cell", "roads", "n", "near", "j", "k"] 40 λT s z q F=>by have:=fx bW<|c7.2 T;have:=fx lB<|rH.2 T;exact⟨_,(c0 (aK 3)<|cO [4] (eJ 4)<|c0 (dY [4] []<|cO [4] (aK 6)<|aN<|aW<|cO [4] (aK 7)<|cO [4] (aK 8)<|cO [4] (aW<|cO [4] (aK 7)<|aN<|aK 8)<|aN<|kP 4) aO),rfl⟩
def pB:Sv:=by exists pI
def jE:=bE 9 pB
def iJ:Zt "_law_name" ["cell", "n"] 1 6:=gM ["cell", "n", "many", "some", "letters", "at"] 37 λT s z q G=>by exact⟨_,(c0 (aK 0)<|c0 (aK 2)<|c0 (aK 3)<|c0 (aW<|aN<|aK 3)<|cO [4] (eJ 4<|eX s ["k", "cell", "some"] [cb,bx 0,bx 3] (by trivial) (by intros;trivial) (by intros;trivial) λ_ _ _ _=>(bI fX (PD.b<|bI eD (PD.b<|bI EI (by trivial)<|PD.b<|bI eD (by trivial)<|PD.b<|bI cM (by trivial)<|by trivial)<|PD.b<|bI cM (by trivial)<|by trivial)<|by trivial))<|c0 (QB (cO [4] (aK 2)<|aN<|wK 4)<|cO [4] (aK 5)<|aN<|wK 4)<|aO<|SM (by trivial) (PD.b<|PF.d<|eX s ["k", "some", "letters"] [cb,bx 3,bx 4]) λa b=>(B0 PySem.F.plainAttrs_str PySem.F.slot_str_join PySem.F.type_str_join My.SV a b)),rfl⟩
def qN:Sv:=by exists iJ
def b7:=bE 6 qN
def oZ:Zt "_law_shape" ["cell", "M", "n"] 1 8:=gM ["cell", "M", "n", "some", "terms", "k", "near", "c"] 41 λT s z q F=>by exact⟨_,(c0 (jU 3 s ["k"] [cb])<|c0 (aW<|aN<|jU 3 s ["k"] [cb])<|cO [4] (eJ 4)<|c0 (dY [4] []<|cO [4] (aK 6<|bI eD (by trivial)<|PD.b<|bI cM (by trivial)<|by trivial)<|cO [4] (aK 7<|bI fX (PD.b<|bI cM (by trivial)<|by trivial)<|by trivial)<|aN<|aW<|aN<|kP 4) aO),rfl⟩
def oV:Sv:=by exists oZ
def jJ:=bE 8 oV
def oM:Zt "_law_makes" ["script", "M", "many"] 2 10:=gM ["script", "M", "many", "cell", "makes", "n", "near", "takes", "name", "shape"] 42 λT s z q F=>by have:=fx bW<|c7.2 T;have:=fx b7<|iJ.2 T;have:=fx jH<|jD.2 T;have:=fx jJ<|oZ.2 T;exact⟨_,(c0 (aK 3)<|cO [4] (eJ 4)<|c0 (dY [4] []<|cO [4] (aK 6)<|cO [4] (aK 7)<|cO [4] (aW<|aN<|aK 7)<|cO [4] (aW<|aN<|aK 7)<|cO [4] (aK 8)<|cO [4] (aK 9)<|aN<|kP 4) aO),rfl⟩
def oI:Sv:=by exists oM
def jM:=bE 10 oI
def qZ:Zt "_law_book" ["script"] 4 5:=gM ["script", "cell", "M", "many", "kinds"] 43 λT s z q F=>by have:=fx bW<|c7.2 T;have:=fx jM<|oM.2 T;have:=fx b7<|iJ.2 T;have:=fx jE<|pI.2 T;exact⟨_,(c0 (aK 1)<|c0 (aK 2<|bI eD (by trivial)<|PD.b<|bI cM (by trivial)<|by trivial)<|c0 (aW<|aN<|aK 2<|bI eD (by trivial)<|PD.b<|bI cM (by trivial)<|by trivial)<|c0 (aK 3)<|c0 (aW<|aN<|aK 3)<|c0 (aK 4<|qh jO T.n My.boot_tuple<|Z8 (PD.b<|PF.d<|eX s ["k", "script"] [cb,bx 0])<|by trivial) aO),rfl⟩
def rY:Sv:=by exists qZ
def lI:=bE 5 rY
def oY:Zt "_law_heads" ["script", "tome", "names"] 2 5:=gM ["script", "tome", "names", "pairs", "k"] 57 λT s z q F=>by have:=fx bW<|c7.2 T;exact⟨_,(cO [3] (eJ 3)<|c0 (dY [3] []<|aN<|kP 3) aO),rfl⟩
def pG:Sv:=by exists oY
def jI:=bE 5 pG
def qQ:Zt "_law_back" ["tome", "k", "cell"] 1 5:=gM ["tome", "k", "cell", "way", "some"] 45 λT s z q F=>by exact⟨_,(c0 (aK 3)<|c0 (PZ [] []<|c0 (jU 4 s ["n", "tome", "k"] [cb,bx 0,bx 1])<|c0 (aW aO)<|c0 (aK 3)<|c0 (aK 1)<|aN<|aK 2) aO),rfl⟩
def rK:Sv:=by exists qQ
def lA:=bE 5 rK
def k9:Zt "_law_cost" ["tome", "way"] 1 2:=gM ["tome", "way"] 46 λT s z q F=>by exact⟨_,(aO<|cB (OA rfl) T.n My.boot_sum<|Z8 (PD.b<|PF.d<|eX s ["n", "tome"] [cb,bx 0])<|by trivial),rfl⟩
def sA:Sv:=by exists k9
def lG:=bE 2 sA
def eE:Zt "_law_leaf" ["tome", "known", "kind", "cell"] 2 10:=gM ["tome", "known", "kind", "cell", "j", "way", "some", "cost", "name", "n"] 48 λT s q z F=>by have:=fx lA<|qQ.2 T;have:=fx lG<|k9.2 T;exact⟨_,(c0 (nD (by trivial)<|nE<|My.tX (n:=2) rfl<|gX (λa b=>(jR a b)) (mY<|gF (i:=4) q rfl<|zbT rfl)<|by trivial)<|c0 (jU 6 s ["name", "at", "j"] [cb,cb,bx 4])<|c0 (aK 7)<|c0 (aW<|c0 (aK 8) aO)<|c0 (aK 9<|bI fX (PD.b<|bI cM (by trivial)<|by trivial)<|by trivial) aO),rfl⟩
def qR:Sv:=by exists eE
def bN:=bE 10 qR
def oX:Zt "_law_begun" ["script", "tome", "names", "pairs"] 3 8:=gM ["script", "tome", "names", "pairs", "left", "k", "known", "kind"] 58 λT s z q F=>by have:=fx bW<|c7.2 T;have:=fx bN<|eE.2 T;exact⟨_,(cO [4] (eJ 4)<|c0 (dY [4] []<|aN<|kP 4)<|c0 (aK 6)<|c0 (aK 7) aO),rfl⟩
def pD:Sv:=by exists oX
def jF:=bE 8 pD
def qU:Zt "_law_walk" ["tome", "j", "cell"] 1 5:=gM ["tome", "j", "cell", "way", "some"] 44 λT s z q F=>by exact⟨_,(c0 (aK 3)<|c0 (PZ [] []<|c0 (jU 4 s ["n", "tome", "j"] [cb,bx 0,bx 1])<|c0 (aW aO)<|c0 (aK 3)<|c0 (aK 1)<|aN<|aK 2) aO),rfl⟩
def rE:Sv:=by exists qU
def kZ:=bE 5 rE
def mH:Zr "_law_behind" ["reading", "way"] 0 3 24:=KR ["reading", "way", "last"] 47 λT R j z ih s G q F=>by exact⟨_,(c0 (aK 2)<|c0 (aW aO) aO),rfl⟩
def eP:(List D->Option D)->Sv:=by exists mH
def l9:=i6 3 eP 24
def iE:Zt "_law_walked" ["tome", "state", "cell"] 26 5:=gM ["tome", "state", "cell", "kind", "way"] 55 λT s z q F=>by have:=fx l9<|mH.2 T;have:=fx lG<|k9.2 T;have:=fx kZ<|qU.2 T;exact⟨_,(c0 (nD (by trivial)<|nE<|My.tX (n:=2) rfl<|by trivial) aO),rfl⟩
def mE:Sv:=by exists iE
def h7:=bE 5 mE
def sC:Zt "_law_many" ["script"] 2 1:=gM ["script"] 59 λT s z q F=>by have:=fx bW<|c7.2 T;exact⟨_,aO,rfl⟩
def qO:Sv:=by exists sC
def rT:=bE 1 qO
def fB:Zt "_law_over" ["part", "reading", "kind", "states", "cost"] 1 10:=gM ["part", "reading", "kind", "states", "cost", "parts", "lets", "rounds", "k", "one"] 49 λT s z q F=>by exact⟨_,(c0 (aK 5)<|c0 (aK 6)<|c0 (aK 7)<|c0 (dY [] []<|c0 (aK 9)<|c0 (aK 5)<|c0 (aK 6)<|c0 (aK 7)<|aN<|aK 4) aO),rfl⟩
def qY:Sv:=by exists fB
def aV:=bE 10 qY
def rL:Zt "_law_used" ["tome", "known", "state", "cell"] 3 11:=gM ["tome", "known", "state", "cell", "some", "v", "at", "make", "row", "part", "reading"] 50 λT s z q F=>by have:=fx bN<|eE.2 T;have:=fx aV<|fB.2 T;exact⟨_,(cO [4] (eJ 4)<|c0 (dY [4] []<|aN<|dY [4] [4]<|aN<|aW<|aN<|kP 4)<|c0 (aW aO)<|c0 (nD (by trivial)<|nE<|My.tX (n:=2) rfl<|by trivial)<|c0 (aK 7)<|cO [8] (S5 8 s ["kind", "tome", "known", "cell"] [cb,bx 0,bx 1,bx 3])<|c0 (wK 8)<|c0 (aK 9<|oE (lW (by trivial)<|lW (by trivial)<|lW (qh jO T.n My.boot_tuple<|Z8 (PD.b<|PF.d<|eX s ["one"] [cb])<|by trivial)<|by trivial) λρ ds h=>(by have:=(lc<|lc<|lc l0) ρ ds h;lia))<|c0 (aK 10<|oE (lW (by trivial)<|lW (by trivial)<|lW (qh jO T.n My.boot_tuple<|Z8 (PD.b<|PF.d<|eX s ["one"] [cb])<|by trivial)<|by trivial) λρ ds h=>(by have:=(lc<|lc<|lc<|lc l0) ρ ds h;lia)) aO),rfl⟩
def rR:Sv:=by exists rL
def kX:=bE 11 rR
def mD:Zt "_law_closed" ["tome", "known", "state", "pair", "cell"] 3 12:=gM ["tome", "known", "state", "pair", "cell", "name", "j", "one", "row", "reading", "n", "part"] 54 λT s z q F=>by have:=fx bN<|eE.2 T;have:=fx aV<|fB.2 T;exact⟨_,(c0 (nD (by trivial)<|nE<|My.tX (n:=2) rfl<|by trivial)<|c0 (aK 7)<|c0 (aK 8)<|c0 (aW<|c0 (aK 9) aO)<|c0 (aK 10)<|c0 (aK 11) aO),rfl⟩
def mK:Sv:=by exists mD
def iB:=bE 12 mK
def l7:Zt "_law_picked" ["tome", "known", "state", "cell"] 3 9:=gM ["tome", "known", "state", "cell", "at", "c", "k", "row", "part"] 51 λT s z q F=>by have:=fx bN<|eE.2 T;have:=fx aV<|fB.2 T;exact⟨_,(c0 (aK 4)<|c0 (aK 5)<|c0 (aK 6)<|c0 (QB (aN<|aK 6)<|aN<|aK 5)<|cO [7] (eJ 7)<|cO [7] (kP 7)<|c0 (wK 7)<|c0 (aK 8) aO),rfl⟩
def mI:Sv:=by exists l7
def iF:=bE 9 mI
def mJ:Zt "_law_around" ["tome", "known", "state", "name", "cell"] 3 9:=gM ["tome", "known", "state", "name", "cell", "k", "n", "two", "part"] 52 λT s z q F=>by have:=fx bN<|eE.2 T;have:=fx aV<|fB.2 T;exact⟨_,(c0 (aK 5)<|c0 (aK 6)<|c0 (aK 7)<|c0 (aK 8) aO),rfl⟩
def lZ:Sv:=by exists mJ
def mB:=bE 9 lZ
def oQ:Zt "_law_named" ["tome", "known", "state", "name", "cell"] 3 8:=gM ["tome", "known", "state", "name", "cell", "k", "two", "reading"] 53 λT s z q F=>by have:=fx bN<|eE.2 T;have:=fx aV<|fB.2 T;exact⟨_,(c0 (aK 5)<|c0 (aK 6)<|c0 (aK 7) aO),rfl⟩
def pE:Sv:=by exists oQ
def oN:=bE 8 pE
def lD:Zt "_law_step" ["tome", "names", "now", "cell"] 27 9:=gM ["tome", "names", "now", "cell", "state", "left", "known", "rest", "most"] 56 λT s q z F=>by have:=fx mB<|mJ.2 T;have:=fx iB<|mD.2 T;have:=fx oN<|oQ.2 T;have:=fx iF<|l7.2 T;have:=fx kX<|rL.2 T;have:=fx h7<|iE.2 T;exact⟨_,(c0 (nD (by trivial)<|nE<|My.tX (n:=3) rfl<|gX (λa b=>(jR a b)) (by trivial)<|gX (λa b=>(jR a b)) (mY<|gF (i:=5) q rfl<|zbT rfl)<|by trivial)<|c0 (aW<|c0 (jU 7 s ["pair", "left"] [cb,bx 5]) aO)<|c0 (aK 4)<|c0 (aK 8)<|c0 (aW<|aN<|aK 8)<|c0 (QB (aN<|aK 4)<|aN<|QB (aN<|aK 4)<|aN<|QB (aN<|aK 4)<|aN<|aW<|aN<|aK 4) aO),rfl⟩
def qW:Sv:=by exists lD
def iK:=bE 9 qW
def pJ:Zt "_law_grown" ["script", "tome", "names", "pairs"] 28 6:=gM ["script", "tome", "names", "pairs", "now", "k"] 60 λT s z q F=>by have:=fx jF<|oX.2 T;have:=fx bW<|c7.2 T;have:=fx rT<|sC.2 T;have:=fx iK<|lD.2 T;have:=fx h7<|iE.2 T;exact⟨_,(c0 (aK 4)<|c0 (dY [] []<|aN<|aK 4)<|c0 (PZ [] []<|aN<|aK 4<|cD (fx iK<|lD.2 T) (q.mono<|by decide) (lW (by trivial)<|lW (by trivial)<|lW (by trivial)<|lW (bI eD (by trivial)<|PD.b<|bI cM (by trivial)<|by trivial)<|by trivial)<|lc<|lc<|lc<|lc l0) aO),rfl⟩
def oO:Sv:=by exists pJ
def jN:=bE 6 oO
def OP:Zr "ways" ["book", "j", "k"] 0 6 8:=KR ["book", "j", "k", "told", "number", "road"] 10 λT R j G ih s q z J=>by exact⟨_,(c0 (aW aO)<|cO [3] (eJ 3)<|c0 (dY [3] [] (aN<|aW<|aN<|rX (i:=3) (pv 3) (PF.d<|eX s ["way", "number"] [cb,bx 4]) rfl<|B0 zd6 PySem.F.slot_list_extend PySem.F.type_list_extend My.rM (pv 3)<|bX (PD.pe<|PF.d<|eX s ["way", "number"] [cb,bx 4]) eK) (by trivial)<|FU<|D5 (n:=2) rfl<|gX (λa b=>(jR a b)) (mY<|gF (i:=4) q rfl<|zbT rfl)<|by trivial) aO),rfl⟩
def lJ:(List D->Option D)->Sv:=by exists OP
def gQ:=i6 6 lJ 8
def oF:Zt "way_price" ["book", "way"] 1 2:=gM ["book", "way"] 11 λT s z q F=>by exact⟨_,(aO<|cB (OA rfl) T.n My.boot_sum<|Z8 (PD.b<|PF.d<|eX s ["number", "book"] [cb,bx 0])<|by trivial),rfl⟩
def oP:Sv:=by exists oF
def jL:=bE 2 oP
def lH:Zt "ways_sum" ["book", "routes"] 2 3:=gM ["book", "routes", "prices"] 22 λT s z q F=>by have:=fx jL<|oF.2 T;exact⟨_,(c0 (jU 2 s ["way", "book"] [cb,bx 0])<|aO<|VA (by trivial) (oE (lW (by trivial)<|lW (cB (NS rfl) T.n My.boot_min<|by trivial)<|by trivial) λρ ds h=>(by have:=(lc<|lc l0) ρ ds h;lia))<|by trivial),rfl⟩
def rO:Sv:=by exists lH
def cS:=bE 3 rO
def sc_Atlas:FnScope ["self", "book", "j", "k"] ["self", "book"]<|aF<|inClass (top 21) 0:=⟨rfl,rfl,rfl,by decide +kernel,rfl,by decide +kernel,by decide +kernel⟩
def gA(bk:D):Option<|List D:=(lR bY<|aC (aR gB<|aC (bB aJ (aD 1)<|eC<|.int 1) aY) aY) [cb,bx bk]
def sE{P:zah}{w:World}{K:zae}{mg:Str->Option Value}{base:Heap}(T:Tx P w K mg base):MkO P w K mg base 10 "Atlas" CA "book" λ_=>t5 CA gA gQ cS:=T.o_Atlas.mko sc_Atlas λN F A outer s H E G vs Q hsp=>by
  have U:=hJ G;have J:=sc_Atlas.nd;have:=fx gQ<|OP.2 T;have:=fx cS<|lH.2 T;rw[OT hsp];exact CI (X:=(dC uS P w K mg base ["self", "book", "j", "k"] "Atlas.__init__" (aF<|inClass (top 21) 0) N F A outer s H E).nox) (f1:=(lR bY<|aC (aR gB<|aC (bB aJ (aD 1)<|eC<|.int 1) aY) aY)) (f2:=(lR bY<|aC (aR gB<|aC (bB aJ (aD 1)<|eC<|.int 1) aY) aY)) (fk:=(fA<|aC (aD 2)<|aC (aD 3) aY)) (fv:=(aR gQ<|aC (aD 1)<|aC (aD 2)<|aC (aD 3) aY)) (fe:=aD 1) T.o_Atlas.cls T.o_Atlas.na (fx cS<|lH.2 T) rfl (G.mono<|by decide) rfl U zeJ rfl (pv 0) (pv 0) (pv 0) (pv 0) (pv 0) (pv 0) (t7 1 (pv 1)<|by decide) (by trivial) (by trivial) (gF (i:=2) J rfl<|zaZ rfl) (gF (i:=3) J rfl<|zaZ rfl) (by trivial) (by trivial) (by trivial) (by trivial) (t7 1 (pv 1)<|by decide) (λ_ _=>rfl)
   (λh=>by have e:=pQ h;have q:∀bk:D,aD 1 [cb,bx bk]=bx bk:=λ_=>rfl;simp only[gA,lR,aR,aC,bB,e,q];rfl) (λh=>by have e:=pQ h;have q:∀bk:D,aD 1 [cb,bx bk]=bx bk:=λ_=>rfl;simp only[gA,lR,aR,aC,bB,e,q];rfl) (λh h'=>by have e:=pQ h;have z:=pQ h';simp only[fA,aC,aY,e,z];rfl) (λh h' h2=>by have e:=pQ h;have z:=pQ h';have q:=pQ h2;simp only[aR,aC,aY,e,z,q];rfl) (λh=>pQ h) (hsp:=hsp)
def gN:Zt "name_within" ["part", "number"] 1 2:=gM ["part", "number"] 8 λT s z q F=>by exact⟨_,(c0 (aW aO)<|c0 (aW aO)<|c0 (aW aO) aO),rfl⟩
def bK:Sv:=by exists gN
def cQ:=bE 2 bK
def iD:Zt "names_used" ["part", "below"] 2 6:=gM ["part", "below", "names", "number", "node", "hidden"] 20 λT s W J U=>by have:=fx cQ<|gN.2 T;exact⟨_,(c0 (aW aO)<|cO [2] (eJ 2)<|c0 (dY [2] []<|cO [2] (aK 5)<|aN<|rX (i:=2) (pv 2) (PF.d<|A6 (N:=["x", "hidden", "names"]) (ms:=[cb,bx 5,bx 2]) (t:=0) (Oi:=[2]) rfl (FE rfl rfl<|FT (n:=s.heap.objs.size+1) rfl) ⟨⟨rfl,rfl,zaZ rfl⟩,⟨⟨rfl,rfl,zaZ rfl⟩,trivial⟩⟩ rfl (by decide) (by decide) (by trivial) (λ_ _ _ _=>(gF (i:=0) (show(["x", "hidden", "names"]:List Str).Nodup from by decide) rfl<|zaZ rfl)) (λz G H1 q=>(by trivial)) λz G H1 q=>(by trivial)) rfl<|B0 zd6 PySem.F.slot_list_extend PySem.F.type_list_extend My.rM (pv 2)<|bX (PD.pe<|PF.d<|A6 (N:=["x", "hidden", "names"]) (ms:=[cb,bx 5,bx 2]) (t:=0) (Oi:=[2]) rfl (FE rfl rfl<|FT (n:=s.heap.objs.size+1) rfl) ⟨⟨rfl,rfl,zaZ rfl⟩,⟨⟨rfl,rfl,zaZ rfl⟩,trivial⟩⟩ rfl (by decide) (by decide) (by trivial) (λ_ _ _ _=>(gF (i:=0) (show(["x", "hidden", "names"]:List Str).Nodup from by decide) rfl<|zaZ rfl)) (λz G H1 q=>(by trivial)) λz G H1 q=>(by trivial)) eK) aO),rfl⟩
def hZ:Sv:=by exists iD
def eR:=bE 6 hZ
def xY:Zt "inner" ["part"] 1 1:=gM ["part"] 7 λT s z q F=>by exact⟨_,(c0 (aW aO)<|c0 (aW aO)<|c0 (aW aO)<|c0 (aW aO) aO),rfl⟩
def gH:Sv:=by exists xY
def iV:=bE 1 gH
def sc_Node:FnScope ["self", "part"] ["self", "part"]<|aF<|inClass (top 19) 0:=⟨rfl,rfl,rfl,by decide +kernel,rfl,by decide +kernel,by decide +kernel⟩
def pN:Nat->D->D->Option D
 |0,_=>λ_=>cb
 |m+1,b=>HY CN (dZ [cb] (fM<|aR iV<|aC (aD 1) aY) (aS 0) fN<|eNew (pN m) (λ_=>bx b)<|aD 0) eR (DM b)<|FF b
theorem qF{P:zah}{w:World}{K:zae}{mg:Str->Option Value}{base:Heap}(T:Tx P w K mg base):∀m,MkO P w K mg base (3+2*m) "Node" CN "part" (pN m)
 |0=>T.o_Node.mko sc_Node λF q A outer s H E z vs Q hsp=>by
  obtain⟨_,_,_,_,_,_,_,_,_,_,_,_,_,_,_,h,_⟩:=hsp;cases h
 |m+1=>T.o_Node.mko (k:=3+2*m+1) sc_Node λF q A outer s H E z vs Q hsp=>by
  have J:=hJ z;have N:=sc_Node.nd;have G:3<=3+2*m+1:=(by lia);have:=fx iV<|xY.2 T;have:=fx eR<|iD.2 T;rw[RH hsp rfl];exact IX (X:=(dC uS P w K mg base ["self", "part"] "Node.__init__" (aF<|inClass (top 19) 0) F q A outer s H E).nox) (fb:=λb=>(dZ [cb] (fM<|aR iV<|aC (aD 1) aY) (aS 0) fN<|eNew (pN m) (λ_=>bx b)<|aD 0)) T.o_Node.cls T.o_Node.na (fx eR<|iD.2 T) rfl (z.mono<|by lia) rfl (pv 0) (pv 0) (pv 0) (pv 0) (pv 0) (t7 1 (pv 1)<|by decide) (λb=>by exact(PF.d<|eX s ["one"] [cb] (by trivial) (by intros;trivial) (by intros;trivial) λ_ _ _ _=>(lM (β:=λ_=>bx b) (qF T m) (z.mono<|by lia) rfl<|by trivial))) (t7 1 (pv 1)<|by decide) (hsp:=hsp)
def dM:Zt "number_in" ["total"] 1 1:=gM ["total"] 28 λT s z q F=>by exact⟨_,aO,rfl⟩
def zF:Sv:=by exists dM
def cK:=bE 1 zF
def g7:Zt "choices" ["book", "part"] 1 2:=gM ["book", "part"] 13 λT s z q F=>by exact⟨_,(c0 (aW<|aO<|PF.d<|eX s ["v", "make", "part"] [cb,cb,bx 1])<|c0 (aW<|aO<|PF.d<|NM rfl (by rfl) T.n (by rfl) T.n (by trivial) rfl) aO),rfl⟩
def eO:Sv:=by exists g7
def dW:=bE 2 eO
def AB:Zt "either" ["one", "other"] 1 2:=gM ["one", "other"] 24 λT s z q F=>by exact⟨_,(c0 (aW aO) aO),rfl⟩
def AA:Sv:=by exists AB
def mV:=bE 2 AA
def N9:Zt "both" ["one", "other"] 1 2:=gM ["one", "other"] 23 λT s z q F=>by exact⟨_,(c0 (aW aO)<|aO<|oE (lW (bI cM (by trivial)<|by trivial)<|by trivial) λρ ds h=>(by have:=(lc<|lc l0) ρ ds h;lia)),rfl⟩
def OD:Sv:=by exists N9
def OE:=bE 2 OD
def kO:Zt "inner_kinds" ["book", "part", "kind", "choice"] 1 4:=gM ["book", "part", "kind", "choice"] 14 λT s z q F=>by exact⟨_,(c0 (aW aO)<|c0 (aW aO)<|c0 (aW aO)<|c0 (aW aO) aO),rfl⟩
def bZ:Sv:=by exists kO
def bR:=bE 4 bZ
def kM:Zt "inner_heads" ["heads", "part", "number", "choice"] 2 6:=gM ["heads", "part", "number", "choice", "x", "more"] 15 λT s z q F=>by have:=fx cQ<|gN.2 T;exact⟨_,(c0 (aK 4)<|c0 (aW aO)<|cO [5] (eJ 5<|fTy (mT rfl q.units) T.n My.boot_dict<|by trivial)<|c0 (wK 5) aO),rfl⟩
def fG:Sv:=by exists kM
def dE:=bE 6 fG
def yH:Zt "spots" ["atlas", "node", "heads", "kind", "choice"] 3 9:=gM ["atlas", "node", "heads", "kind", "choice", "kinds", "places", "number", "one"] 27 λT s z q F=>by have:=fx dE<|kM.2 T;have:=fx bR<|kO.2 T;exact⟨_,(c0 (aK 5)<|cO [6] (eJ 6)<|c0 (dY [6] []<|aN<|kP 6) aO),rfl⟩
def GU:Sv:=by exists yH
def kH:=bE 9 GU
def iC:Zt "way_begins" ["book", "heads", "part", "kind", "choice"] 1 5:=gM ["book", "heads", "part", "kind", "choice"] 16 λT s z q F=>by exact⟨_,(c0 (aW aO)<|c0 (aW aO)<|c0 (aW aO) aO),rfl⟩
def cH:Sv:=by exists iC
def bM:=bE 5 cH
abbrev Zv(x:Str)(ps:List Str)(k n:Nat):Type:={b:(List D->Option D)->Sv // ∀ {P:zah} {w:World} {K:zae} {mg:Str->Option Value} {base:Heap},Tx P w K mg base->∀(R:List D->Option D) (j:Nat),k<=j->Fn P w K mg base "sum_at" j ["atlas", "node", "heads", "kind"] R->Fn P w K mg base x (j+1) ps (bE n<|b R)}
def qbi(N:List Str)(i:Nat){x:Str}{ps:List Str}{k:Nat}{b:(List D->Option D)->Sv}(h:∀ {P:zah} {w:World} {K:zae} {mg:Str->Option Value} {base:Heap} {z:Addr} {q:Value} {A:zal} {outer:List Env} {H:Hp} {E:XK} (T:Tx P w K mg base) (R:List D->Option D) (j:Nat) (G:k<=j) (ih:Fn P w K mg base "sum_at" j ["atlas", "node", "heads", "kind"] R) (s:zab) (nd:N.Nodup) (F:Room (j)<|A.deeper<|zaH x (aF<|top i) s.heap.objs.size z q) (hu:(A.deeper<|zaH x (aF<|top i) s.heap.objs.size z q).units+1<cLine),∃g,PSDs (dC uS P w K mg base N x (aF<|top i) z q A outer s H E).nox ⟨[],[]⟩ [] (bF<|top i) g []/\g=b R)(J:(x,i,ps)∈tab:=by decide +kernel)(sc:FnScope N ps<|aF<|top i:=by exact⟨rfl,rfl,rfl,by decide +kernel,rfl,by decide +kernel,by decide +kernel⟩):Zv x ps k N.length:=⟨b,λT R j G ih=>uJ (T.d _ J) sc λz q A outer s H E F=>h T R j G ih s sc.nd F<|hJ F⟩
local macro_rules | `(tactic|exists $x:ident) => `(tactic|(refine' (?f:∀y:(List D -> Option D) -> Sv, zcX $x = y -> (List D -> Option D) -> Sv) _ ?h;(case h => unfold $x;(try unfold qbi);(try unfold KR);(try dsimp only);try exact rfl);(case f => exact λy _ => y)))
def eQ:Zv "choice_sum" ["atlas", "node", "heads", "kind", "choice"] 3 10:=qbi ["atlas", "node", "heads", "kind", "choice", "own_price", "total", "one", "known", "at"] 26 λT R j z ih s G q F=>by have:=fx OE<|N9.2 T;have:=fx kH<|yH.2 T;have:=fx bM<|iC.2 T;exact⟨_,(c0 (aK 5)<|c0 (aK 6)<|c0 (dY [] []<|aN<|aW<|aN<|aK 6) aO),rfl⟩
def cG:(List D->Option D)->Sv:=by exists eQ
abbrev Zw(x:Str)(ps:List Str)(k n m:Nat):Type:={b:(List D->Option D)->Sv // ∀ {P:zah} {w:World} {K:zae} {mg:Str->Option Value} {base:Heap},Tx P w K mg base->Fn P w K mg base x (k+2*m+1) ps (i6 n b m)}
def UT(N:List Str)(i:Nat){x:Str}{ps:List Str}{k m:Nat}{b:(List D->Option D)->Sv}(h:∀ {P:zah} {w:World} {K:zae} {mg:Str->Option Value} {base:Heap} {fa:Addr} {cdv:Value} {A:zal} {outer:List Env} {H:Hp} {E:XK} (T:Tx P w K mg base) (R:List D->Option D) (j:Nat) (hj:k<=j) (hj1:k<=j+1) (ih:Fn P w K mg base x j ps R) (s:zab) (nd:N.Nodup) (hr:Room (j+1)<|A.deeper<|zaH x (aF<|top i) s.heap.objs.size fa cdv) (hu:(A.deeper<|zaH x (aF<|top i) s.heap.objs.size fa cdv).units+1<cLine),∃g,PSDs (dC uS P w K mg base N x (aF<|top i) fa cdv A outer s H E).nox ⟨[],[]⟩ [] (bF<|top i) g []/\g=b R)(me:(x,i,ps)∈tab:=by decide +kernel)(sc:FnScope N ps<|aF<|top i:=by exact⟨rfl,rfl,rfl,by decide +kernel,rfl,by decide +kernel,by decide +kernel⟩):Zw x ps k N.length m:=⟨b,λT=>by
 induction m with
 |zero=>exact GO (T.d _ me) sc
 |succ m ih=>exact uJ (T.d _ me) sc λfa cdv A outer s H E hr=>h T _ (k+2*m+1) (by lia) (by lia) ih s sc.nd hr<|hJ hr⟩
local macro_rules | `(tactic|exists $x:ident) => `(tactic|(refine' (?f:∀y:(List D -> Option D) -> Sv, zcX $x = y -> (List D -> Option D) -> Sv) _ ?h;(case h => unfold $x;(try unfold UT);(try unfold KR);(try dsimp only);try exact rfl);(case f => exact λy _ => y)))
def fU:Zw "sum_at" ["atlas", "node", "heads", "kind"] 3 7 16:=UT ["atlas", "node", "heads", "kind", "key", "total", "choice"] 25 λT R j z F ih s N G J=>by have:=fx dW<|g7.2 T;have:=fx mV<|AB.2 T;have q:=fx (bE 10<|cG R)<|eQ.2 T R j z ih;exact⟨_,(c0 (aK 4<|oE (lW (by trivial)<|lW (qh jO T.n My.boot_tuple<|Z8 (PD.b<|PF.d<|eX s ["x", "heads"] [cb,bx 2])<|by trivial)<|by trivial) λρ ds h=>(by have:=(lc<|lc l0) ρ ds h;lia))<|NX 1 4 5 T.o_Node.cls (T.o_Node.na _<|by decide) (hu2 G) (aK 5) (dY [] []<|aN<|aK 5) (pv 1) (pv 1) (pv 1) (pv 4) (pv 4) (pv 4) (pv 5) λ_ _=>rfl),rfl⟩
def g8:(List D->Option D)->Sv:=by exists fU
def b9:=i6 7 g8 16
def eS:=bE 10<|cG b9
def tM:ZtF "counts" ["book", "heads", "part"] 37 5:=qbq ["book", "heads", "part", "atlas", "node"] 29 λT s z q F=>by have:=fx cK<|dM.2 T;have:=fx b9<|fU.2 T;exact⟨_,(A5 (O2:=[]) (aK 3<|lM (β:=eC .non) (sE T) (q.mono<|by decide) rfl<|by trivial)<|A5 (O2:=[]) (aK 4<|lM (β:=aD 0) (qF T 16) (q.mono<|by decide) rfl<|by trivial)<|R7<|eX s ["kind", "atlas", "node", "heads"] [cb,bx 3,bx 4,bx 1] (by trivial) (by intros;trivial) (by intros;trivial) λ_ _ _ _=>(cD (fx cK<|dM.2 T) (q.mono<|by decide) (lW (cD (fx b9<|fU.2 T) (q.mono<|by decide) (lW (by trivial)<|lW (by trivial)<|lW (PF.d<|fTy (mT rfl q.units) T.n My.boot_dict<|by trivial)<|by trivial)<|lc<|lc<|lc<|lc l0)<|by trivial)<|lc l0)),rfl⟩
def zY:Sv:=by exists tM
def tG:=P6 5 zY
def mF:Zt "_law_number" ["script"] 1 3:=gM ["script", "n", "cell"] 61 λT s z q F=>by exact⟨_,(c0 (aK 1)<|c0 (dY [] []<|aN<|aK 1<|bI fX (PD.b<|bI eD (PD.b<|bI cM (by trivial)<|by trivial)<|by trivial)<|by trivial) aO),rfl⟩
def mC:Sv:=by exists mF
def iG:=bE 3 mC
def BB:Zt "parted" ["n", "many"] 1 5:=gM ["n", "many", "numbers", "rest", "size"] 34 λT s z q G=>by exact⟨_,(cO [2] (eJ 2)<|cO [2] (aK 3)<|c0 (dY [2] []<|cO [2] (C8 (i:=2) (pv 2) (by trivial) (by trivial) rfl<|B0 zd6 PySem.F.slot_list_insert PySem.F.type_list_insert My.IQ (pv 2)<|bX (PD.pe<|by trivial)<|bX (PD.pe<|by trivial) eK)<|aN<|aK 3<|bI x9 (by trivial)<|by trivial) aO),rfl⟩
def AQ:Sv:=by exists BB
def tP:=bE 5 AQ
def oU:Zt "assembled" ["part", "choice", "readings", "way"] 2 4:=gM ["part", "choice", "readings", "way"] 17 λT s z q F=>by have:=fx iV<|xY.2 T;exact⟨_,(c0 (aW aO)<|c0 (aW aO) aO),rfl⟩
def fL:Sv:=by exists oU
def gE:=bE 4 fL
def FR:Zt "sizes" ["atlas", "places", "routes"] 37 3:=gM ["atlas", "places", "routes"] 33 λT s z q F=>by have:=fx cK<|dM.2 T;have:=fx b9<|fU.2 T;exact⟨_,(aO<|bI eD (PD.b<|PF.d<|eX s ["one", "known", "at", "atlas"] [cb,cb,cb,bx 0])<|by trivial),rfl⟩
def GE:Sv:=by exists FR
def yK:=bE 3 GE
abbrev Zv1(x:Str)(ps:List Str)(k n:Nat):Type:={b:(List D->Option D)->Sv // ∀ {P:zah} {w:World} {K:zae} {mg:Str->Option Value} {base:Heap},Tx P w K mg base->∀(R:List D->Option D) (j:Nat),k<=j->Fn P w K mg base "told_at" j ["atlas", "node", "heads", "kind", "n"] R->Fn P w K mg base x (j+1) ps (bE n<|b R)}
def VC(N:List Str)(i:Nat){x:Str}{ps:List Str}{k:Nat}{b:(List D->Option D)->Sv}(h:∀ {P:zah} {w:World} {K:zae} {mg:Str->Option Value} {base:Heap} {z:Addr} {q:Value} {A:zal} {outer:List Env} {H:Hp} {E:XK} (T:Tx P w K mg base) (R:List D->Option D) (j:Nat) (G:k<=j) (ih:Fn P w K mg base "told_at" j ["atlas", "node", "heads", "kind", "n"] R) (s:zab) (nd:N.Nodup) (F:Room (j)<|A.deeper<|zaH x (aF<|top i) s.heap.objs.size z q) (hu:(A.deeper<|zaH x (aF<|top i) s.heap.objs.size z q).units+1<cLine),∃g,PSDs (dC uS P w K mg base N x (aF<|top i) z q A outer s H E).nox ⟨[],[]⟩ [] (bF<|top i) g []/\g=b R)(J:(x,i,ps)∈tab:=by decide +kernel)(sc:FnScope N ps<|aF<|top i:=by exact⟨rfl,rfl,rfl,by decide +kernel,rfl,by decide +kernel,by decide +kernel⟩):Zv1 x ps k N.length:=⟨b,λT R j G ih=>uJ (T.d _ J) sc λz q A outer s H E F=>h T R j G ih s sc.nd F<|hJ F⟩
local macro_rules | `(tactic|exists $x:ident) => `(tactic|(refine' (?f:∀y:(List D -> Option D) -> Sv, zcX $x = y -> (List D -> Option D) -> Sv) _ ?h;(case h => unfold $x;(try unfold VC);(try unfold KR);(try unfold UT);(try dsimp only);try exact rfl);(case f => exact λy _ => y)))
def fH:Zv1 "told_choice" ["atlas", "node", "heads", "kind", "choice", "n"] 37 12:=VC ["atlas", "node", "heads", "kind", "choice", "n", "places", "routes", "numbers", "readings", "number", "spot"] 32 λT R j z ih s G q F=>by have:=fx gE<|oU.2 T;have:=fx tP<|BB.2 T;have:=fx yK<|FR.2 T;have:=fx kH<|yH.2 T;have:=fx bM<|iC.2 T;exact⟨_,(c0 (aK 6)<|c0 (aK 7)<|c0 (aK 8)<|cO [9] (eJ 9)<|c0 (dY [9] []<|aN<|kP 9) aO),rfl⟩
def d5:(List D->Option D)->Sv:=by exists fH
def nM:Zw "told_at" ["atlas", "node", "heads", "kind", "n"] 37 8 16:=UT ["atlas", "node", "heads", "kind", "n", "rest", "choice", "many"] 31 λT R j z F ih s N G J=>by have:=fx eS<|eQ.2 T b9 _ (by decide)<|fx b9<|fU.2 T;have:=fx dW<|g7.2 T;have:=fx cK<|dM.2 T;have q:=fx (bE 12<|d5 R)<|fH.2 T R j z ih;exact⟨_,(c0 (aK 5)<|c0 (dY [] []<|c0 (aK 7)<|c0 (aW aO)<|aN<|aK 5) Z3),rfl⟩
def fD:(List D->Option D)->Sv:=by exists nM
def gZ:=i6 8 fD 16
def kL:=bE 12<|d5 gZ
def sc_told_at:FnScope ["atlas", "node", "heads", "kind", "n", "rest", "choice", "many"] ["atlas", "node", "heads", "kind", "n"]<|aF<|top 31:=⟨rfl,rfl,rfl,by decide +kernel,rfl,by decide +kernel,by decide +kernel⟩
def kY:{b:Sv // ∀ {P:zah} {w:World} {K:zae} {mg:Str->Option Value} {base:Heap},Tx P w K mg base->ZOk P w K mg base ["atlas", "node", "heads", "kind", "n", "rest", "choice", "many"] "told_at" (top 31) 71 b}:=⟨_,λT F z A outer s H E q=>by have G:=hJ q;have J:=sc_told_at.nd;have:=fx eS<|eQ.2 T b9 _ (by decide)<|fx b9<|fU.2 T;have:=fx dW<|g7.2 T;have:=fx cK<|dM.2 T;have:=fx kL<|fH.2 T gZ _ (by decide)<|fx gZ<|nM.2 T;exact⟨_,(c0 (aK 5)<|c0 (dY [] []<|c0 (aK 7)<|c0 (aW aO)<|aN<|aK 5) Z3),rfl⟩⟩
def DA:Sv:=by exists kY
def k7:=bE 8 DA
def vM:{g:Xv // ∀ {P:zah} {w:World} {K:zae} {mg:Str->Option Value} {base:Heap},Tx P w K mg base->ZXk P w K mg base ["atlas", "node", "heads", "kind", "n", "rest", "choice", "many"] "told_at" (top 31) 71 g}:=⟨_,λT F z A outer s H E q=>by have G:=hJ q;have J:=sc_told_at.nd;have:=fx eS<|eQ.2 T b9 _ (by decide)<|fx b9<|fU.2 T;have:=fx dW<|g7.2 T;have:=fx cK<|dM.2 T;have:=fx kL<|fH.2 T gZ _ (by decide)<|fx gZ<|nM.2 T;exact⟨_,(sR (O2:=[]) VQ (aK 5)<|sR (O2:=[]) VQ (dY [] []<|c0 (aK 7)<|c0 (aW aO)<|aN<|aK 5)<|xV<|BH rfl rfl T.t_NoReading.cls),rfl⟩⟩
def vL:Xv:=by exists vM
def nO:=K5 8 vL
def vQ{P:zah}{w:World}{K:zae}{mg:Str->Option Value}{base:Heap}(T:Tx P w K mg base):Fn P w K mg base "told_at" 72 ["atlas", "node", "heads", "kind", "n"] k7:=uJ (T.d ("told_at",31,["atlas", "node", "heads", "kind", "n"])<|by decide +kernel) sc_told_at<|kY.2 T
def C9{P:zah}{w:World}{K:zae}{mg:Str->Option Value}{base:Heap}(T:Tx P w K mg base):FnX P w K mg base "told_at" 72 ["atlas", "node", "heads", "kind", "n"] k7 nO:=OJ (T.d ("told_at",31,["atlas", "node", "heads", "kind", "n"])<|by decide +kernel) sc_told_at (kY.2 T)<|vM.2 T
def sc_told:FnScope ["book", "heads", "part", "kind", "n"] ["book", "heads", "part", "kind", "n"]<|aF<|top 30:=⟨rfl,rfl,rfl,by decide +kernel,rfl,by decide +kernel,by decide +kernel⟩
def EH:{b:Sv // ∀ {P:zah} {w:World} {K:zae} {mg:Str->Option Value} {base:Heap},Tx P w K mg base->ZOk P w K mg base ["book", "heads", "part", "kind", "n"] "told" (top 30) 72 b}:=⟨_,λT F z A outer s H E q=>by have G:=hJ q;have J:=sc_told.nd;have:=vQ T;exact⟨_,(c0 V4<|aO<|cD (vQ T) (q.mono<|by decide) (lW (lM (β:=eC .non) (sE T) (q.mono<|by decide) rfl<|by trivial)<|lW (lM (β:=aD 0) (qF T 16) (q.mono<|by decide) rfl<|by trivial)<|lW (PF.d<|fTy (mT rfl q.units) T.n My.boot_dict<|by trivial)<|by trivial)<|lc<|lc<|lc<|lc<|lc l0),rfl⟩⟩
def OW:Sv:=by exists EH
def nV:=bE 5 OW
def N5:{g:Xv // ∀ {P:zah} {w:World} {K:zae} {mg:Str->Option Value} {base:Heap},Tx P w K mg base->ZXk P w K mg base ["book", "heads", "part", "kind", "n"] "told" (top 30) 72 g}:=⟨_,λT F z A outer s H E q=>by have G:=hJ q;have J:=sc_told.nd;exact⟨_,(sR (O2:=[]) (qaP (by trivial) (xV<|BH rfl rfl T.t_NoReading.cls) XR) V4<|xV<|Y2<|MH (C9 T) (q.mono<|by decide) rfl (lW (lM (β:=eC .non) (sE T) (q.mono<|by decide) rfl<|by trivial)<|lW (lM (β:=aD 0) (qF T 16) (q.mono<|by decide) rfl<|by trivial)<|lW (PF.d<|fTy (mT rfl q.units) T.n My.boot_dict<|by trivial)<|by trivial) λρ ds h=>((lc<|lc<|lc<|lc<|lc l0) ρ ds h)),rfl⟩⟩
def N4:Xv:=by exists N5
def yT:=K5 5 N4
def O0{P:zah}{w:World}{K:zae}{mg:Str->Option Value}{base:Heap}(T:Tx P w K mg base):Fn P w K mg base "told" 73 ["book", "heads", "part", "kind", "n"] nV:=uJ (T.d ("told",30,["book", "heads", "part", "kind", "n"])<|by decide +kernel) sc_told<|EH.2 T
def UI{P:zah}{w:World}{K:zae}{mg:Str->Option Value}{base:Heap}(T:Tx P w K mg base):FnX P w K mg base "told" 73 ["book", "heads", "part", "kind", "n"] nV yT:=OJ (T.d ("told",30,["book", "heads", "part", "kind", "n"])<|by decide +kernel) sc_told (EH.2 T)<|N5.2 T
def kK:Zt "_law_refused" ["tome", "heads", "part", "kind", "n"] 74 7:=gM ["tome", "heads", "part", "kind", "n", "found", "e"] 63 λT s F G N=>by exact⟨_,(c0 (aK 5)<|c0 (MY (nn:=7) (ie:=6) (tl:=[("NoReading",[(5,.lst [.bl cf,.bl cf,.bl ci]),(5,.lst [.bl cf,.bl cf,.bl ci,.bl ci,.bl ci])])]) (λ_ _ z=>z) rfl rfl rfl (UI T) (G.mono<|by decide) rfl (by trivial) (λρ ds h=>((lc<|lc<|lc<|lc<|lc l0) ρ ds h)) (List.forall_mem_cons.mpr ⟨⟨_,T.t_NoReading,λC0 ea oe J h0 k sv q=>My.Q6 "e" (λhd=>(My.Q3 (bs:=[cf,cf,ci]) F rfl rfl (by decide) (My.OM (bs:=[cf,cf,ci]) (My.m9 (hd.val rfl T.n sv)<|My.m9 (hd.self rfl h0)<|My.m9 (hd.oth rfl<|q "NoKind"<|by decide) My.O8)<|by decide)<|My.QZ (as:=[cf,cf,ci]) (bs:=[ci,ci]) F rfl rfl (zaZ rfl) (by decide) (My.OM (bs:=[ci,ci]) (My.m9 (hd.oth rfl<|q "NoForm"<|by decide)<|My.m9 (hd.oth rfl<|q "NoHead"<|by decide) My.O8)<|by decide) (by decide) My.HR.nil)) ⟨J,k,rfl,zaZ rfl,rfl,T.n,rfl,rfl⟩⟩,λ_ z=>nomatch z⟩) rfl F rfl rfl (by decide)<|by decide)<|aO<|OI (WP G.units) (by trivial) (by trivial)<|EF _),rfl⟩
def kN:Sv:=by exists kK
def gO:=bE 7 kN
def pH:Zt "_law_whole" ["found"] 1 1:=gM ["found"] 62 λT s z q F=>by exact⟨_,aO,rfl⟩
def zS:Sv:=by exists pH
def oJ:=bE 1 zS
def VN:{b:Sv // ∀ {P:zah} {w:World} {K:zae} {mg:Str->Option Value} {base:Heap},Tx P w K mg base->ZOk P w K mg base ["script", "tome", "names", "pairs", "state", "part", "many", "handed", "found", "k", "n", "kind", "size", "wrong", "kept"] "law" s_law 74 b}:=⟨_,λT G F A outer s H E q=>by have z:=hJ q;have J:=sc_law.nd;have:=fx tG<|FnF.fn<|tM.2 T;have:=fx lI<|qZ.2 T;have:=fx bW<|c7.2 T;have:=fx jN<|pJ.2 T;have:=fx jI<|oY.2 T;have:=fx b7<|iJ.2 T;have:=fx iG<|mF.2 T;have:=fx gO<|kK.2 T;have:=fx oJ<|pH.2 T;have:=O0 T;exact⟨_,(c0 (aK 1)<|c0 (jU 2 s ["k", "script"] [cb,bx 0])<|c0 (aK 3)<|c0 (aK 4)<|c0 (aK 5)<|c0 (aK 6)<|c0 (aK 7)<|cO [8] (eJ 8<|LO (fxF tG<|tM.2 T) (q.mono<|by decide) rfl (by trivial)<|lc<|lc<|lc l0)<|cO [8] (aW<|PSDs.pre (O1:=[]) aO rfl)<|cO [8] (dY [8] [8]<|aN<|aW<|PSDs.pre (O1:=[]) aO rfl)<|cO [8] (aW<|PSDs.pre (O1:=[]) aO rfl)<|cO [8] (aK 10)<|cO [8] (aK 11<|GD z (by trivial) (PD.b<|bI fX (PD.b<|bI x9 (by trivial)<|by trivial)<|by trivial) λ_ _=>rfl)<|cO [8] (aK 12)<|cO [8] (aW (PSDs.pre (O1:=[]) aO rfl)<|PDW.pt<|GN (by trivial)<|BL<|GB<|G5<|uA kit_tuple (by rfl) T.n (by rfl) T.n My.boot_tuple<|PD.b<|cD (O0 T) (q.mono<|by decide) (lW (by trivial)<|lW (by trivial)<|lW (by trivial)<|lW (by trivial)<|lW (bI fX (PD.b<|bI x9 (by trivial)<|by trivial)<|by trivial)<|by trivial)<|lc<|lc<|lc<|lc<|lc l0)<|cO [8] (aW<|PSDs.pre (O1:=[]) aO rfl)<|cO [8] (dY [8] [8]<|aN<|aW<|PSDs.pre (O1:=[]) aO rfl)<|cO [8] (aK 14)<|cO [8] (kP 8)<|c0 (wK 8) aO),rfl⟩⟩
def P4:Sv:=by exists VN
def dO(ns:List Int):∃f:Int->Int,∀k:Int,0<=k->k<=1000->bW [.lst<|ns.map .int,.int k]=bx (.int<|f k)/\0<=f k/\f k<10^60:=by
 have h:∀k:Int,∃c:Int,0<=k->k<=1000->bW [.lst<|ns.map .int,.int k]=bx (.int c)/\0<=c/\c<10^60:=λk=>by
  by_cases h0:0<=k
  .by_cases h1:k<=1000
   .by_cases F:k<(ns.length:Int)
    .obtain⟨c,N,_⟩:=fT h0 F
     have c0:=zat c (show(10^60:Int)≠0 by decide +kernel);have J:=zau c (show(0:Int)<10^60 by decide +kernel);refine⟨c%10^60,λ_ _=>⟨aL ?_,c0,J⟩⟩;simp_all[iM,aH,F,N,HX,bO]
    .have fin:∀y:Int,(0<=y%2147483647/11)/\y%2147483647/11<10^60:=λy=>by
      have a:=zat y (show(2147483647:Int)≠0 by decide);have b:=zau y (show(0:Int)<2147483647 by decide);generalize y%2147483647=z at a b;have:(10:Int)^60=1000000000000000000000000000000000000000000000000000000000000:=by decide +kernel
      lia
     have m1:cV (.int k) (.int k)=bx (.int<|k*k):=cE (by lia) (by lia) (by lia) (by lia);have U:=D4 (show -(10000:Int)<k by lia) (show k<10000 by lia) (show -(10000:Int)<k by lia) (show k<10000 by lia);generalize k*k=p at m1 U;by_cases G:(0:Int)<(ns.length:Int)
     .have q:0<ns.length:=by lia
      have m5:cV (.int 5) (.int k)=bx (.int<|5*k):=cE (by decide +kernel) (by decide +kernel) (by lia) (by lia);have Y:=zat k<|zaX G;have W:=zau k G;obtain⟨c,N,_⟩:=fT Y W;have c0:=zat c (show(1000003:Int)≠0 by decide);have J:=zau c (show(0:Int)<1000003 by decide);generalize hx:c%1000003=x at c0 J;have m3:cV (.int<|5*k) (.int x)=bx (.int<|5*k*x):=cE (by lia) (by lia) (by lia) (by lia);have b3:=D4 (show -(100000:Int)<5*k by lia) (show 5*k<100000 by lia) (show -(1000000000:Int)<x by lia) (show x<1000000000 by lia);generalize 5*k*x=y at m3 b3;have m4:cV (.int<|3+p+y) (.int 69621)=bx (.int<|(3+p+y)*69621):=cE (by lia) (by lia) (by decide +kernel) (by decide +kernel);refine⟨(3+p+y)*69621%2147483647/11,λ_ _=>⟨aL ?_,(fin _).1,(fin _).2⟩⟩;simp_all[iM,aH,F,m1,q,m5,N,bO G,bO,g9,hx,m3,m4]
     .have q:¬ 0<ns.length:=by lia
      have m4:cV (.int<|3+p) (.int 69621)=bx (.int<|(3+p)*69621):=cE (by lia) (by lia) (by decide +kernel) (by decide +kernel);refine⟨(3+p)*69621%2147483647/11,λ_ _=>⟨aL ?_,(fin _).1,(fin _).2⟩⟩;simp_all[iM,aH,F,m1,q,bO,g9,m4]
   .exact⟨0,λ_ z=>absurd z h1⟩
  .exact⟨0,λz=>absurd z h0⟩
 exact⟨λk=>(h k).choose,λk=>(h k).choose_spec⟩
def SK{ss:List Str}(h:∀s∈ss,∃n,s=⟨#[n]⟩):(ss.map (·.length)).sum=ss.length:=by
 induction ss with
 |nil=>rfl
 |cons s ss ih=>
  obtain⟨n,rfl⟩:=h s<|zar ..;rw[zan,zbw,ih λt q=>h t<|zaq _ q,zaA];show 1+ss.length=ss.length+1
  lia
def fP(n:Nat):aQ 0 1 n=((zas n).map λ(j:Nat)=>(j:Int)).map D.int:=by
 unfold aQ;rw[zav];refine List.map_congr_left λa _=>?_
 show D.int _=D.int _;have:(0:Int)+(a:Int)*1=(a:Int):=by lia
 rw[this]
def sg(S:Str)(i:Int):Nat:=S.cps.toList.getD i.toNat 0
def UD(G:z.length<=1000)(h0:0<=i)(h:i<(z.length:Int)):aJ (.str z) (.int i)=bx (.str ⟨#[sg z i]⟩):=by
 obtain⟨j,rfl⟩:∃j:Nat,i=(j:Int):=⟨i.toNat,by lia⟩;have q:j<z.cps.toList.length:=by rw[zbW];show j<z.length;lia
 have e:gC z.cps.toList (j:Int)=bx z.cps.toList[j]:=bS (by simp_all[q]);have F:sg z (j:Int)=z.cps.toList[j]:=by
  unfold sg;rw[zbG,zdm,za0 q];rfl
 rw[F];show(if aZ z.length then(gC z.cps.toList (j:Int)).map (λc=>D.str ⟨#[c]⟩)else cb)=_;rw[ck<|show aZ z.length=cf from decide_eq_true<|by lia,e];rfl
theorem join_ones:∀l:List Nat,(zcY ""<|l.map λg=>(⟨#[g]⟩:Str)).cps.toList=l
 |[]=>rfl
 |[g]=>rfl
 |g::g'::l=>by
  have ih:=join_ones<|g'::l;show((⟨#[g]⟩:Str) ++ "" ++ zcY "" ((g'::l).map λg=>(⟨#[g]⟩:Str))).cps.toList=_;have e:∀a b:Str,(a++b).cps=a.cps++b.cps:=λ_ _=>rfl
  rw[e,e,Array.toList_append,Array.toList_append,ih];rfl
def ML:Txt.join sep ys=zcY sep ys:=by
 have:=join_closes (sep:=sep) (sep':=sep) (ys:=ys) rfl;simpa using this
def LU(l:List Nat):((l.map λg=>(⟨#[g]⟩:Str)).map (·.length)).sum=l.length:=by
 rw[SK (ss:=l.map λg=>(⟨#[g]⟩:Str)) λs hs=>by obtain⟨g,_,rfl⟩:=List.mem_map.mp hs;exact⟨g,rfl⟩,zak]
def S1:Str := "abcdfghjklmnopqrstuvwxyz"
def S2:Str := "abcdfghjklmnopqrstuvwxyz" ++ "ei"
def DY:S1.length=24:=by decide +kernel
def PM:S2.length=26:=by decide +kernel
def qax:S1.cps.toList.Nodup:=by decide +kernel
def qaw:S2.cps.toList.Nodup:=by decide +kernel
def PL(h:S.cps.toList.Nodup)(J:0<=i)(G:i<(S.length:Int))(N:0<=j)(U:j<(S.length:Int))(e:sg S i=sg S j):i=j:=by
 have F:i.toNat<S.cps.toList.length:=by rw[zbW];show i.toNat<S.length;lia
 have z:j.toNat<S.cps.toList.length:=by rw[zbW];show j.toNat<S.length;lia
 unfold sg at e;rw[zdm,za0 F,zdm,za0 z]at e;have q:S.cps.toList[i.toNat]=S.cps.toList[j.toNat]:=e;have:=(zei h).mp q
 lia
def NmP(x n:Int)(s:Str):Prop:=(x%3=0->(s.length:Int)=1+n%8)/\(¬ x%3=0->∃(S:Str) (L a b:Int),((S=S1/\L=24/\¬ 5<1+x/3%8)\/(S=S2/\L=26/\5<1+x/3%8))/\a=x/24%(1+x/3%8)/\b=(x/(31+7*a)+a*a)%L/\s.cps.toList[a.toNat]?=bx (sg S<|(b+n)%L))
def XS(Y:0<=n/\n<=7)(hm:0<=m/\m<=7)(a:NmP x n s)(b:NmP x m s):n=m:=by
 by_cases h:x%3=0
 .have:=a.1 h
  have:=b.1 h
  lia
 .obtain⟨S,L,p,q,U,rfl,rfl,e⟩:=a.2 h
  obtain⟨S',L',p',W,F,rfl,rfl,N⟩:=b.2 h;rw[e]at N;have J:=zay N;rcases U with⟨rfl,rfl,z⟩|⟨rfl,rfl,z⟩
  .rcases F with⟨rfl,rfl,G⟩|⟨rfl,rfl,G⟩
   .generalize (x/(31+7*(x/24%(1+x/3%8)))+x/24%(1+x/3%8)*(x/24%(1+x/3%8)))%24=q at J
    have l:=DY;have:=PL qax (zat _<|by decide) (by rw[l];exact zau _<|by decide) (zat _<|by decide) (by rw[l];exact zau _<|by decide) J
    lia
   .exact absurd G z
  .rcases F with⟨rfl,rfl,G⟩|⟨rfl,rfl,G⟩
   .exact absurd z G
   .generalize (x/(31+7*(x/24%(1+x/3%8)))+x/24%(1+x/3%8)*(x/24%(1+x/3%8)))%26=q at J
    have l:=PM;have:=PL qaw (zat _<|by decide) (by rw[l];exact zau _<|by decide) (zat _<|by decide) (by rw[l];exact zau _<|by decide) J
    lia
def pF(h0:0<=n)(h1:n<=1000):∃s:Str,b7 [.int c,.int n]=bx (.str s)/\NmP (c%10^9) n s:=by
 suffices h:∃d,b7 [.int c,.int n]=bx d/\∃s:Str,d=.str s/\NmP (c%10^9) n s by
  obtain⟨d,e,s,rfl,h⟩:=h;exact⟨s,e,h⟩
 refine dQ ?_;unfold qN;have c0:=zat c (show(10^9:Int)≠0 by decide);have c1:=zau c (show(0:Int)<10^9 by decide);rw[aE<|aM (d:=.int<|c%10^9)<|by ac_rfl];generalize c%10^9=x at c0 c1;have m0:=zat (x/3) (show(8:Int)≠0 by decide);have m1:=zau (x/3) (show(0:Int)<8 by decide);rw[aE<|aM (d:=.int<|1+x/3%8)<|by ac_rfl];generalize hm:1+x/3%8=many;rw[aE<|aM (d:=.str "abcdfghjklmnopqrstuvwxyz")<|by simp_all];refine fQ (λρ=>∃(S:Str) (L:Int),(S.length:Int)=L/\24<=L/\L<=26/\(x%3=0\/(S=S1/\L=24/\¬ 5<many)\/(S=S2/\L=26/\5<many))/\ρ=[bx<|.int x,bx<|.int n,bx<|.int many,bx<|.str S,cb,cb]) ?_ ?_
 .have x0:=zat x (show(3:Int)≠0 by decide)
  by_cases J:0<x%3
  .by_cases h5:5<many
   .refine⟨_,?_,S2,26,by rw[PM];rfl,by decide,by decide,.inr<|.inr ⟨rfl,rfl,h5⟩,rfl⟩
    have z:aZ (("abcdfghjklmnopqrstuvwxyz" : Str).length+("ei" : Str).length)=cf:=by decide
    ac_rfl
   .exact⟨_,by ac_rfl,S1,24,by rw[DY];rfl,by decide,by decide,.inr<|.inl ⟨rfl,rfl,h5⟩,rfl⟩
  .exact⟨_,by ac_rfl,S1,24,by rw[DY];rfl,by decide,by decide,.inl<|by lia,rfl⟩
 .rintro ρ ⟨S,L,ac,s1,s2,hS,rfl⟩
  have sL:gB [.str S]=bx (.int L):=by rw[<- ac];exact ck<|decide_eq_true<|by lia
  have sp:(0:Int)<L:=by lia
  have sl:(S.length:Int)=L:=ac;have r8:bY [.int 8]=bx (aQ 0 1 8):=cF (n:=8) (by decide);have el:bD (aS 0) fN (bB dI (bB dR (bB hV (aD 1)<|bB dR (eC<|.int 31)<|bB cV (eC<|.int 7)<|aD 0)<|bB cV (aD 0)<|aD 0)<|aR gB<|aC (aD 2) aY) (aQ 0 1 8) [cb,bx<|.int x,bx<|.str S]=bx (((zas 8).map λ(k:Nat)=>(x/(31+7*(k:Int))+(k:Int)*(k:Int))%L).map .int):=by
   have:=jT (K:=8) (f:=bB dI (bB dR (bB hV (aD 1)<|bB dR (eC<|.int 31)<|bB cV (eC<|.int 7)<|aD 0)<|bB cV (aD 0)<|aD 0)<|aR gB<|aC (aD 2) aY) (rest:=[bx<|.int x,bx<|.str S]) (F:=λi=>.int<|(x/(31+7*i)+i*i)%L) (λi i0 i1=>by
    have q1:cV (.int 7) (.int i)=bx (.int<|7*i):=cE (by decide +kernel) (by decide +kernel) (by lia) (by lia);have q2:cV (.int i) (.int i)=bx (.int<|i*i):=cE (by lia) (by lia) (by lia) (by lia);have q3:hV (.int x) (.int<|31+7*i)=bx (.int<|x/(31+7*i)):=g9 (by lia)<|by lia
    ac_rfl) (zas 8) cb λk hk=>List.mem_range.mp hk
   rw[zav];have er:aQ 0 1 8=(zas 8).map λ(k:Nat)=>D.int (k:Int):=by
    rw[fP,zav];rfl
   rw[er];exact this
  have ae:∀i∈(zas 8).map λ(k:Nat)=>(x/(31+7*(k:Int))+(k:Int)*(k:Int))%L,0<=i/\i<L:=λi hi=>by
   obtain⟨k,_,rfl⟩:=List.mem_map.mp hi;exact⟨zat _<|zaX sp,zau _ sp⟩
  have aa:∀a:Int,0<=a->a<8->((zas 8).map λ(k:Nat)=>(x/(31+7*(k:Int))+(k:Int)*(k:Int))%L)[a.toNat]?=bx ((x/(31+7*a)+a*a)%L):=λa a0 a8=>by
   obtain⟨j,rfl⟩:∃j:Nat,a=(j:Int):=⟨a.toNat,by lia⟩;rw[zbG,zaD,zdf<|by lia];rfl
  have W:((zas 8).map λ(k:Nat)=>(x/(31+7*(k:Int))+(k:Int)*(k:Int))%L).length=8:=by simp_all
  rw[aE<|aM (d:=.lst<|((zas 8).map λ(k:Nat)=>(x/(31+7*(k:Int))+(k:Int)*(k:Int))%L).map .int)<|by
   simp only[q_comp,q_lR,q_lcons,q_lnil,q_c,aA,r8,bH,aZ,hW];exact congrArg (Option.map D.lst) el]
  generalize ((zas 8).map λ(k:Nat)=>(x/(31+7*(k:Int))+(k:Int)*(k:Int))%L)=is at ae aa W;refine fQ (λρ=>∃(q:List Int) (m:Int) (o:Option D),0<=m/\m<=8/\q.length=8/\(∀j∈q,0<=j/\j<L)/\(x%3=0->m=1+n%8)/\(¬ x%3=0->m=many/\q[(x/24%many).toNat]?=bx (((x/(31+7*(x/24%many))+(x/24%many)*(x/24%many))%L+n)%L))/\ρ=[bx<|.int x,bx<|.int n,bx<|.int m,bx<|.str S,bx<|.lst<|q.map .int,o]) ?_ ?_
  .have put:∀k y:Int,0<=k->k<8->(is.set k.toNat<|y%L).length=8/\(∀j∈is.set k.toNat (y%L),0<=j/\j<L)/\kJ (.lst<|is.map .int) (.int k) (.int<|y%L)=bx (.lst<|(is.set k.toNat<|y%L).map .int):=λk y k0 k8=>by
    refine⟨by simp_all[W],λj U=>?_,?_⟩
    .rcases List.mem_or_eq_of_mem_set U with z|z
     .exact ae j z
     .rw[z];exact⟨zat _<|zaX sp,zau _ sp⟩
    .rw[lP k0<|by simp_all[W];lia,List.map_set]
   by_cases J:x%3=0
   .have n0:=zat n (show(8:Int)≠0 by decide)
    have n1:=zau n (show(0:Int)<8 by decide);obtain⟨v,hv,_⟩:=fT (ns:=is) (k:=1+n%8-1) (by lia) (by rw[W];lia);obtain⟨j8,U,ej⟩:=put (1+n%8-1) (v+n/8) (by lia) (by lia);refine⟨_,?_,is.set (1+n%8-1).toNat<|(v+n/8)%L,1+n%8,cb,by lia,by lia,j8,U,λ_=>rfl,λz=>absurd J z,rfl⟩
    ac_rfl
   .have mp:0<many:=by lia
    have a0:=zat (x/24)<|zaX mp;have a1:=zau (x/24) mp;have ha:=aa (x/24%many) a0 (by lia);obtain⟨v,hv,G⟩:=fT (ns:=is) (k:=x/24%many) a0 (by rw[W];lia);rw[ha]at G;have ak:=zay G;obtain⟨j8,U,ej⟩:=put (x/24%many) (v+n) a0 (by lia);refine⟨_,?_,is.set (x/24%many).toNat<|(v+n)%L,many,bx<|.int<|x/24%many,by lia,by lia,j8,U,λz=>absurd z J,λ_=>⟨rfl,?_⟩,rfl⟩
    .ac_rfl
    .rw[zcG (by rw[W];lia),ak]
  .rintro ρ ⟨q,m,o,m0,m8,j8,U,hA,hB,rfl⟩
   have rm:bY [.int m]=bx (aQ 0 1 m.toNat):=eI m0 (by lia);have ed:=jT (K:=m.toNat) (f:=bB aJ (aD 1)<|bB aJ (aD 2)<|aD 0) (rest:=[bx<|.str S,bx<|.lst<|q.map .int]) (F:=λi=>.str ⟨#[sg S<|q.getD i.toNat 0]⟩) (λi i0 i1=>by
    obtain⟨v,hv,G⟩:=fT (ns:=q) (k:=i) i0 (by rw[j8];lia);have b:=U v<|zax G;have e:q.getD i.toNat 0=v:=by rw[zdm,G];rfl
    have a2:=UD (z:=S) (by lia) b.1 (by rw[sl];exact b.2);rw[e]
    ac_rfl) (zas m.toNat) cb λk hk=>List.mem_range.mp hk
   have er:aQ 0 1 m.toNat=(zas m.toNat).map λ(k:Nat)=>D.int (k:Int):=by
    rw[fP,zav];rfl
   have es:((zas m.toNat).map λ(k:Nat)=>D.str ⟨#[sg S<|q.getD ((k:Int)).toNat 0]⟩)=(((zas m.toNat).map λ(k:Nat)=>sg S<|q.getD k 0).map λg=>(⟨#[g]⟩:Str)).map .str:=by
    rw[zav,zav];rfl
   rw[<- er,es]at ed;have hl:((zas m.toNat).map λ(k:Nat)=>sg S<|q.getD k 0).length=m.toNat:=by simp_all
   have N:∀a:Int,0<=a->a<m->((zas m.toNat).map λ(k:Nat)=>sg S<|q.getD k 0)[a.toNat]?=bx (sg S<|q.getD a.toNat 0):=λa a0 am=>by
    rw[zaD,zdf<|by lia];rfl
   generalize ((zas m.toNat).map λ(k:Nat)=>sg S<|q.getD k 0)=gs at ed hl N;have jn:=ZM (sep := "") (ss:=gs.map λg=>(⟨#[g]⟩:Str)) (by
    rw[LU,zak];show gs.length+gs.length*0<=_
    lia)
   rw[ML]at jn;have zz:aZ m.toNat=cf:=decide_eq_true (by lia);have jo:=join_ones gs;generalize (gs.map λg=>(⟨#[g]⟩:Str))=ss at ed jn jo;refine⟨.str<|zcY "" ss,?_,_,rfl,λJ=>?_,λJ=>?_⟩
   .simp_all[rm,bH,zz,hW,ed,jn]
   .have e1:=hA J
    have:(zcY "" ss).length=m.toNat:=by
     show(zcY "" ss).cps.size=_;rw[<- zbW,jo,hl]
    lia
   .obtain⟨em,ej⟩:=hB J
    have Y:(S=S1/\L=24/\¬ 5<many)\/(S=S2/\L=26/\5<many):=hS.resolve_left J;have mp:0<many:=by lia
    have a0:=zat (x/24)<|zaX mp;have a1:=zau (x/24) mp;rw[<- hm]at Y em ej a0 a1;refine⟨S,L,_,_,Y,rfl,rfl,?_⟩;rw[jo,N _ a0<|by lia,zdm,ej];rfl
def rG(h0:0<=n)(h1:n<=1000):∃s:Str,b7 [.int c,.int n]=bx (.str s):=by
 obtain⟨s,h,_⟩:=pF (c:=c) h0 h1;exact⟨s,h⟩
def Q2(c:Int):∃f:Int->Str,(∀n,0<=n->n<=7->b7 [.int c,.int n]=bx (.str<|f n))/\∀n m,(0<=n/\n<=7)->(0<=m/\m<=7)->f n=f m->n=m:=by
 have h:∀n:Int,∃s:Str,0<=n->n<=7->b7 [.int c,.int n]=bx (.str s)/\NmP (c%10^9) n s:=λn=>by
  by_cases h0:0<=n/\n<=7
  .obtain⟨s,e,p⟩:=pF (c:=c) (n:=n) h0.1 (by lia)
   exact⟨s,λ_ _=>⟨e,p⟩⟩
  .exact⟨"",λa b=>absurd ⟨a,b⟩ h0⟩
 refine⟨λn=>(h n).choose,λn a b=>((h n).choose_spec a b).1,λn m z F e=>?_⟩;have p:=((h n).choose_spec z.1 z.2).2;have q:=((h m).choose_spec F.1 F.2).2;have G:(h n).choose=(h m).choose:=e;rw[G]at p;exact XS z F p q
def oW(h0:0<=c)(h1:c<10^61):∃p:Int,jH [.int c]=bx (.int p)/\0<=p/\p<=10^30:=by
 have q:(10:Int)^30=1000000000000000000000000000000:=by decide +kernel
 by_cases h:c%2=0
 .have a:=zat (c/2) (show(3:Int)≠0 by decide)
  have b:=zau (c/2) (show(0:Int)<3 by decide);exact⟨c/2%3,aL<|by simp_all[jB,aH,bO,g9,h],a,by lia⟩
 .have F:cV (.int<|c/2) (.int 982451653)=bx (.int<|c/2*982451653):=cE (by lia) (by lia) (by decide +kernel) (by decide +kernel)
  have a:=zat (c/2*982451653) (show(1000000000000000000000000000000:Int)≠0 by decide);have b:=zau (c/2*982451653) (show(0:Int)<1000000000000000000000000000000 by decide);have pw:P9 (.int 10) (.int 30)=bx (.int 1000000000000000000000000000000):=HX (by decide) (by decide) (by decide);have z:dI (.int<|c/2*982451653) (.int 1000000000000000000000000000000)=bx (.int<|c/2*982451653%1000000000000000000000000000000):=bO (by decide);exact⟨_,aL<|by simp_all[jB,aH,bO,g9,h,F,pw,z],a,by lia⟩
def rW(hM:3<=M)(h0:0<=c)(h1:c<10^60):∃r:Ro,lB [.int c,.int M,.int j,.int k]=bx (kW r)/\r.j=j/\r.k=k/\((0<=r.a/\r.a<M)/\0<=r.b/\r.b<M)/\0<=r.p/\r.p<=10^30:=by
 suffices h:∃d,lB [.int c,.int M,.int j,.int k]=bx d/\∃r:Ro,d=kW r/\r.j=j/\r.k=k/\((0<=r.a/\r.a<M)/\0<=r.b/\r.b<M)/\0<=r.p/\r.p<=10^30 by
  obtain⟨d,e,r,rfl,h⟩:=h;exact⟨r,e,h⟩
 have W:=Ten
 have q:0<M:=by lia
 refine dQ ?_;unfold rN;have m1:cV (.int<|c/40+1) (.int 48271)=bx (.int<|(c/40+1)*48271):=cE (by lia) (by lia) (by decide +kernel) (by decide +kernel);have m2:cV (.int<|c/640) (.int 69621)=bx (.int<|c/640*69621):=cE (by lia) (by lia) (by decide +kernel) (by decide +kernel);have a0:=zat ((c/40+1)*48271)<|zaX q;have F:=zau ((c/40+1)*48271) q;have z:=zat (c/9+c/640*69621)<|zaX q;have G:=zau (c/9+c/640*69621) q;rw[aE<|aM (d:=.int<|(c/40+1)*48271%M)<|by ac_rfl];rw[aE<|aM (d:=.int<|(c/9+c/640*69621)%M)<|by ac_rfl];generalize (c/40+1)*48271%M=a at a0 F;generalize (c/9+c/640*69621)%M=b at z G;refine fQ (λρ=>∃a:Int,(0<=a/\a<M)/\ρ=[bx<|.int c,bx<|.int M,bx<|.int j,bx<|.int k,bx<|.int a,bx<|.int b]) ?_ ?_
 .by_cases h:c%5=0
  .exact⟨_,by ac_rfl,1,⟨by decide,by lia⟩,rfl⟩
  .exact⟨_,by ac_rfl,a,⟨a0,F⟩,rfl⟩
 .rintro ρ ⟨a,J,rfl⟩
  refine fQ (λρ=>∃b:Int,(0<=b/\b<M)/\ρ=[bx<|.int c,bx<|.int M,bx<|.int j,bx<|.int k,bx<|.int a,bx<|.int b]) ?_ ?_
  .by_cases h:c%3=0
   .exact⟨_,by ac_rfl,0,⟨by decide,by lia⟩,rfl⟩
   .exact⟨_,by ac_rfl,b,⟨z,G⟩,rfl⟩
  .rintro ρ ⟨b,U,rfl⟩
   obtain⟨p,ep,Y,N⟩:=oW (c:=c/16) (by lia) (by lia);exact⟨kW ⟨j,k,a,b,p⟩,by simp_all[g9,ep,kW],_,rfl,rfl,rfl,⟨J,U⟩,Y,N⟩
def zD{ns:List Int}{M many:Int}(hM:3<=M)(hm:1<=many/\many<=6):∃rs:List Ro,jE [.lst<|ns.map .int,.int M,.int many]=bx (.tup<|rs.map kW)/\GR M many rs:=by
 suffices h:∃d,jE [.lst<|ns.map .int,.int M,.int many]=bx d/\∃rs:List Ro,d=.tup (rs.map kW)/\GR M many rs by
  obtain⟨d,e,r,rfl,h⟩:=h;exact⟨r,e,h⟩
 obtain⟨f,hf⟩:=dO ns;have f2:=(hf 2 (by decide)<|by decide).1;refine dQ ?_;unfold pB;rw[aE<|aM (d:=.int<|f 2)<|by ac_rfl];generalize f 2=c2;rw[aE<|aM (d:=.lst [])<|by simp_all];have z0:=zat c2 (show(7:Int)≠0 by decide);have z1:=zau c2 (show(0:Int)<7 by decide);refine iW (items:=aQ 0 1 (c2%7).toNat) (by simp_all[aH,bO,eI z0<|show c2%7<=1000000 by lia]) (λi ρ=>∃(rs:List Ro) (o5 U N J:Option D),ρ=[bx<|.lst<|ns.map .int,bx<|.int M,bx<|.int many,bx<|.int c2,bx<|.lst<|rs.map kW,o5,U,N,J]/\rs.length<=i/\i<=6/\GR M many rs) ⟨[],cb,cb,cb,cb,by ac_rfl,by simp_all,by decide,⟨by simp_all,λ_ h=>(nomatch h),λ_ h=>(nomatch h),λ_ h=>(nomatch h)⟩⟩ ?_ ?_
 .rintro i x ρ hx ⟨rs,o5,U,N,J,rfl,hl,hi,g⟩
  obtain⟨aq,rfl⟩:=bV hx;have hI:0<=(0:Int)+(i:Int)*1/\(0:Int)+(i:Int)*1<=6:=by lia
  generalize (0:Int)+(i:Int)*1=I at hI;have F:=hf (3+I) (by lia) (by lia);generalize f (3+I)=near at F;have f1:=F.1;by_cases h1:1<many
  .have G:0<many-1:=by lia
   have j0:=zat near<|zaX G;have j1:=zau near G;have dj:dI (.int near) (.int<|many-1)=bx (.int<|near%(many-1)):=bO G;generalize near%(many-1)=j at j0 j1 dj;have Y:0<many-1-j:=by lia
   have k0:=zat (near/8)<|zaX Y;have k1:=zau (near/8) Y;have dk:dI (.int<|near/8) (.int<|many-1-j)=bx (.int<|near/8%(many-1-j)):=bO Y;generalize near/8%(many-1-j)=k at k0 k1 dk;have u0:=zat I<|zaX G;have u1:=zau I G;have du:dI (.int I) (.int<|many-1)=bx (.int<|I%(many-1)):=bO G;generalize I%(many-1)=u at u0 u1 du;have hz:(rs.map kW).length<=1000000:=by rw[zak];lia
   have dg:uR (.int many) (.int 1)=bx (.bl cf):=by simp_all[h1]
   have me:∀r,(rs++[r]).map kW=rs.map kW++[kW r]:=λr=>by simp_all
   have fin:∀r:Ro,(0<=r.j/\r.j<r.k/\r.k<many)->((0<=r.a/\r.a<M)/\0<=r.b/\r.b<M)->(0<=r.p/\r.p<=10^30)->GR M many (rs++[r]):=λr a b c=>by
    have app:∀ {P:Ro->Prop},(∀r∈rs,P r)->P r->∀y∈rs++[r],P y:=λh1 h2 y hy=>by
     rcases List.mem_append.mp hy with z|z
     .exact h1 y z
     .rw[List.mem_singleton.mp z];exact h2
    exact⟨by simp_all;lia,app g.jk a,app g.ab b,app g.pr c⟩
   by_cases h2:c2/7%2=1
   .obtain⟨r,er,rj,rk,q,W⟩:=rW (c:=near) (M:=M) (j:=u) (k:=u+1) hM F.2.1 F.2.2
    refine⟨[bx<|.lst<|ns.map .int,bx<|.int M,bx<|.int many,bx<|.int c2,bx<|.lst<|(rs++[r]).map kW,bx<|.int I,bx<|.int near,bx<|.int u,bx<|.int<|u+1],?_,_,_,_,_,_,rfl,by simp_all;lia,by lia,fin r (by lia) q W⟩;have de:kI (.int<|c2/7%2) (.int 1)=bx (.bl cf):=by simp_all[h2]
    rw[me]
    ac_rfl
   .obtain⟨r,er,rj,rk,q,W⟩:=rW (c:=near) (M:=M) (j:=j) (k:=j+1+k) hM F.2.1 F.2.2
    refine⟨[bx<|.lst<|ns.map .int,bx<|.int M,bx<|.int many,bx<|.int c2,bx<|.lst<|(rs++[r]).map kW,bx<|.int I,bx<|.int near,bx<|.int j,bx<|.int<|j+1+k],?_,_,_,_,_,_,rfl,by simp_all;lia,by lia,fin r (by lia) q W⟩;have de:kI (.int<|c2/7%2) (.int 1)=bx (.bl ci):=by simp_all[h2]
    rw[me]
    ac_rfl
  .refine⟨[bx<|.lst<|ns.map .int,bx<|.int M,bx<|.int many,bx<|.int c2,bx<|.lst<|rs.map kW,bx<|.int I,bx<|.int near,N,J],?_,rs,_,_,_,_,rfl,by lia,by lia,g⟩
   have dg:uR (.int many) (.int 1)=bx (.bl ci):=by simp_all[h1]
   ac_rfl
 .rintro ρ ⟨rs,o5,U,N,J,rfl,hl,hi,g⟩
  exact⟨_,by simp_all,rs,rfl,g⟩
def pL(hM:3<=M)(h0:0<=c)(h1:c<10^60):∃l,jJ [.int c,.int M,.int n]=bx (.tup l):=by
 suffices h:∃d,jJ [.int c,.int M,.int n]=bx d/\∃l,d=.tup l by
  obtain⟨d,e,l,rfl⟩:=h;exact⟨l,e⟩
 have ac:=Ten
 have Mp:0<M:=by lia
 refine dQ ?_;unfold oV;have r3:bY [.int 3]=bx [.int 0,.int 1,.int 2]:=rfl;have s3:aZ 3=cf:=rfl;have W:aZ 9=cf:=rfl;rw[aE<|aM (d:=.lst [.tup [.int 0],.tup [.int 1],.tup [.int 2]])<|by ac_rfl];refine fQ (λρ=>∃es:List D,1<=es.length/\es.length<=9/\ρ=[bx<|.int c,bx<|.int M,bx<|.int n,bx<|.lst es,cb,cb,cb,cb]) ?_ ?_
 .by_cases h:n=2
  .subst h
   obtain⟨es,N,le,_⟩:=yF (f:=fA<|aC (bB hV (aD 0)<|eC<|.int 3)<|aC (bB dI (aD 0)<|eC<|.int 3) aY) (rest:=[]) (R:=λ_=>True) (aQ 0 1 9) cb λa ha=>by
    obtain⟨i,rfl,i0,i1⟩:=vF ha;exact⟨.tup [.int<|i/3,.int<|i%3],by ac_rfl,trivial⟩
   have r9:bY [.int 9]=bx (aQ 0 1 9):=cF (n:=9) (by decide);rw[bH]at le;exact⟨[bx<|.int c,bx<|.int M,bx<|.int 2,bx<|.lst es,cb,cb,cb,cb],by simp_all[aH,r9,W,hW,bH,N],es,by lia,by lia,rfl⟩
  .exact⟨_,by ac_rfl,[.tup [.int 0],.tup [.int 1],.tup [.int 2]],by simp_all,by simp_all,rfl⟩
 .rintro ρ ⟨es,e1,e9,rfl⟩
  rw[aE<|aM (d:=.lst [])<|by simp_all];refine iW (items:=aQ 0 1 es.length) (by simp_all[cF<|show es.length<=1000000 by lia]) (λi ρ=>∃(l:List D) (G q J:Option D),ρ=[bx<|.int c,bx<|.int M,bx<|.int n,bx<|.lst es,bx<|.lst l,G,q,J]/\l.length<=i) ⟨[],cb,cb,cb,by simp_all,by simp_all⟩ ?_ ?_
  .rintro i x ρ hx ⟨l,G,q,J,rfl,hl⟩
   obtain⟨af,rfl⟩:=bV hx;have e0:(0:Int)+(i:Int)*1=(i:Int):=by lia
   rw[e0];have hI:(i:Int)<=9:=by lia
   obtain⟨d,_,_,ed⟩:=uK (l:=es) (k:=(i:Int)) (by lia) (by lia);have F:(0:Int)<=(i:Int):=by lia
   generalize (i:Int)=I at hI ed F;have m1:cV (.int I) (.int I)=bx (.int<|I*I):=cE (by lia) (by lia) (by lia) (by lia);have b1:=D4 (show -(100:Int)<I by lia) (show I<100 by lia) (show -(100:Int)<I by lia) (show I<100 by lia);have Y:hV (.int c) (.int<|I+2)=bx (.int<|c/(I+2)):=g9 (by lia) (by lia);have c0:0<=c/(I+2):=Int.ediv_nonneg h0 (by lia);have U:c/(I+2)<=c:=Int.ediv_le_self _ h0;generalize c/(I+2)=y at Y c0 U;generalize I*I=z at m1 b1;have m2:cV (.int<|(y+z)/3+1) (.int 48271)=bx (.int<|((y+z)/3+1)*48271):=cE (by lia) (by lia) (by decide +kernel) (by decide +kernel);have hz:aZ l.length=cf:=decide_eq_true (by lia);by_cases a1:0<(y+z)%3
   .by_cases a2:0<((y+z)/3+1)*48271%M
    .refine⟨[bx<|.int c,bx<|.int M,bx<|.int n,bx<|.lst es,bx<|.lst<|l++[.tup [d,.int<|((y+z)/3+1)*48271%M]],bx<|.int I,bx<|.int<|y+z,bx<|.int<|((y+z)/3+1)*48271%M],?_,_,_,_,_,rfl,by simp_all;lia⟩
     ac_rfl
    .refine⟨[bx<|.int c,bx<|.int M,bx<|.int n,bx<|.lst es,bx<|.lst l,bx<|.int I,bx<|.int<|y+z,bx<|.int<|((y+z)/3+1)*48271%M],?_,_,_,_,_,rfl,by lia⟩
     ac_rfl
   .refine⟨[bx<|.int c,bx<|.int M,bx<|.int n,bx<|.lst es,bx<|.lst l,bx<|.int I,bx<|.int<|y+z,bx<|.int<|((y+z)/3+1)*48271%M],?_,_,_,_,_,rfl,by lia⟩
    ac_rfl
  .rintro ρ ⟨l,G,q,J,rfl,hl⟩
   exact⟨_,by simp_all,l,rfl⟩
structure OkMs(many:Int)(ms:List Mk):Prop where
 tk:∀m∈ms,(∃t,m.takes=[t])\/∃t u,m.takes=[t,u]
 tb:∀m∈ms,∀t∈m.takes,0<=t/\t<many
 gb:∀m∈ms,0<=m.g/\m.g<many
def zH{ns:List Int}{M many:Int}(hM:3<=M)(hm:1<=many/\many<=6):∃ms:List Mk,jM [.lst<|ns.map .int,.int M,.int many]=bx (.tup<|ms.map kD)/\OkMs many ms/\ms.length<=6:=by
 suffices h:∃d,jM [.lst<|ns.map .int,.int M,.int many]=bx d/\∃ms:List Mk,d=.tup (ms.map kD)/\OkMs many ms/\ms.length<=6 by
  obtain⟨d,e,r,rfl,h⟩:=h;exact⟨r,e,h⟩
 have ak:=Ten
 have ae:(10:Int)^61=10000000000000000000000000000000000000000000000000000000000000:=by decide +kernel
 obtain⟨f,N⟩:=dO ns;have f9:=(N 9 (by decide)<|by decide).1;have al:=(N 15 (by decide)<|by decide).1;have Y:0<many:=by lia
 refine dQ ?_;unfold oI;rw[aE<|aM (d:=.int<|f 9)<|by ac_rfl];generalize f 9=c9;rw[aE<|aM (d:=.lst [])<|by simp_all];have z0:=zat c9 (show(6:Int)≠0 by decide);have z1:=zau c9 (show(0:Int)<6 by decide);refine iW (items:=aQ 0 1 (c9%6).toNat) (by simp_all[aH,bO,eI z0<|show c9%6<=1000000 by lia]) (λi ρ=>∃(ms:List Mk) (o5 U J G F:Option D),ρ=[bx<|.lst<|ns.map .int,bx<|.int M,bx<|.int many,bx<|.int c9,bx<|.lst<|ms.map kD,o5,U,J,G,F]/\ms.length=i/\i<=6/\OkMs many ms) ⟨[],cb,cb,cb,cb,cb,by ac_rfl,rfl,by decide,⟨λ_ h=>(nomatch h),λ_ h=>(nomatch h),λ_ h=>(nomatch h)⟩⟩ ?_ ?_
 .rintro i x ρ hx ⟨ms,o5,U,J,G,F,rfl,W,hi,K⟩
  obtain⟨am,rfl⟩:=bV hx;have hI:0<=(0:Int)+(i:Int)*1/\(0:Int)+(i:Int)*1<=6:=by lia
  generalize (0:Int)+(i:Int)*1=I at hI;have fI:=N (10+I) (by lia) (by lia);generalize f (10+I)=near at fI;have hz:(ms.map kD).length<=1000000:=by rw[zak];lia
  have n0:=zat (near/2) (show(3:Int)≠0 by decide);have n1:=zau (near/2) (show(0:Int)<3 by decide);obtain⟨nm,ah⟩:=rG (c:=f 15) (n:=near/2%3/2) (by lia) (by lia);obtain⟨p,ep,p0,p1⟩:=oW (c:=near/17) (by lia) (by lia);have q:∀y:Int,0<=y%many/\y%many<many:=λy=>⟨zat _<|zaX Y,zau _ Y⟩
  have fin:∀m:Mk,((∃t,m.takes=[t])\/∃t u,m.takes=[t,u])->(∀t∈m.takes,0<=t/\t<many)->(0<=m.g/\m.g<many)->OkMs many (ms++[m]):=λm a b c=>by
   have app:∀ {P:Mk->Prop},(∀r∈ms,P r)->P m->∀y∈ms++[m],P y:=λh1 h2 y hy=>by
    rcases List.mem_append.mp hy with z|z
    .exact h1 y z
    .rw[List.mem_singleton.mp z];exact h2
   exact⟨app K.tk a,app K.tb b,app K.gb c⟩
  have ht:∃t u:Int,(0<=t/\t<many)/\(0<=u/\u<many)/\dD (d9 7<|fA<|aC (bB dI (bB dR (aD 5)<|bB hV (aD 3)<|eC<|.int 6)<|aD 2)<|aC (bB dI (bB hV (aD 6)<|eC<|.int 6)<|aD 2) aY) (B9 (pS<|bB kI (bB dI (bB hV (aD 6)<|eC<|.int 36)<|eC<|.int 3)<|eC<|.int 0) (d9 7<|fA<|aC (bB dI (bB hV (aD 6)<|eC<|.int 7)<|aD 2)<|aC (bB dI (bB hV (aD 6)<|eC<|.int 6)<|aD 2) aY) LA) [bx<|.lst<|ns.map .int,bx<|.int M,bx<|.int many,bx<|.int c9,bx<|.lst<|ms.map kD,bx<|.int I,bx<|.int near,J,G,F]=bx (.nx [bx<|.lst<|ns.map .int,bx<|.int M,bx<|.int many,bx<|.int c9,bx<|.lst<|ms.map kD,bx<|.int I,bx<|.int near,bx<|.tup [.int t,.int u],G,F]):=by
   by_cases h3:near/36%3=0
   .exact⟨near/7%many,near/6%many,q _,q _,by ac_rfl⟩
   .exact⟨(I+c9/6)%many,near/6%many,q _,q _,by ac_rfl⟩
  obtain⟨t,u,tb,ub,et⟩:=ht;have es:∀ {g h k:Sv} {ρ:cA},dD g (dD h k) ρ=dD (dD g h) k ρ:=by
   intro g h k ρ;unfold dD;cases g ρ with
   |none=>rfl
   |some o=>cases o <;> rfl
  have f1:=fI.1;have dm:dI (.int<|near/12) (.int many)=bx (.int<|near/12%many):=bO Y;by_cases h2:near%2=0
  .obtain⟨l,el⟩:=pL (c:=near/5) (M:=M) (n:=1) hM (by lia) (by lia)
   refine⟨[bx<|.lst<|ns.map .int,bx<|.int M,bx<|.int many,bx<|.int c9,bx<|.lst<|(ms++[(⟨nm,[t],near/12%many,.tup l,p⟩:Mk)]).map kD,bx<|.int I,bx<|.int near,bx<|.tup [.int t],bx<|.str nm,bx<|.tup l],?_,_,_,_,_,_,_,rfl,by simp_all[W],by lia,fin _ (.inl ⟨t,rfl⟩) (by simpa using tb)<|q _⟩;show(aS 5 _ _).bind _=_;rw[q_name,aA,aE<|aM (d:=.int near)<|by ac_rfl,es,aE<|by exact et];have de:kI (.int<|near%2) (.int 0)=bx (.bl cf):=by simp_all[h2]
   have cs:y3 (.tup [.int t,.int u]) cb (bx 1)=bx (.tup [.int t]):=rfl;have dl:gB [.tup [.int t]]=bx (.int 1):=rfl;rw[show(ms++[(⟨nm,[t],near/12%many,.tup l,p⟩:Mk)]).map kD=ms.map kD++[.tup [.str nm,.tup [.int t],.int<|near/12%many,.tup l,.int p]] by simp_all[kD,tupI]]
   ac_rfl
  .obtain⟨l,el⟩:=pL (c:=near/5) (M:=M) (n:=2) hM (by lia) (by lia)
   refine⟨[bx<|.lst<|ns.map .int,bx<|.int M,bx<|.int many,bx<|.int c9,bx<|.lst<|(ms++[(⟨nm,[t,u],near/12%many,.tup l,p⟩:Mk)]).map kD,bx<|.int I,bx<|.int near,bx<|.tup [.int t,.int u],bx<|.str nm,bx<|.tup l],?_,_,_,_,_,_,_,rfl,by simp_all[W],by lia,fin _ (.inr ⟨t,u,rfl⟩) (by simp_all;exact⟨tb,ub⟩)<|q _⟩;show(aS 5 _ _).bind _=_;rw[q_name,aA,aE<|aM (d:=.int near)<|by ac_rfl,es,aE<|by exact et];have de:kI (.int<|near%2) (.int 0)=bx (.bl ci):=by simp_all[h2]
   have dl:gB [.tup [.int t,.int u]]=bx (.int 2):=rfl;rw[show(ms++[(⟨nm,[t,u],near/12%many,.tup l,p⟩:Mk)]).map kD=ms.map kD++[.tup [.str nm,.tup [.int t,.int u],.int<|near/12%many,.tup l,.int p]] by simp_all[kD,tupI]]
   ac_rfl
 .rintro ρ ⟨ms,o5,U,J,G,F,rfl,W,hi,K⟩
  exact⟨_,by simp_all,ms,rfl,K,by lia⟩
def DR(ns:List Int):∃C:Bk,lI [.lst<|ns.map .int]=bx (a7 C)/\OkB C:=by
 suffices h:∃d,lI [.lst<|ns.map .int]=bx d/\∃C:Bk,d=a7 C/\OkB C by
  obtain⟨d,e,C,rfl,h⟩:=h;exact⟨C,e,h⟩
 obtain⟨f,F⟩:=dO ns;have f0:=(F 0 (by decide)<|by decide).1;have f1:=(F 1 (by decide)<|by decide).1;have al:=(F 16 (by decide)<|by decide).1;refine dQ ?_;unfold rY;generalize f 0=c at f0;rw[aE<|aM (d:=.int c)<|by ac_rfl];have N:(10:Int)^59=100000000000000000000000000000000000000000000000000000000000:=by decide +kernel
 have ah:=Ten
 have w0:=zat (c/4) (show(10^59:Int)≠0 by decide +kernel);have w1:=zau (c/4) (show(0:Int)<10^59 by decide +kernel);have dw:dI (.int<|c/4) (.int<|10^59)=bx (.int<|c/4%10^59):=bO (by decide +kernel);generalize c/4%10^59=w at w0 w1 dw;have mw:cV (.int 2) (.int w)=bx (.int<|2*w):=cE (by decide +kernel) (by decide +kernel) (by lia) (by lia);have pw:P9 (.int 10) (.int 59)=bx (.int<|10^59):=HX (by decide) (by decide) (by decide);rw[N]at dw pw;rw[aE<|aM (d:=.int<|3+2*w)<|by ac_rfl];refine fQ (λρ=>∃M:Int,3<=M/\M<10^60/\ρ=[bx<|.lst<|ns.map .int,bx<|.int c,bx<|.int M,cb,cb]) ?_ ?_
 .by_cases hc:c%4=0
  .have v0:=zat (c/4) (show(4:Int)≠0 by decide)
   have v1:=zau (c/4) (show(0:Int)<4 by decide);have mv:cV (.int 2) (.int<|c/4%4)=bx (.int<|2*(c/4%4)):=cE (by decide +kernel) (by decide +kernel) (by lia) (by lia);exact⟨_,by ac_rfl,3+2*(c/4%4),by lia,by lia,rfl⟩
  .exact⟨_,by ac_rfl,3+2*w,by lia,by lia,rfl⟩
 .rintro ρ ⟨M,G,U,rfl⟩
  have n0:=zat (f 1) (show(4:Int)≠0 by decide);have n1:=zau (f 1) (show(0:Int)<4 by decide);rw[aE<|aM (d:=.int<|1+f 1%4)<|by ac_rfl];refine fQ (λρ=>∃many:Int,(1<=many/\many<=6)/\ρ=[bx<|.lst<|ns.map .int,bx<|.int c,bx<|.int M,bx<|.int many,cb]) ?_ ?_
  .by_cases h5:f 1/4%8=5
   .exact⟨_,by ac_rfl,6,by decide,rfl⟩
   .exact⟨_,by ac_rfl,1+f 1%4,by lia,rfl⟩
  .rintro ρ ⟨many,W,rfl⟩
   have rm:bY [.int many]=bx (aQ 0 1 many.toNat):=eI (by lia) (by lia);obtain⟨ks,ek,Y,J⟩:=yF (f:=aR b7<|aC (aR bW<|aC (aD 1)<|aC (eC<|.int 16) aY)<|aC (aD 0) aY) (rest:=[bx<|.lst<|ns.map .int]) (R:=λd=>∃s:Str,d=.str s) (aQ 0 1 many.toNat) cb λa ha=>by
    obtain⟨i,rfl,i0,i1⟩:=vF ha;obtain⟨s,hs⟩:=rG (c:=f 16) (n:=i) i0 (by lia);exact⟨_,by ac_rfl,s,rfl⟩
   obtain⟨q,rfl⟩:=GI J;have af:q.length=many.toNat:=by rw[zak,bH]at Y;exact Y
   have zz:aZ many.toNat=cf:=decide_eq_true (by lia);rw[aE<|aM (d:=.tup<|q.map .str)<|by simp_all[rm,bH,zz,hW,ek]];obtain⟨rs,er,gr⟩:=zD (ns:=ns) (M:=M) (many:=many) G W;obtain⟨ms,em,K,ml⟩:=zH (ns:=ns) (M:=M) (many:=many) G W;have z:(q.length:Int)=many:=by lia
   refine⟨a7 ⟨M,q,rs,ms⟩,by simp_all[er,em,a7],_,rfl,⟨G,U,by show 1<=q.length;lia,by show q.length<=6;lia,?_,K.tk,?_,?_,ml⟩⟩
   .show GR M (q.length:Int) rs
    rw[z];exact gr
   .show ∀m∈ms,∀t∈m.takes,0<=t/\t<(q.length:Int)
    rw[z];exact K.tb
   .show ∀m∈ms,0<=m.g/\m.g<(q.length:Int)
    rw[z];exact K.gb
def tZ:¬ ("name" : Str) = "use" := by decide
def oC:¬ ("name" : Str) = "let" := by decide
def F4:¬ ("name" : Str) = "pick" := by decide
def sZ:¬ ("name" : Str) = "again" := by decide
def nY:¬ ("number" : Str) = "use" := by decide
def lT:¬ ("number" : Str) = "let" := by decide
def GT:¬ ("number" : Str) = "pick" := by decide
def tI:¬ ("number" : Str) = "again" := by decide
def yW:¬ ("use" : Str) = "let" := by decide
def oB:¬ ("let" : Str) = "use" := by decide
def nZ:¬ ("pick" : Str) = "use" := by decide
def lN:¬ ("pick" : Str) = "let" := by decide
def oA:¬ ("again" : Str) = "use" := by decide
def iY:¬ ("again" : Str) = "let" := by decide
def F5:¬ ("again" : Str) = "pick" := by decide
theorem GG{R:D->Prop}(I:Nat->cA->Prop)(J:cA->Prop)(h:∀n ρ,I n ρ->(c ρ=bx cf/\((∃m ρ',m<n/\b ρ=bx (.nx ρ')/\I m ρ')\/∃d,b ρ=bx (.rt d)/\R d))\/(c ρ=bx ci/\J ρ)):∀(fuel n:Nat) (ρ:cA),n<fuel->I n ρ->(∃ρ',eY c b fuel ρ=bx (.nx ρ')/\J ρ')\/∃d,eY c b fuel ρ=bx (.rt d)/\R d
 |0,n,ρ,hn,_=>absurd hn<|Nat.not_lt_zero n
 |fuel+1,n,ρ,hn,hi=>by
  rcases h n ρ hi with⟨q,⟨m,ρ',W,z,U⟩|⟨d,z,N⟩⟩|⟨q,F⟩
  .rcases GG I J h fuel m ρ' (by lia) U with⟨G,e,F⟩|⟨d,e,N⟩
   .refine .inl ⟨G,?_,F⟩
    unfold eY;rw[q,aA,ck rfl,z,aA];exact e
   .refine .inr ⟨d,?_,N⟩
    unfold eY;rw[q,aA,ck rfl,z,aA];exact e
  .refine .inr ⟨d,?_,N⟩
   unfold eY;rw[q,aA,ck rfl,z,aA]
  .refine .inl ⟨ρ,?_,F⟩
   unfold eY;rw[q,aA,cq zaB]
def qS{c:Bv}{b rest:Sv}{ρ:cA}{R:D->Prop}(I:Nat->cA->Prop)(J:cA->Prop)(n:Nat)(G:n<100000)(h0:I n ρ)(h:∀n ρ,I n ρ->(c ρ=bx cf/\((∃m ρ',m<n/\b ρ=bx (.nx ρ')/\I m ρ')\/∃d,b ρ=bx (.rt d)/\R d))\/(c ρ=bx ci/\J ρ))(k:∀ρ',J ρ'->∃d,rest ρ'=bx (.rt d)/\R d):∃d,dD (lQ c b) rest ρ=bx (.rt d)/\R d:=by
 rcases GG I J h 100000 n ρ G h0 with⟨ρ',e,z⟩|⟨d,e,F⟩
 .have q:lQ c b ρ=bx (.nx ρ'):=e
  rw[aE q];exact k ρ' z
 .have q:lQ c b ρ=bx (.rt d):=e
  exact⟨d,uD q,F⟩
def B3:aJ (a7 C) (.int 1)=bx (.tup<|C.kinds.map .str):=by unfold a7;rw[q_itT];exact at1
def QG:aJ (a7 C) (.int 2)=bx (.tup<|C.rs.map kW):=by unfold a7;rw[q_itT];exact at2
def u7:aJ (a7 C) (.int 3)=bx (.tup<|C.makes.map kD):=by unfold a7;rw[q_itT];exact qf
def ET:aJ (kD m) (.int 0)=bx (.str m.nm):=by unfold kD;rw[q_itT];exact at0
def y8:aJ (kD m) (.int 1)=bx (tupI m.takes):=by unfold kD;rw[q_itT];exact at1
def K1:aJ (kD m) (.int 2)=bx (.int m.g):=by unfold kD;rw[q_itT];exact at2
def UR:aJ (kD m) (.int 4)=bx (.int m.pr):=by unfold kD;rw[q_itT];exact at4
def pA(n:Nat):aQ 0 1 n=((zas n).map λ(j:Nat)=>(j:Int)).map D.int:=by
 unfold aQ;rw[zav];refine List.map_congr_left λa _=>?_
 show D.int _=D.int _;have:(0:Int)+(a:Int)*1=(a:Int):=by lia
 rw[this]
theorem AW{c:Bv}{rest:List (Option D)}{p:Int->Bool}:∀(l:List Int) (o:Option D),(∀n∈l,c (bx (.int n)::rest)=bx (p n))->bD (aS 0) c (aD 0) (l.map .int) (o::rest)=bx ((l.filter p).map .int)
 |[],o,_=>rfl
 |n::l,o,h=>by
  have ih:=AW (c:=c) (rest:=rest) (p:=p) l (bx<|.int n) λm z=>h m<|zaq _ z
  have q:=h n<|zar ..;cases hp:p n with
  |true=>simp_all[bD,q,hp,ih]
  |false=>simp_all[bD,q,hp,ih]
def qT{C:Bk}{i:Int}{get:Ro->Int}{e:Int}(N:∀r,aJ (kW r) (.int i)=bx (.int<|get r))(o:Option D):∃F:List Int,bD (aS 0) (pS<|bB kI (bB aJ (bB aJ (bB aJ (aD 1)<|eC<|.int 2)<|aD 0)<|eC<|.int i)<|aD 2) (aD 0) (aQ 0 1 C.rs.length) [o,bx<|a7 C,bx<|.int e]=bx (F.map .int)/\F.length<=C.rs.length/\∀n∈F,∃r,lX C.rs n=bx r/\get r=e:=by
 have z:=AW (c:=pS<|bB kI (bB aJ (bB aJ (bB aJ (aD 1)<|eC<|.int 2)<|aD 0)<|eC<|.int i)<|aD 2) (rest:=[bx<|a7 C,bx<|.int e]) (p:=λn=>match lX C.rs n with|some r=>decide (get r=e)|none=>ci) ((zas C.rs.length).map λ(j:Nat)=>(j:Int)) o λn G=>by
  obtain⟨k,J,rfl⟩:=List.mem_map.mp G;have:=List.mem_range.mp J;obtain⟨r,q⟩:=WS (rs:=C.rs) (n:=(k:Int)) (by lia) (by lia);simp_all[QG,yV q,N,q]
 rw[<- pA]at z;refine⟨_,z,?_,λn G=>?_⟩
 .refine zaO (zdl ..) ?_
  rw[zak,zcV];exact zaj _
 .have:=(List.mem_filter.mp G).2
  cases q:lX C.rs n with
  |none=>simp[-zad,-zac,aA,aB,q]at this
  |some r=>simp[-zad,-zac,aA,aB,q]at this;exact⟨r,rfl,this⟩
def CQ{C:Bk}(B:OkB C){j c:Int}(j0:0<=j)(W:j<(C.kinds.length:Int)):∃(e:Int) (w:List Int),kZ [a7 C,.int j,.int c]=bx (.tup [.int e,tupI w])/\gw C.rs j w=bx e:=by
 suffices h:∃d,kZ [a7 C,.int j,.int c]=bx d/\∃(e:Int) (w:List Int),d=.tup [.int e,tupI w]/\gw C.rs j w=bx e by
  obtain⟨d,h1,e,w,rfl,h2⟩:=h;exact⟨e,w,h1,h2⟩
 have k6:=B.k6;refine dQ ?_;unfold rE;rw[aE<|aM (d:=tupI [])<|by ac_rfl];refine qS (λn ρ=>∃(e c:Int) (w:List Int) (o:Option D),ρ=[bx<|a7 C,bx<|.int e,bx<|.int c,bx<|tupI w,o]/\gw C.rs j w=bx e/\n=(6-e).toNat) (λρ=>∃(e c:Int) (w:List Int) (o:Option D),ρ=[bx<|a7 C,bx<|.int e,bx<|.int c,bx<|tupI w,o]/\gw C.rs j w=bx e) (6-j).toNat (by lia) ⟨j,c,[],cb,by ac_rfl,rfl,rfl⟩ ?_ ?_
 .rintro n ρ ⟨e,c,w,o,rfl,g,hn⟩
  by_cases J:0<c%3
  .refine .inl ⟨by simp_all[bO,J],?_⟩
   have s:=d6 B g j0 W;obtain⟨q,el,ll,Y⟩:=qT (C:=C) (i:=0) (get:=(·.j)) (e:=e) (λr=>qa7) cb;have aa:=B.gr.len;have b2:=@QG C;have rm:bY [.int ((C.rs.map kW).length:Int)]=bx (aQ 0 1 C.rs.length):=by rw[zak];exact cF<|by lia
   have zz:(aQ 0 1 C.rs.length).length<=1000000:=by rw[bH];lia
   rw[aE<|aM (d:=.lst<|q.map .int)<|by ac_rfl];by_cases h0:q.length=0
   .exact .inr ⟨.tup [.int e,tupI w],by simp_all[h0],e,w,rfl,g⟩
   .have z:(0:Int)<(q.length:Int):=by lia
    obtain⟨v,hv,U⟩:=fT (ns:=q) (k:=c/3%(q.length:Int)) (zat _<|zaX z)<|zau _ z;obtain⟨r,F,G⟩:=Y v<|zax U;have up:=(B.gr.jk r<|qB F).2.1;refine .inl ⟨(6-r.k).toNat,[bx<|a7 C,bx<|.int r.k,bx<|.int<|c/7,bx<|tupI<|w++[v],bx<|.lst<|q.map .int],?_,?_,r.k,c/7,w++[v],_,rfl,SY g F G,rfl⟩
    .have N:r.j=e:=G
     lia
    .have ad:dR (tupI w) (.tup [.int v])=bx (tupI<|w++[v]):=by
      unfold tupI;rw[zaR];exact ck<|decide_eq_true<|show(w.map D.int).length+1<=1000000 by rw[zak];lia
     have ea:aJ (tupI<|w++[v]) (.int ((w.length+1:Nat)-1:Int))=bx (.int v):=by
      unfold tupI;rw[show((w.length+1:Nat)-1:Int)=(w.length:Int) by lia];exact bS<|by simp_all
     have dl:gB [tupI<|w++[v]]=bx (.int ((w.length+1:Nat):Int)):=by simp_all[tupI]
     have de:kI (.int ((q.map D.int).length:Int)) (.int 0)=bx (.bl ci):=by simp_all[h0]
     have md:dI (.int<|c/3) (.int ((q.map D.int).length:Int))=bx (.int<|c/3%(q.length:Int)):=by rw[zak];exact bO z
     have ar:=yV F;have rk:=@qaZ r;rw[aE (ρ':=[bx<|a7 C,bx<|.int e,bx<|.int c,bx<|tupI w,bx<|.lst<|q.map .int])<|by ac_rfl];rw[aE<|aM (d:=tupI<|w++[v])<|by ac_rfl];rw[aE<|aM (d:=.int r.k)<|by ac_rfl]
     ac_rfl
  .exact .inr ⟨by simp_all[bO,J],e,c,w,o,rfl,g⟩
 .rintro ρ ⟨e,c,w,o,rfl,g⟩
  exact⟨_,by simp_all,e,w,rfl,g⟩
def MD(q:lX rs n=bx r)(h:gw rs r.k w=bx f):gw rs r.j (n::w)=bx f:=by
 show((lX rs n).bind λs=>if s.j=r.j then gw rs s.k w else cb)=_;rw[q];show(if r.j=r.j then gw rs r.k w else cb)=_;rw[ck rfl];exact h
def DN{C:Bk}(B:OkB C){k c:Int}(k0:0<=k)(k1:k<(C.kinds.length:Int)):∃(j:Int) (w:List Int),lA [a7 C,.int k,.int c]=bx (.tup [.int j,tupI w])/\gw C.rs j w=bx k/\0<=j/\j<(C.kinds.length:Int):=by
 suffices h:∃d,lA [a7 C,.int k,.int c]=bx d/\∃(j:Int) (w:List Int),d=.tup [.int j,tupI w]/\gw C.rs j w=bx k/\0<=j/\j<(C.kinds.length:Int) by
  obtain⟨d,h1,e,w,rfl,h2⟩:=h;exact⟨e,w,h1,h2⟩
 have k6:=B.k6;refine dQ ?_;unfold rK;rw[aE<|aM (d:=tupI [])<|by ac_rfl];refine qS (λn ρ=>∃(e c:Int) (w:List Int) (o:Option D),ρ=[bx<|a7 C,bx<|.int e,bx<|.int c,bx<|tupI w,o]/\gw C.rs e w=bx k/\0<=e/\e<(C.kinds.length:Int)/\n=e.toNat) (λρ=>∃(e c:Int) (w:List Int) (o:Option D),ρ=[bx<|a7 C,bx<|.int e,bx<|.int c,bx<|tupI w,o]/\gw C.rs e w=bx k/\0<=e/\e<(C.kinds.length:Int)) k.toNat (by lia) ⟨k,c,[],cb,by ac_rfl,rfl,k0,k1,rfl⟩ ?_ ?_
 .rintro n ρ ⟨e,c,w,o,rfl,g,F,J,hn⟩
  by_cases U:0<c%3
  .refine .inl ⟨by simp_all[bO,U],?_⟩
   have s:=d6 B g F J;obtain⟨q,el,ll,hl⟩:=qT (C:=C) (i:=1) (get:=(·.k)) (e:=e) (λr=>qaZ) cb;have ac:=B.gr.len;have b2:=@QG C;have rm:bY [.int ((C.rs.map kW).length:Int)]=bx (aQ 0 1 C.rs.length):=by rw[zak];exact cF<|by lia
   have zz:(aQ 0 1 C.rs.length).length<=1000000:=by rw[bH];lia
   rw[aE<|aM (d:=.lst<|q.map .int)<|by ac_rfl];by_cases h0:q.length=0
   .exact .inr ⟨.tup [.int e,tupI w],by simp_all[h0],e,w,rfl,g,F,J⟩
   .have G:(0:Int)<(q.length:Int):=by lia
    obtain⟨v,hv,hm⟩:=fT (ns:=q) (k:=c/3%(q.length:Int)) (zat _<|zaX G)<|zau _ G;obtain⟨r,N,W⟩:=hl v<|zax hm;have Y:=B.gr.jk r<|qB N;have z:r.k=e:=W;refine .inl ⟨r.j.toNat,[bx<|a7 C,bx<|.int r.j,bx<|.int<|c/7,bx<|tupI<|v::w,bx<|.lst<|q.map .int],by lia,?_,r.j,c/7,v::w,_,rfl,MD N (by rw[z];exact g),Y.1,by lia,rfl⟩;have ad:dR (.tup [.int v]) (tupI w)=bx (tupI<|v::w):=ck (decide_eq_true<|show 1+(w.map D.int).length<=1000000 by rw[zak];lia);have ea:aJ (tupI<|v::w) (.int 0)=bx (.int v):=at0;have de:kI (.int ((q.map D.int).length:Int)) (.int 0)=bx (.bl ci):=by simp_all[h0]
    have md:dI (.int<|c/3) (.int ((q.map D.int).length:Int))=bx (.int<|c/3%(q.length:Int)):=by rw[zak];exact bO G
    have ar:=yV N;have rk:=@qa7 r;rw[aE (ρ':=[bx<|a7 C,bx<|.int e,bx<|.int c,bx<|tupI w,bx<|.lst<|q.map .int])<|by ac_rfl];rw[aE<|aM (d:=tupI<|v::w)<|by ac_rfl];rw[aE<|aM (d:=.int r.j)<|by ac_rfl]
    ac_rfl
  .exact .inr ⟨by simp_all[bO,U],e,c,w,o,rfl,g,F,J⟩
 .rintro ρ ⟨e,c,w,o,rfl,g⟩
  exact⟨_,by simp_all,e,w,rfl,g⟩
def vO(h:∀n∈w,∃r,lX C.rs n=bx r):∃ns:List Int,bD (aS 0) fN (bB aJ (bB aJ (bB aJ (aD 1)<|eC<|.int 2)<|aD 0)<|eC<|.int 4) (w.map .int) [cb,bx<|a7 C]=bx (ns.map .int)/\ns.sum=f7 C.rs w:=by
 refine⟨w.map λn=>match lX C.rs n with|some r=>r.p|none=>0,?_,rfl⟩;rw[zav];refine AS w cb λn z=>?_
 obtain⟨r,q⟩:=h n z;simp_all[QG,yV q,qcb,q]
def qX(h:∀n∈w,∃r,lX C.rs n=bx r)(z:w.length<=100):lG [a7 C,tupI w]=bx (.int<|f7 C.rs w):=by
 obtain⟨ns,e,hs⟩:=vO h;have q:aZ w.length=cf:=decide_eq_true (by lia);refine aL ?_;simp_all[sA,aH,tupI,hW,q,e,hs]
def eM{R:List D->Option D}{pre:List D}{v w:List Int}(h0:gC (pre++[tupI w]) 0=bx (.str tag))(F:¬ tag = "let")(N:pre.length<=10)(hw:w.length+v.length<=100):bE 3 (eP R) [.tup<|pre++[tupI w],tupI v]=bx (.tup<|pre++[tupI<|w++v]):=by
 have a:gC (pre++[tupI w]) (pre.length:Int)=bx (tupI w):=bS (by rw[zdB<|zaj _,Nat.sub_self];rfl);have z:aZ (pre.length+1)=cf:=decide_eq_true (by lia);have G:=JV (as:=pre) (bs:=[tupI w]);have q:dR (tupI w) (tupI v)=bx (tupI<|w++v):=by
  have J:aZ (w.length+v.length)=cf:=decide_eq_true (by lia);simp_all[tupI,J]
 have e:((pre++[tupI w]).length:Int)-1=(pre.length:Int):=by simp_all
 refine aL ?_;unfold eP;rw[aE<|aM (d:=.int (pre.length:Int))<|by rw[<- e];rfl];simp_all[aH,h0,F,G,a,q,z]
theorem vU{v:List Int}(G:v.length<=6):∀(n:Nat) (g:Rg),size g<=n->Short g->i6 3 eP n [rd g,tupI v]=bx (rd<|beh g v)
 |0,g,h,_=>by cases g <;> simp[-zad,-zac,aA,aB,size]at h
 |n+1,.name x j w,h,s=>eM (pre:=[.str "name",.str x]) at0 oC (by simp_all)<|by have:w.length<=6:=s;lia
 |n+1,.num m j w,h,s=>eM (pre:=[.str "number",.int m,.int j]) at0 lT (by simp_all)<|by have:w.length<=6:=s;lia
 |n+1,.use1 u nm p w,h,s=>eM (pre:=[.str "use",.int (u:Int),.tup [rd p]]) at0 yW (by simp_all)<|by have:w.length<=6:=s.2;lia
 |n+1,.use2 u nm p q w,h,s=>eM (pre:=[.str "use",.int (u:Int),.tup [rd p,rd q]]) at0 yW (by simp_all)<|by have:w.length<=6:=s.2.2;lia
 |n+1,.lett x j p q,h,s=>by
  have ih:=vU G n q (by simp only[size]at h;lia) s.2;have F:cutD [.str "let",.str x,.int j,rd p,rd q] cb (bx 4)=[.str "let",.str x,.int j,rd p]:=rfl;have z:aZ 5=cf:=rfl;refine aL ?_;simp_all[eP,aH,rd,beh,at0,at4,F,ih,z]
 |n+1,.pick c k p q r w,h,s=>eM (pre:=[.str "pick",.int c,.int k,rd p,rd q,rd r]) at0 lN (by simp_all)<|by have:w.length<=6:=s.2.2.2;lia
 |n+1,.again c k x p q w,h,s=>eM (pre:=[.str "again",.int c,.int k,.str x,rd p,rd q]) at0 iY (by simp_all)<|by have:w.length<=6:=s.2.2;lia
def xE(z:size g<=24)(s:Short g)(q:v.length<=6):l9 [rd g,tupI v]=bx (rd<|beh g v):=vU q 24 g z s
def bQ(p:Str×Int):D:=.tup [.str p.1,.int p.2]
def bC(C:Bk)(g:Rg)(k r:Int):D:=.tup [pt g,rd g,.int k,.int (size g:Int),.int<|lets g,.int r,.int<|cost C g]
def uQ:aJ (bC C g k r) (.int 0)=bx (pt g):=by unfold bC;rw[q_itT];exact at0
def uP:aJ (bC C g k r) (.int 1)=bx (rd g):=by unfold bC;rw[q_itT];exact at1
def B4:aJ (bC C g k r) (.int 2)=bx (.int k):=by unfold bC;rw[q_itT];exact at2
def qbP:aJ (bC C g k r) (.int 3)=bx (.int (size g:Int)):=by unfold bC;rw[q_itT];exact qf
def qb2:aJ (bC C g k r) (.int 4)=bx (.int<|lets g):=by unfold bC;rw[q_itT];exact at4
def qco:aJ (bC C g k r) (.int 5)=bx (.int r):=by unfold bC;rw[q_itT];exact at5
def qcj:aJ (bC C g k r) (.int 6)=bx (.int<|cost C g):=by unfold bC;rw[q_itT];exact at6
theorem rV:∀(kn:List<|Str×Int) (o p:Option D),∃ss:List Str,bD (kQ 2<|eL (aS 0)<|eL (aS 1) uF) (pS<|bB kI (aD 1)<|aD 2) (aD 0) (kn.map bQ) [o,p,bx<|.int j]=bx (ss.map .str)/\∀s∈ss,(s,j)∈kn
 |[],o,p=>⟨[],rfl,λ_ h=>nomatch h⟩
 |(x,i)::kn,o,p=>by
  obtain⟨ss,e,hs⟩:=rV (j:=j) kn (bx<|.str x)<|bx<|.int i;by_cases h:i=j
  .refine⟨x::ss,by simp[-zad,-zac,aA,aB,bD,bQ,h]at e ⊢;simp_all[e],λs q=>?_⟩
   rcases List.mem_cons.mp q with z|z
   .rw[z,h];exact zar ..
   .exact zaq _<|hs s z
  .exact⟨ss,by simp[-zad,-zac,aA,aB,bD,bQ,h]at e ⊢;simp_all[e],λs q=>zaq _<|hs s q⟩
def dN(B:OkB C)(hl:kn.length<=100)(k0:0<=k)(k1:k<(C.kinds.length:Int))(c0:0<=c)(c1:c<10^60):∃g,bN [a7 C,.lst<|kn.map bQ,.int k,.int c]=bx (bC C g k 0)/\WF C kn g k/\size g=1/\lets g=0/\∀U N,NF U N g:=by
 suffices h:∃d,bN [a7 C,.lst<|kn.map bQ,.int k,.int c]=bx d/\∃g,d=bC C g k 0/\WF C kn g k/\size g=1/\lets g=0/\∀U N,NF U N g by
  obtain⟨d,h1,g,rfl,h2⟩:=h;exact⟨g,h1,h2⟩
 have ac:=Ten
 obtain⟨j,w,eb,q,W,Y⟩:=DN B (k:=k) (c:=c/5) k0 k1;have sh:=d6 B q W Y;obtain⟨ss,es,hs⟩:=rV (j:=j) kn cb cb;have zk:aZ kn.length=cf:=decide_eq_true (by lia);have ec:=qX (C:=C) (yR q) (by lia);have J:0<C.M:=by have:=B.M3;lia
 refine dQ ?_;unfold qR;rw[aE (ρ':=[bx<|a7 C,bx<|.lst<|kn.map bQ,bx<|.int k,bx<|.int c,bx<|.int j,bx<|tupI w,cb,cb,cb,cb])<|by ac_rfl];rw[aE<|aM (d:=.lst<|ss.map .str)<|by simp_all[zk,hW,es]];rw[aE<|aM (d:=.int<|f7 C.rs w)<|by ac_rfl];have num:∃d,dD (d9 9<|bB dI (bB cV (bB hV (aD 3)<|eC<|.int 11)<|eC<|.int 982451653)<|bB aJ (aD 0)<|eC<|.int 0)
   (B5<|fA<|aC (fA<|aC (eC<|.str "number")<|aC (aD 9)<|aC (aD 4) aY)<|aC (fA<|aC (eC<|.str "number")<|aC (aD 9)<|aC (aD 4)<|aC (aD 5) aY)<|aC (aD 2)<|aC (eC<|.int 1)<|aC (eC<|.int 0)<|aC (eC<|.int 0)<|aC (aD 7) aY)
   [bx<|a7 C,bx<|.lst<|kn.map bQ,bx<|.int k,bx<|.int c,bx<|.int j,bx<|tupI w,bx<|.lst<|ss.map .str,bx<|.int<|f7 C.rs w,cb,cb]=bx (.rt d)/\∃g,d=bC C g k 0/\WF C kn g k/\size g=1/\lets g=0/\∀U N,NF U N g:=by
  have mu:cV (.int<|c/11) (.int 982451653)=bx (.int<|c/11*982451653):=cE (by lia) (by lia) (by decide +kernel) (by decide +kernel);have n0:=zat (c/11*982451653)<|zaX J;have n1:=zau (c/11*982451653) J;rw[aE<|aM (d:=.int<|c/11*982451653%C.M)<|by ac_rfl];exact⟨_,by simp_all;rfl,.num (c/11*982451653%C.M) j w,by ac_rfl,⟨⟨n0,n1⟩,⟨W,Y⟩,q⟩,rfl,rfl,λ_ _=>trivial⟩
 by_cases h1:1<c%5
 .by_cases h2:ss.length=0
  .rw[aE (ρ':=[bx<|a7 C,bx<|.lst<|kn.map bQ,bx<|.int k,bx<|.int c,bx<|.int j,bx<|tupI w,bx<|.lst<|ss.map .str,bx<|.int<|f7 C.rs w,cb,cb])<|by simp_all[bO,h1,h2]]
   exact num
  .have z:(0:Int)<(ss.length:Int):=by lia
   have F:0<ss.length:=by lia
   obtain⟨d,hm,_,hd⟩:=uK (l:=ss.map D.str) (k:=c/7%(ss.length:Int)) (zat _<|zaX z) (by rw[zak];exact zau _ z);obtain⟨s,G,rfl⟩:=List.mem_map.mp hm;refine⟨bC C (.name s j w) k 0,uD ?_,.name s j w,rfl,⟨hs s G,q⟩,rfl,rfl,λ_ _=>trivial⟩;simp_all[bO,h1,F,g9,bO z,hd,bC,pt,rd,size,lets,cost]
 .rw[aE (ρ':=[bx<|a7 C,bx<|.lst<|kn.map bQ,bx<|.int k,bx<|.int c,bx<|.int j,bx<|tupI w,bx<|.lst<|ss.map .str,bx<|.int<|f7 C.rs w,cb,cb])<|by ac_rfl]
  exact num
local macro_rules | `(tactic|ac_rfl) => `(tactic|(with_reducible first|exact uQ|exact uP|exact B4|exact qbP|exact qb2|exact B3|exact QG|exact u7|exact ET|exact y8|exact K1|exact UR|exact at5|exact at6))
structure S7 where
 p:D
 q:D
 k:D
 a:Int
 b:Int
 r:Int
 c:Int
def sD(s:S7):D:=.tup [s.p,s.q,s.k,.int s.a,.int s.b,.int s.r,.int s.c]
def s_3:aJ (sD s) (.int 3)=bx (.int s.a):=by unfold sD;rw[q_itT];exact qf
def s_4:aJ (sD s) (.int 4)=bx (.int s.b):=by unfold sD;rw[q_itT];exact at4
def s_5:aJ (sD s) (.int 5)=bx (.int s.r):=by unfold sD;rw[q_itT];exact at5
def s_6:aJ (sD s) (.int 6)=bx (.int s.c):=by unfold sD;rw[q_itT];exact at6
def zA(w:Str):Int:=if w = "let" then 1 else 0
def lE{w0:Str}{l:List D}{q k:D}{ss:List S7}{own:Int}(hl:ss.length<=10):∃r:Int,aV [.tup<|.str w0::l,q,k,.lst<|ss.map sD,.int own]=bx (.tup [.tup<|.str w0::l,q,k,.int<|1+(ss.map (·.a)).sum,.int<|zA w0+(ss.map (·.b)).sum,.int r,.int<|own+(ss.map (·.c)).sum]):=by
 suffices h:∃d,aV [.tup<|.str w0::l,q,k,.lst<|ss.map sD,.int own]=bx d/\∃r:Int,d=.tup [.tup<|.str w0::l,q,k,.int<|1+(ss.map (·.a)).sum,.int<|zA w0+(ss.map (·.b)).sum,.int r,.int<|own+(ss.map (·.c)).sum] by
  obtain⟨d,e,r,rfl⟩:=h;exact⟨r,e⟩
 refine dQ ?_;unfold qY;rw[aE<|aM (d:=.int 1)<|by simp_all];rw[aE<|aM (d:=.int<|zA w0)<|by by_cases h:w0 = "let" <;> simp_all[aH,at0,zA,h]];rw[aE<|aM (d:=.int 0)<|by simp_all];refine iW (items:=aQ 0 1 ss.length) (by simp_all[aH,cF<|show ss.length<=1000000 by lia]) (λi ρ=>∃(r:Int) (G N:Option D),ρ=[bx<|.tup<|.str w0::l,bx q,bx k,bx<|.lst<|ss.map sD,bx<|.int<|own+((ss.take i).map (·.c)).sum,bx<|.int<|1+((ss.take i).map (·.a)).sum,bx<|.int<|zA w0+((ss.take i).map (·.b)).sum,bx<|.int r,G,N]) ⟨0,cb,cb,by simp_all[aH]⟩ ?_ ?_
 .rintro i x ρ hx ⟨r,G,N,rfl⟩
  obtain⟨F,rfl⟩:=bV hx;have U:(0:Int)+(i:Int)*1=(i:Int):=by lia
  rw[U];obtain⟨s,hs⟩:∃s,ss[i]?=bx s:=⟨ss[i],za0 F⟩;have W:gC (ss.map sD) (i:Int)=bx (sD s):=bS (by rw[zaD,hs];rfl);have t1:(ss.take<|i+1)=ss.take i++[s]:=by rw[zdh,hs];rfl
  rw[t1];simp only[zaR,zan,zcM,List.sum_append_int,zbw,List.sum_nil,Int.add_zero];generalize ((ss.take i).map (·.a)).sum=A;generalize ((ss.take i).map (·.b)).sum=Bb;generalize ((ss.take i).map (·.c)).sum=Cc;have q3:=s_3 (s:=s);have q4:=s_4 (s:=s);have q5:=s_5 (s:=s);have q6:=s_6 (s:=s);have J:∃z:Int,aR IB (aC (aD 7)<|aC (bB dR (bB aJ (aD 9)<|eC<|.int 5)<|aR EV<|aC (QH (bB kI (bB aJ (aD 0)<|eC<|.int 0)<|eC<|.str "again")<|bB kI (aD 8)<|eC<|.int 1) aY) aY) [bx<|.tup<|.str w0::l,bx q,bx k,bx<|.lst<|ss.map sD,bx<|.int<|own+Cc,bx<|.int<|1+A+s.a,bx<|.int<|zA w0+Bb+s.b,bx<|.int r,bx<|.int (i:Int),bx<|sD s]=bx (.int z):=by
   obtain⟨b,hb⟩:∃b,kI (.str w0) (.str "again")=bx (.bl b):=⟨_,by simp_all;rfl⟩;obtain⟨b2,Y⟩:∃b,kI (.int (i:Int)) (.int 1)=bx (.bl b):=⟨_,by simp_all;rfl⟩;cases b <;> exact⟨_,by ac_rfl⟩
  obtain⟨z,J⟩:=J;refine⟨[bx<|.tup<|.str w0::l,bx q,bx k,bx<|.lst<|ss.map sD,bx<|.int<|own+(Cc+s.c),bx<|.int<|1+(A+s.a),bx<|.int<|zA w0+(Bb+s.b),bx<|.int z,bx<|.int (i:Int),bx<|sD s],?_,z,_,_,rfl⟩;show(aS 8 _ _).bind _=_;rw[q_name,aA,<- zdn,<- zdn,<- zdn];rw[aE<|aM (d:=sD s)<|by ac_rfl];rw[aE<|aM (d:=.int<|1+A+s.a)<|by ac_rfl];rw[aE<|aM (d:=.int<|zA w0+Bb+s.b)<|by ac_rfl];rw[aE<|aM (d:=.int z)<|by exact J]
  ac_rfl
 .rintro ρ ⟨r,G,N,rfl⟩
  rw[bH,zb3];exact⟨_,by simp_all,r,rfl⟩
def sG(C:Bk)(g:Rg)(k r:Int):S7:=⟨pt g,rd g,.int k,size g,lets g,r,cost C g⟩
structure Gs(U:List Str)(C:Bk)(kn:List<|Str×Int)(g:Rg)(k:Int)(n:Nat):Prop where
 wf:WF C kn g k
 k0:0<=k
 k1:k<(C.kinds.length:Int)
 sz:size g<=n
 nf:NF U (kn.map (·.1)) g
def qaO{C:Bk}{l:List D}{g1:Rg}{k1 r1 own:Int}:∃r:Int,aV [.tup<|.str w0::l,q,k,.lst [bC C g1 k1 r1],.int own]=bx (.tup [.tup<|.str w0::l,q,k,.int<|1+(size g1:Int),.int<|zA w0+lets g1,.int r,.int<|own+cost C g1]):=by
 obtain⟨r,h⟩:=lE (w0:=w0) (l:=l) (q:=q) (k:=k) (ss:=[sG C g1 k1 r1]) (own:=own) (by simp_all);exact⟨r,by simpa[sG,sD,bC]using h⟩
def P0{C:Bk}{l:List D}{g1 g2:Rg}{k1 r1 k2 r2 own:Int}:∃r:Int,aV [.tup<|.str w0::l,q,k,.lst [bC C g1 k1 r1,bC C g2 k2 r2],.int own]=bx (.tup [.tup<|.str w0::l,q,k,.int<|1+((size g1:Int)+(size g2:Int)),.int<|zA w0+(lets g1+lets g2),.int r,.int<|own+(cost C g1+cost C g2)]):=by
 obtain⟨r,h⟩:=lE (w0:=w0) (l:=l) (q:=q) (k:=k) (ss:=[sG C g1 k1 r1,sG C g2 k2 r2]) (own:=own) (by simp_all);exact⟨r,by simpa[sG,sD,bC]using h⟩
def qaS{C:Bk}{l:List D}{g1 g2 g3:Rg}{k1 r1 k2 r2 k3 r3 own:Int}:∃r:Int,aV [.tup<|.str w0::l,q,k,.lst [bC C g1 k1 r1,bC C g2 k2 r2,bC C g3 k3 r3],.int own]=bx (.tup [.tup<|.str w0::l,q,k,.int<|1+((size g1:Int)+((size g2:Int)+(size g3:Int))),.int<|zA w0+(lets g1+(lets g2+lets g3)),.int r,.int<|own+(cost C g1+(cost C g2+cost C g3))]):=by
 obtain⟨r,h⟩:=lE (w0:=w0) (l:=l) (q:=q) (k:=k) (ss:=[sG C g1 k1 r1,sG C g2 k2 r2,sG C g3 k3 r3]) (own:=own) (by simp_all);exact⟨r,by simpa[sG,sD,bC]using h⟩
def FV:zA "use" = 0:=by decide
def MO:zA "pick" = 0:=by decide
def JK:zA "again" = 0:=by decide
def UH:zA "let" = 1:=by decide
def pZ:f7 rs []=0:=rfl
def OX(h:C.makes[v]?=bx m):mpr C v=m.pr:=by unfold mpr;rw[h];rfl
def mG(B:OkB C)(K:OkN C kn)(G:Gs U C kn g k n)(hn:n<=24):∃g' z,h7 [a7 C,bC C g k r,.int c]=bx (bC C g' z r)/\Gs U C kn g' z n/\size g'=size g/\lets g'=lets g:=by
 obtain⟨e,w,ew,q⟩:=CQ B (j:=k) (c:=c) G.k0 G.k1;have s:=d6 B q G.k0 G.k1;have Y:=G.wf.short B K;have J:=xE (g:=g) (v:=w) (by have:=G.sz;lia) Y.1 s.1;have ec:=qX (C:=C) (yR q) (by lia);refine⟨beh g w,e,aL ?_,⟨G.wf.beh q,s.2.1,s.2.2,by rw[mO];exact G.sz,G.nf.beh⟩,mO g w,sV g w⟩;unfold mE;rw[aE (ρ':=[bx<|a7 C,bx<|bC C g k r,bx<|.int c,bx<|.int e,bx<|tupI w])<|by simp_all[aH,B4,ew]];have N:y3 (bC C g k r) (bx 3) (bx 6)=bx (.tup [.int (size g:Int),.int<|lets g,.int r]):=rfl;have W:aZ 6=cf:=rfl;have F:aZ 7=cf:=rfl;simp_all[uQ,uP,qcj,J,ec,N,W,F];simp_all[bC,PN,mO,sV,BP]
def pM{C:Bk}{v:Nat}{m:Mk}(h:C.makes[v]?=bx m):gC (C.makes.map kD) (v:Int)=bx (kD m):=bS<|by rw[zaD,h];rfl
def E6(p:Nat×Nat):D:=.tup [.int (p.1:Int),.int (p.2:Int)]
def R9{C:Bk}{v:Nat}{m:Mk}(z:C.makes[v]?=bx m){g:Rg}{k1 r1:Int}:∃r,aV [.tup [.str "use",.str m.nm,.tup [pt g]],.tup [.str "use",.int (v:Int),.tup [rd g],.tup []],.int m.g,.lst [bC C g k1 r1],.int m.pr]=bx (bC C (.use1 v m.nm g []) m.g r):=by
 obtain⟨r,h⟩:=qaO (C:=C) (w0 := "use") (l:=[.str m.nm,.tup [pt g]]) (q:=.tup [.str "use",.int (v:Int),.tup [rd g],.tup []]) (k:=.int m.g) (g1:=g) (k1:=k1) (r1:=r1) (own:=m.pr);exact⟨r,h.trans<|by simp_all[bC,pt,rd,size,lets,cost,tupI,OX z,pZ,FV]⟩
def HH{C:Bk}{v:Nat}{m:Mk}(z:C.makes[v]?=bx m){g g':Rg}{k1 r1 k2 r2:Int}:∃r,aV [.tup [.str "use",.str m.nm,.tup [pt g,pt g']],.tup [.str "use",.int (v:Int),.tup [rd g,rd g'],.tup []],.int m.g,.lst [bC C g k1 r1,bC C g' k2 r2],.int m.pr]=bx (bC C (.use2 v m.nm g g' []) m.g r):=by
 obtain⟨r,h⟩:=P0 (C:=C) (w0 := "use") (l:=[.str m.nm,.tup [pt g,pt g']]) (q:=.tup [.str "use",.int (v:Int),.tup [rd g,rd g'],.tup []]) (k:=.int m.g) (g1:=g) (k1:=k1) (r1:=r1) (g2:=g') (k2:=k2) (r2:=r2) (own:=m.pr);exact⟨r,h.trans<|by simp_all[bC,pt,rd,size,lets,cost,tupI,OX z,pZ,FV]⟩
def OO:∃r,aV [.tup [.str "let",.str x,pt g,pt g'],.tup [.str "let",.str x,.int j,rd g,rd g'],.int k,.lst [bC C g k1 r1,bC C g' k2 r2],.int 0]=bx (bC C (.lett x j g g') k r):=by
 obtain⟨r,h⟩:=P0 (C:=C) (w0 := "let") (l:=[.str x,pt g,pt g']) (q:=.tup [.str "let",.str x,.int j,rd g,rd g']) (k:=.int k) (g1:=g) (k1:=k1) (r1:=r1) (g2:=g') (k2:=k2) (r2:=r2) (own:=0);exact⟨r,h.trans<|by simp_all[bC,pt,rd,size,lets,cost,UH]⟩
def A4:∃r,aV [.tup [.str "again",.int n,.int j,.str x,pt g,pt g'],.tup [.str "again",.int n,.int j,.str x,rd g,rd g',.tup []],.int k,.lst [bC C g k1 r1,bC C g' k2 r2],.int 0]=bx (bC C (.again n j x g g' []) k r):=by
 obtain⟨r,h⟩:=P0 (C:=C) (w0 := "again") (l:=[.int n,.int j,.str x,pt g,pt g']) (q:=.tup [.str "again",.int n,.int j,.str x,rd g,rd g',.tup []]) (k:=.int k) (g1:=g) (k1:=k1) (r1:=r1) (g2:=g') (k2:=k2) (r2:=r2) (own:=0);exact⟨r,h.trans<|by simp_all[bC,pt,rd,size,lets,cost,tupI,pZ,JK]⟩
def xJ:∃r,aV [.tup [.str "pick",.int c,.int j,pt g,pt g',pt g2],.tup [.str "pick",.int c,.int j,rd g,rd g',rd g2,.tup []],.int k,.lst [bC C g k1 r1,bC C g' k2 r2,bC C g2 k3 r3],.int 0]=bx (bC C (.pick c j g g' g2 []) k r):=by
 obtain⟨r,h⟩:=qaS (C:=C) (w0 := "pick") (l:=[.int c,.int j,pt g,pt g',pt g2]) (q:=.tup [.str "pick",.int c,.int j,rd g,rd g',rd g2,.tup []]) (k:=.int k) (g1:=g) (k1:=k1) (r1:=r1) (g2:=g') (k2:=k2) (r2:=r2) (g3:=g2) (k3:=k3) (r3:=r3) (own:=0);exact⟨r,h.trans<|by simp_all[bC,pt,rd,size,lets,cost,tupI,pZ,MO]⟩
def xS{bk K s c G J q R nm N pd:D}{o:Option D}{z F zs ps rs:List D}(h1:aJ q (.int 1)=bx (.tup z))(h0:aJ q (.int 0)=bx nm)(h2:aJ q (.int 2)=bx N)(h4:aJ q (.int 4)=bx pd)(tl:z.length<=2)(zl:zs.length<=2)(cl:bD (aS 0) fN (aR bN<|aC (aD 1)<|aC (aD 2)<|aC (aD 0)<|aC (bB hV (aD 3)<|eC<|.int 6) aY) z [cb,bx bk,bx K,bx c]=bx F)(W:kJ (.lst F) J s=bx (.lst zs))
  (c0:bD (aS 0) fN (bB aJ (aD 0)<|eC<|.int 0) zs [cb]=bx ps) (Y:bD (aS 0) fN (bB aJ (aD 0)<|eC<|.int 1) zs [cb]=bx rs) (eo:aV [.tup [.str "use",nm,.tup ps],.tup [.str "use",G,.tup rs,.tup []],N,.lst zs,pd]=bx R) :
  dD (d9 8<|dZ [cb,bx 0,bx 1,bx 3] (fM<|bB aJ (aD 7)<|eC<|.int 1) (aS 0) fN<|aR bN<|aC (aD 1)<|aC (aD 2)<|aC (aD 0)<|aC (bB hV (aD 3)<|eC<|.int 6) aY)
   (dD (EX 8 (aD 6)<|aD 2)
   (dD (d9 9<|fA<|aC (eC<|.str "use")<|aC (bB aJ (aD 7)<|eC<|.int 0)<|aC (aR jY<|aC (dZ [cb] (fM<|aD 8) (aS 0) fN<|bB aJ (aD 0)<|eC<|.int 0) aY) aY)
   (dD (d9 10<|fA<|aC (eC<|.str "use")<|aC (aD 5)<|aC (aR jY<|aC (dZ [cb] (fM<|aD 8) (aS 0) fN<|bB aJ (aD 0)<|eC<|.int 1) aY)<|aC (fA aY) aY)
   (B5<|aR aV<|aC (aD 9)<|aC (aD 10)<|aC (bB aJ (aD 7)<|eC<|.int 2)<|aC (aD 8)<|aC (bB aJ (aD 7)<|eC<|.int 4) aY)))) [bx bk,bx K,bx s,bx c,o,bx G,bx J,bx q,cb,cb,cb]=bx (.rt R):=by
 have U:bD (aS 0) fN (aR bN<|aC (aD 1)<|aC (aD 2)<|aC (aD 0)<|aC (bB hV (aD 3)<|eC<|.int 6) aY) z (hW [cb,bx 0,bx 1,bx 3] [bx bk,bx K,bx s,bx c,o,bx G,bx J,bx q,cb,cb,cb])=bx F:=cl
 ac_rfl
def NP{U:List Str}{C:Bk}(B:OkB C){kn:List (Str×Int)}(hk:kn.length<=100){g:Rg}{k r c:Int}{n:Nat}(G:Gs U C kn g k n)(c0:0<=c)(c1:c<10^60){v a:Nat}{m:Mk}(Y:C.makes[v]?=bx m)(q:m.takes[a]?=bx k)(o:Option D) :
  ∃g' k' W,dD (d9 8<|dZ [cb,bx 0,bx 1,bx 3] (fM<|bB aJ (aD 7)<|eC<|.int 1) (aS 0) fN<|aR bN<|aC (aD 1)<|aC (aD 2)<|aC (aD 0)<|aC (bB hV (aD 3)<|eC<|.int 6) aY)
   (dD (EX 8 (aD 6)<|aD 2)
   (dD (d9 9<|fA<|aC (eC<|.str "use")<|aC (bB aJ (aD 7)<|eC<|.int 0)<|aC (aR jY<|aC (dZ [cb] (fM<|aD 8) (aS 0) fN<|bB aJ (aD 0)<|eC<|.int 0) aY) aY)
   (dD (d9 10<|fA<|aC (eC<|.str "use")<|aC (aD 5)<|aC (aR jY<|aC (dZ [cb] (fM<|aD 8) (aS 0) fN<|bB aJ (aD 0)<|eC<|.int 1) aY)<|aC (fA aY) aY)
   (B5<|aR aV<|aC (aD 9)<|aC (aD 10)<|aC (bB aJ (aD 7)<|eC<|.int 2)<|aC (aD 8)<|aC (bB aJ (aD 7)<|eC<|.int 4) aY)))) [bx<|a7 C,bx<|.lst<|kn.map bQ,bx<|bC C g k r,bx<|.int c,o,bx<|.int (v:Int),bx<|.int (a:Int),bx<|kD m,cb,cb,cb]=bx (.rt<|bC C g' k' W)/\Gs U C kn g' k' (n+2):=by
 have N:=zax Y;have am:=Ten
 have gb:=B.gb m N;have tb:=B.tb m N;have sz:=G.sz;rcases B.tk m N with⟨t,J⟩|⟨t,u,J⟩
 .rw[J]at q tb
  have m1:aJ (kD m) (.int 1)=bx (.tup [.int t]):=by rw[y8,J];rfl
  have z:=tb t (by simp_all);obtain⟨g2,e2,w2,s2,l2,n2⟩:=dN B (kn:=kn) (k:=t) (c:=c/6) hk z.1 z.2 (by lia)<|by lia
  match a,q with
  |0,q=>
   have F:t=k:=by simpa using q
   subst F;obtain⟨W,eo⟩:=R9 Y (g:=g) (k1:=t) (r1:=r);have pu:kJ (.lst [bC C g2 t 0]) (.int 0) (bC C g t r)=bx (.lst [bC C g t r]):=lP (by decide) (by simp_all);exact⟨.use1 v m.nm g [],m.g,W,xS (bk:=a7 C) (K:=.lst<|kn.map bQ) (c:=.int c) m1 ET K1 UR (by simp_all) (by simp_all) (by ac_rfl) pu (by ac_rfl) (by ac_rfl) eo,⟨⟨m,t,Y,rfl,J,G.wf,rfl⟩,gb.1,gb.2,by simp only[size];lia,G.nf⟩⟩
  |a+1,q=>simp[-zad,-zac,aA,aB]at q
 .rw[J]at q tb
  have m1:aJ (kD m) (.int 1)=bx (.tup [.int t,.int u]):=by rw[y8,J];rfl
  have z:=tb t (by simp_all);have ab:=tb u (by simp_all);obtain⟨g2,e2,w2,s2,l2,n2⟩:=dN B (kn:=kn) (k:=t) (c:=c/6) hk z.1 z.2 (by lia) (by lia);obtain⟨g3,e3,w3,s3,l3,n3⟩:=dN B (kn:=kn) (k:=u) (c:=c/6) hk ab.1 ab.2 (by lia)<|by lia
  match a,q with
  |0,q=>
   have F:t=k:=by simpa using q
   subst F;obtain⟨W,eo⟩:=HH Y (g:=g) (k1:=t) (r1:=r) (g':=g3) (k2:=u) (r2:=0);have pu:kJ (.lst [bC C g2 t 0,bC C g3 u 0]) (.int 0) (bC C g t r)=bx (.lst [bC C g t r,bC C g3 u 0]):=lP (by decide) (by simp_all);exact⟨.use2 v m.nm g g3 [],m.g,W,xS (bk:=a7 C) (K:=.lst<|kn.map bQ) (c:=.int c) m1 ET K1 UR (by simp_all) (by simp_all) (by ac_rfl) pu (by ac_rfl) (by ac_rfl) eo,⟨⟨m,t,u,Y,rfl,J,G.wf,w3,rfl⟩,gb.1,gb.2,by simp only[size];lia,⟨G.nf,n3 _ _⟩⟩⟩
  |1,q=>
   have F:u=k:=by simpa using q
   subst F;obtain⟨W,eo⟩:=HH Y (g:=g2) (k1:=t) (r1:=0) (g':=g) (k2:=u) (r2:=r);have pu:kJ (.lst [bC C g2 t 0,bC C g3 u 0]) (.int 1) (bC C g u r)=bx (.lst [bC C g2 t 0,bC C g u r]):=lP (by decide) (by simp_all);exact⟨.use2 v m.nm g2 g [],m.g,W,xS (bk:=a7 C) (K:=.lst<|kn.map bQ) (c:=.int c) m1 ET K1 UR (by simp_all) (by simp_all) (by ac_rfl) pu (by ac_rfl) (by ac_rfl) eo,⟨⟨m,t,u,Y,rfl,J,w2,G.wf,rfl⟩,gb.1,gb.2,by simp only[size];lia,⟨n2 _ _,G.nf⟩⟩⟩
  |a+2,q=>simp[-zad,-zac,aA,aB]at q
def Gs.mono(G:Gs U C kn g k n)(h:n<=n'):Gs U C kn g k n':=⟨G.wf,G.k0,G.k1,zaO G.sz h,G.nf⟩
def CD{U:List Str}{C:Bk}(B:OkB C){kn:List (Str×Int)}(hk:kn.length<=100){g:Rg}{k r c:Int}{n:Nat}(G:Gs U C kn g k n)(c0:0<=c)(c1:c<10^60):∃g' F J,kX [a7 C,.lst<|kn.map bQ,bC C g k r,.int c]=bx (bC C g' F J)/\Gs U C kn g' F (n+2):=by
 suffices h:∃d,kX [a7 C,.lst<|kn.map bQ,bC C g k r,.int c]=bx d/\∃g' F J,d=bC C g' F J/\Gs U C kn g' F (n+2) by
  obtain⟨d,h1,g',F,J,rfl,h2⟩:=h;exact⟨g',F,J,h1,h2⟩
 have ml:=B.ml;refine dQ ?_;unfold rR;rw[aE<|aM (d:=.lst [])<|by simp_all];refine iW (items:=aQ 0 1 C.makes.length) (by simp_all[aH,u7,cF<|show C.makes.length<=1000000 by lia]) (λi ρ=>∃(ps:List<|Nat×Nat) (o5 q:Option D),ρ=[bx<|a7 C,bx<|.lst<|kn.map bQ,bx<|bC C g k r,bx<|.int c,bx<|.lst<|ps.map E6,o5,q,cb,cb,cb,cb]/\(∀p∈ps,∃m,C.makes[p.1]?=bx m/\m.takes[p.2]?=bx k)/\ps.length<=2*i) ⟨[],cb,cb,by simp_all[aH],(λ_ h=>nomatch h),by simp_all⟩ ?_ ?_
 .rintro i x ρ hx ⟨ps,o5,q,rfl,Y,hl⟩
  obtain⟨N,rfl⟩:=bV hx;have e0:(0:Int)+(i:Int)*1=(i:Int):=by lia
  rw[e0];obtain⟨m,W⟩:∃m,C.makes[i]?=bx m:=⟨C.makes[i],za0 N⟩;have ad:=zax W;have tl:m.takes.length<=2:=by rcases B.tk m ad with⟨t,et⟩|⟨t,u,et⟩ <;> rw[et] <;> simp_all
  obtain⟨ρ',e,ag,aj,rfl,ae,al⟩:=t6 (g:=aS 6) (b:=B9 (pS<|bB kI (bB aJ (bB aJ (bB aJ (bB aJ (aD 0)<|eC<|.int 3)<|aD 5)<|eC<|.int 1)<|aD 6)<|bB aJ (aD 2)<|eC<|.int 2) (KS 4<|fA<|aC (aD 5)<|aC (aD 6) aY) LA) (items:=aQ 0 1 m.takes.length) (ρ:=[bx<|a7 C,bx<|.lst<|kn.map bQ,bx<|bC C g k r,bx<|.int c,bx<|.lst<|ps.map E6,bx<|.int (i:Int),q,cb,cb,cb,cb]) (λj ρ=>∃(ps:List<|Nat×Nat) (q:Option D),ρ=[bx<|a7 C,bx<|.lst<|kn.map bQ,bx<|bC C g k r,bx<|.int c,bx<|.lst<|ps.map E6,bx<|.int (i:Int),q,cb,cb,cb,cb]/\(∀p∈ps,∃m,C.makes[p.1]?=bx m/\m.takes[p.2]?=bx k)/\ps.length<=2*i+j) ⟨ps,q,rfl,Y,hl⟩ (by
   rintro j x ρ hx ⟨ps,q,rfl,Y,hl⟩;obtain⟨N,rfl⟩:=bV hx;have e0:(0:Int)+(j:Int)*1=(j:Int):=by lia
   rw[e0];obtain⟨t,ht⟩:∃t,m.takes[j]?=bx t:=⟨m.takes[j],za0 N⟩;have af:gC (m.takes.map D.int) (j:Int)=bx (.int t):=bS (by rw[zaD,ht];rfl);have hz:(ps.map E6).length<=1000000:=by rw[zak];lia
   have e3:=pM W;have ao:aJ (tupI m.takes) (.int (j:Int))=bx (.int t):=af;by_cases h:t=k
   .refine⟨[bx<|a7 C,bx<|.lst<|kn.map bQ,bx<|bC C g k r,bx<|.int c,bx<|.lst<|(ps++[(i,j)]).map E6,bx<|.int (i:Int),bx<|.int (j:Int),cb,cb,cb,cb],?_,ps++[(i,j)],_,rfl,λp ai=>?_,by simp_all;lia⟩
    .have de:kI (.int t) (.int k)=bx (.bl cf):=by simp_all[h]
     rw[show(ps++[(i,j)]).map E6=ps.map E6++[.tup [.int (i:Int),.int (j:Int)]] by simp_all[E6]]
     ac_rfl
    .rcases List.mem_append.mp ai with z|z
     .exact Y p z
     .rw[List.mem_singleton.mp z];exact⟨m,W,by rw[<- h];exact ht⟩
   .refine⟨[bx<|a7 C,bx<|.lst<|kn.map bQ,bx<|bC C g k r,bx<|.int c,bx<|.lst<|ps.map E6,bx<|.int (i:Int),bx<|.int (j:Int),cb,cb,cb,cb],?_,ps,_,rfl,Y,by lia⟩
    have de:kI (.int t) (.int k)=bx (.bl ci):=by simp_all[h]
    ac_rfl)
  rw[bH]at al;refine⟨_,?_,ag,bx<|.int (i:Int),aj,rfl,ae,by lia⟩;show(aS 5 _ _).bind _=_;rw[q_name,aA,q_for];have hf:lR bY (aC (aR gB<|aC (bB aJ (bB aJ (bB aJ (aD 0)<|eC<|.int 3)<|aD 5)<|eC<|.int 1) aY) aY) [bx<|a7 C,bx<|.lst<|kn.map bQ,bx<|bC C g k r,bx<|.int c,bx<|.lst<|ps.map E6,bx<|.int (i:Int),q,cb,cb,cb,cb]=bx (aQ 0 1 m.takes.length):=by
   simp_all[u7,pM W,y8,tupI,cF<|show m.takes.length<=1000000 by lia]
  exact(congrArg (λz=>zcT z _) hf).trans e
 .rintro ρ ⟨ps,o5,q,rfl,Y,hl⟩
  rw[bH]at hl;by_cases h0:ps.length=0
  .exact⟨bC C g k r,uD<|by simp_all[h0],g,k,r,rfl,G.mono<|by lia⟩
  .have lp:(0:Int)<(ps.length:Int):=by lia
   obtain⟨d,W,_,hd⟩:=uK (l:=ps.map E6) (k:=c%(ps.length:Int)) (zat _<|zaX lp) (by rw[zak];exact zau _ lp);obtain⟨⟨v,a⟩,am,rfl⟩:=List.mem_map.mp W;obtain⟨m,aa,ha⟩:=Y _ am;obtain⟨g',F,J,e,G'⟩:=NP B hk (r:=r) G c0 c1 aa ha<|bx<|.lst<|ps.map E6;rw[aE (ρ':=[bx<|a7 C,bx<|.lst<|kn.map bQ,bx<|bC C g k r,bx<|.int c,bx<|.lst<|ps.map E6,o5,q,cb,cb,cb,cb])<|by simp_all[h0]];rw[aE (ρ':=[bx<|a7 C,bx<|.lst<|kn.map bQ,bx<|bC C g k r,bx<|.int c,bx<|.lst<|ps.map E6,bx<|.int (v:Int),bx<|.int (a:Int),cb,cb,cb,cb])<|by simp_all[bO lp,hd];simp_all[E6]];rw[aE<|aM (d:=kD m)<|by simp_all[u7,pM aa]];exact⟨_,e,g',F,J,rfl,G'⟩
def lF{bk K s R p0 p1 p2 r0 r1 r2 N W x2 G J F:D}{y a k c z:Int}{L:List D}(ha:dI (.int y) (.int 3)=bx (.int a))(hs:aJ s (.int 2)=bx (.int k))(U:aJ bk (.int 1)=bx (.tup L))(hq:∃q:Int,dI (.int<|y/3) (.int (L.length:Int))=bx (.int q)/\((a=0/\c=k/\z=q)\/(¬ a=0/\c=q/\z=k)))(e0:bN [bk,K,.int c,.int<|y/5]=bx N)(e1:bN [bk,K,.int z,.int<|y/7]=bx W)(e2:bN [bk,K,.int z,.int<|y/11]=bx x2)(pu:kJ (.lst<|[N,W]++[x2]) (.int a) s=bx (.lst [G,J,F]))
  (a0:aJ G (.int 0)=bx p0) (a1:aJ J (.int 0)=bx p1) (a2:aJ F (.int 0)=bx p2) (b0:aJ G (.int 1)=bx r0) (b1:aJ J (.int 1)=bx r1) (b2:aJ F (.int 1)=bx r2) (eo:aV [.tup [.str "pick",.int c,.int z,p0,p1,p2],.tup [.str "pick",.int c,.int z,r0,r1,r2,.tup []],.int z,.lst [G,J,F],.int 0]=bx R):iF [bk,K,s,.int y]=bx R:=by
 refine aL ?_;unfold mI;rw[aE<|aM (d:=.int a)<|by ac_rfl,aE<|aM (d:=.int k)<|by ac_rfl,aE<|aM (d:=.int k)<|by ac_rfl];have ei:B9 (pS<|bB kI (aD 4)<|eC<|.int 0) (d9 6<|bB dI (bB hV (aD 3)<|eC<|.int 3)<|aR gB<|aC (bB aJ (aD 0)<|eC<|.int 1) aY) (d9 5<|bB dI (bB hV (aD 3)<|eC<|.int 3)<|aR gB<|aC (bB aJ (aD 0)<|eC<|.int 1) aY) [bx bk,bx K,bx s,bx<|.int y,bx<|.int a,bx<|.int k,bx<|.int k,cb,cb]=bx (.nx [bx bk,bx K,bx s,bx<|.int y,bx<|.int a,bx<|.int c,bx<|.int z,cb,cb]):=by
  obtain⟨q,Y,⟨h,rfl,rfl⟩|⟨h,rfl,rfl⟩⟩:=hq
  .simp_all[h,U,g9,Y]
  .simp_all[h,U,g9,Y]
 refine Eq.trans (aE ei) ?_
 ac_rfl
def xF(B:OkB C)(hk:kn.length<=100)(G:Gs U C kn g k n)(y0:0<=y)(y1:y<10^60):∃g' k' N,iF [a7 C,.lst<|kn.map bQ,bC C g k r,.int y]=bx (bC C g' k' N)/\Gs U C kn g' k' (n+3):=by
 have aq:=Ten
 have mp:(0:Int)<(C.kinds.length:Int):=by have:=B.k1;lia
 have F:=zat (y/3)<|zaX mp;have J:=zau (y/3) mp;have sz:=G.sz;have dm:∀ {a:Int},y%3=a->dI (.int y) (.int 3)=bx (.int a):=λ{a} h=>by rw[bO<|by decide,h]
 have dq:dI (.int<|y/3) (.int ((C.kinds.map D.str).length:Int))=bx (.int<|y/3%(C.kinds.length:Int)):=by rw[zak];exact bO mp
 have W:∀(k:Int),0<=k->k<(C.kinds.length:Int)->∀c:Int,0<=c->c<10^60->_:=λk h0 h1 c c0 c1=>dN B (kn:=kn) (k:=k) (c:=c) hk h0 h1 c0 c1
 generalize y/3%(C.kinds.length:Int)=q at F J dq;by_cases h:y%3=0
 .obtain⟨z,e0,w0,s0,l0,o0⟩:=W k G.k0 G.k1 (y/5) (by lia) (by lia)
  obtain⟨g1,e1,w1,s1,l1,o1⟩:=W q F J (y/7) (by lia) (by lia);obtain⟨g2,e2,w2,s2,l2,o2⟩:=W q F J (y/11) (by lia) (by lia);obtain⟨N,Y⟩:=xJ (C:=C) (c:=k) (j:=q) (k:=q) (g:=g) (k1:=k) (r1:=r) (g':=g1) (k2:=q) (r2:=0) (g2:=g2) (k3:=q) (r3:=0);have pu:kJ (.lst [bC C z k 0,bC C g1 q 0,bC C g2 q 0]) (.int 0) (bC C g k r)=bx (.lst [bC C g k r,bC C g1 q 0,bC C g2 q 0]):=lP (by decide) (by simp_all);exact⟨.pick k q g g1 g2 [],q,N,lF (dm h) B4 B3 ⟨q,dq,.inl ⟨rfl,rfl,rfl⟩⟩ e0 e1 e2 pu uQ uQ uQ uP uP uP Y,⟨⟨⟨G.k0,G.k1⟩,⟨F,J⟩,G.wf,w1,w2,rfl⟩,F,J,by simp only[size];lia,⟨G.nf,o1 _ _,o2 _ _⟩⟩⟩
 .obtain⟨z,e0,w0,s0,l0,o0⟩:=W q F J (y/5) (by lia) (by lia)
  obtain⟨g1,e1,w1,s1,l1,o1⟩:=W k G.k0 G.k1 (y/7) (by lia) (by lia);obtain⟨g2,e2,w2,s2,l2,o2⟩:=W k G.k0 G.k1 (y/11) (by lia) (by lia);rcases(by lia:y%3=1\/y%3=2)with h|h
  .obtain⟨N,Y⟩:=xJ (C:=C) (c:=q) (j:=k) (k:=k) (g:=z) (k1:=q) (r1:=0) (g':=g) (k2:=k) (r2:=r) (g2:=g2) (k3:=k) (r3:=0)
   have pu:kJ (.lst [bC C z q 0,bC C g1 k 0,bC C g2 k 0]) (.int 1) (bC C g k r)=bx (.lst [bC C z q 0,bC C g k r,bC C g2 k 0]):=lP (by decide) (by simp_all);exact⟨.pick q k z g g2 [],k,N,lF (dm h) B4 B3 ⟨q,dq,.inr ⟨by decide,rfl,rfl⟩⟩ e0 e1 e2 pu uQ uQ uQ uP uP uP Y,⟨⟨⟨F,J⟩,⟨G.k0,G.k1⟩,w0,G.wf,w2,rfl⟩,G.k0,G.k1,by simp only[size];lia,⟨o0 _ _,G.nf,o2 _ _⟩⟩⟩
  .obtain⟨N,Y⟩:=xJ (C:=C) (c:=q) (j:=k) (k:=k) (g:=z) (k1:=q) (r1:=0) (g':=g1) (k2:=k) (r2:=0) (g2:=g) (k3:=k) (r3:=r)
   have pu:kJ (.lst [bC C z q 0,bC C g1 k 0,bC C g2 k 0]) (.int 2) (bC C g k r)=bx (.lst [bC C z q 0,bC C g1 k 0,bC C g k r]):=lP (by decide) (by simp_all);exact⟨.pick q k z g1 g [],k,N,lF (dm h) B4 B3 ⟨q,dq,.inr ⟨by decide,rfl,rfl⟩⟩ e0 e1 e2 pu uQ uQ uQ uP uP uP Y,⟨⟨⟨F,J⟩,⟨G.k0,G.k1⟩,w0,w1,G.wf,rfl⟩,G.k0,G.k1,by simp only[size];lia,⟨o0 _ _,o1 _ _,G.nf⟩⟩⟩
def FD(z:kn.length<=99):dR (.lst<|kn.map bQ) (.lst [.tup [.str x,.int k]])=bx (.lst<|(kn++[(x,k)]).map bQ):=by
 have q:aZ (kn.length+1)=cf:=decide_eq_true (by lia);simp_all[q,bQ]
def vR:∀p∈kn++[x],p∈x::kn:=λp q=>by
 rcases List.mem_append.mp q with z|z
 .exact zaq _ z
 .rw[List.mem_singleton.mp z];exact zar ..
def w8(B:OkB C)(N:kn.length<=99)(hx:x∉kn.map (·.1))(hU:x∈U)(G:Gs U C kn g k n)(y0:0<=y)(y1:y<10^60):∃g' z q,mB [a7 C,.lst<|kn.map bQ,bC C g k r,.str x,.int y]=bx (bC C g' z q)/\Gs U C kn g' z (n+2):=by
 have W:=Ten
 have a0:=zat y (show(4:Int)≠0 by decide);have Y:=zau y (show(0:Int)<4 by decide);have sz:=G.sz;obtain⟨F,J,w0,s0,l0,o0⟩:=dN B (kn:=kn++[(x,k)]) (k:=k) (c:=y/4) (by simp_all;lia) G.k0 G.k1 (by lia) (by lia);obtain⟨q,eo⟩:=A4 (C:=C) (x:=x) (n:=y%4) (j:=k) (k:=k) (g:=g) (k1:=k) (r1:=r) (g':=F) (k2:=k) (r2:=0);refine⟨.again (y%4) k x g F [],k,q,aL ?_,⟨⟨⟨a0,Y⟩,⟨G.k0,G.k1⟩,G.wf,w0.mono vR,rfl⟩,G.k0,G.k1,by simp only[size];lia,⟨G.nf,⟨hx,hU⟩,o0 _ _⟩⟩⟩;have ks:=FD (x:=x) (k:=k) N;generalize D.lst ((kn++[(x,k)]).map bQ)=K at ks J;generalize D.lst (kn.map bQ)=K0 at ks;unfold lZ
 ac_rfl
def zE(B:OkB C)(Y:kn.length<=99)(hx:x∉kn.map (·.1))(hU:x∈U)(G:Gs U C kn g k n)(y0:0<=y)(y1:y<10^60):∃g' J z,oN [a7 C,.lst<|kn.map bQ,bC C g k r,.str x,.int y]=bx (bC C g' J z)/\Gs U C kn g' J (n+2):=by
 have ab:=Ten
 have q:(0:Int)<(C.kinds.length:Int):=by have:=B.k1;lia
 have F:=zat y<|zaX q;have W:=zau y q;have sz:=G.sz;obtain⟨N,e0,w0,s0,l0,o0⟩:=dN B (kn:=kn++[(x,k)]) (k:=y%(C.kinds.length:Int)) (c:=y/4) (by simp_all;lia) F W (by lia) (by lia);obtain⟨z,eo⟩:=OO (C:=C) (x:=x) (j:=k) (k:=y%(C.kinds.length:Int)) (g:=g) (k1:=k) (r1:=r) (g':=N) (k2:=y%(C.kinds.length:Int)) (r2:=0);have dk:dI (.int y) (.int ((C.kinds.map D.str).length:Int))=bx (.int<|y%(C.kinds.length:Int)):=by rw[zak];exact bO q
 refine⟨.lett x k g N,y%(C.kinds.length:Int),z,aL ?_,⟨⟨G.wf,w0.mono vR⟩,F,W,by simp only[size];lia,⟨G.nf,⟨hx,hU⟩,o0 _ _⟩⟩⟩;have ks:=FD (x:=x) (k:=k) Y;generalize D.lst ((kn++[(x,k)]).map bQ)=K at ks e0;generalize D.lst (kn.map bQ)=K0 at ks;unfold pE
 ac_rfl
def xC(B:OkB C)(hk:kn.length<=99)(hx:x∉kn.map (·.1))(hU:x∈U)(G:Gs U C ((x,j)::kn) g k n)(Y:0<=j)(W:j<(C.kinds.length:Int))(y0:0<=y)(y1:y<10^60):∃g' J q,iB [a7 C,.lst<|kn.map bQ,bC C g k r,bQ (x,j),.int y]=bx (bC C g' J q)/\Gs U C kn g' J (n+2):=by
 suffices h:∃d,iB [a7 C,.lst<|kn.map bQ,bC C g k r,bQ (x,j),.int y]=bx d/\∃g' J q,d=bC C g' J q/\Gs U C kn g' J (n+2) by
  obtain⟨d,h1,g',J,q,rfl,h2⟩:=h;exact⟨g',J,q,h1,h2⟩
 have ai:=Ten
 have sz:=G.sz;obtain⟨F,e0,w0,s0,l0,o0⟩:=dN B (kn:=kn) (k:=j) (c:=y/8) (by lia) Y W (by lia) (by lia);refine dQ ?_;unfold mK;rw[aE (ρ':=[bx<|a7 C,bx<|.lst<|kn.map bQ,bx<|bC C g k r,bx<|bQ (x,j),bx<|.int y,bx<|.str x,bx<|.int j,cb,cb,cb,cb,cb])<|by simp_all[aH];simp_all[bQ]];rw[aE<|aM (d:=bC C F j 0)<|by simp_all[g9,e0]];rw[aE<|aM (d:=.lst [bC C F j 0,bC C g k r])<|by simp_all];have hl:∃d,dD (d9 9<|fA<|aC (eC<|.str "let")<|aC (aD 5)<|aC (aD 6)<|aC (bB aJ (aD 7)<|eC<|.int 1)<|aC (bB aJ (aD 2)<|eC<|.int 1) aY)
   (B5<|aR aV<|aC (fA<|aC (eC<|.str "let")<|aC (aD 5)<|aC (bB aJ (aD 7)<|eC<|.int 0)<|aC (bB aJ (aD 2)<|eC<|.int 0) aY)<|aC (aD 9)<|aC (bB aJ (aD 2)<|eC<|.int 2)<|aC (aD 8)<|aC (eC<|.int 0) aY) [bx<|a7 C,bx<|.lst<|kn.map bQ,bx<|bC C g k r,bx<|bQ (x,j),bx<|.int y,bx<|.str x,bx<|.int j,bx<|bC C F j 0,bx<|.lst [bC C F j 0,bC C g k r],cb,cb,cb]=bx (.rt d)/\∃g' J q,d=bC C g' J q/\Gs U C kn g' J (n+2):=by
  obtain⟨q,eo⟩:=OO (C:=C) (x:=x) (j:=j) (k:=k) (g:=F) (k1:=j) (r1:=0) (g':=g) (k2:=k) (r2:=r);refine⟨bC C (.lett x j F g) k q,?_,.lett x j F g,k,q,rfl,⟨⟨w0,G.wf⟩,G.k0,G.k1,by simp only[size];lia,⟨o0 _ _,⟨hx,hU⟩,G.nf⟩⟩⟩
  ac_rfl
 have done:∀b:Bool,WB (pS<|bB kI (bB dI (aD 4)<|eC<|.int 2)<|eC<|.int 0) (WB (pS<|bB wX (aD 6)<|bB aJ (aD 2)<|eC<|.int 2)<|pS<|bB uR (bB aJ (aD 2)<|eC<|.int 5)<|eC<|.int 1) [bx<|a7 C,bx<|.lst<|kn.map bQ,bx<|bC C g k r,bx<|bQ (x,j),bx<|.int y,bx<|.str x,bx<|.int j,bx<|bC C F j 0,bx<|.lst [bC C F j 0,bC C g k r],cb,cb,cb]=bx b->(b=ci->j=k)->∃d,dD (B9 (WB (pS<|bB kI (bB dI (aD 4)<|eC<|.int 2)<|eC<|.int 0)<|WB (pS<|bB wX (aD 6)<|bB aJ (aD 2)<|eC<|.int 2)<|pS<|bB uR (bB aJ (aD 2)<|eC<|.int 5)<|eC<|.int 1) (dD (d9 9<|fA<|aC (eC<|.str "let")<|aC (aD 5)<|aC (aD 6)<|aC (bB aJ (aD 7)<|eC<|.int 1)<|aC (bB aJ (aD 2)<|eC<|.int 1) aY)
   (B5<|aR aV<|aC (fA<|aC (eC<|.str "let")<|aC (aD 5)<|aC (bB aJ (aD 7)<|eC<|.int 0)<|aC (bB aJ (aD 2)<|eC<|.int 0) aY)<|aC (aD 9)<|aC (bB aJ (aD 2)<|eC<|.int 2)<|aC (aD 8)<|aC (eC<|.int 0) aY)) LA)
   (dD (d9 10<|bB dI (bB hV (aD 4)<|eC<|.int 2)<|eC<|.int 4)
   (dD (d9 11<|fA<|aC (eC<|.str "again")<|aC (aD 10)<|aC (aD 6)<|aC (aD 5)<|aC (bB aJ (aD 7)<|eC<|.int 0)<|aC (bB aJ (aD 2)<|eC<|.int 0) aY)
   (B5<|aR aV<|aC (aD 11)<|aC (fA<|aC (eC<|.str "again")<|aC (aD 10)<|aC (aD 6)<|aC (aD 5)<|aC (bB aJ (aD 7)<|eC<|.int 1)<|aC (bB aJ (aD 2)<|eC<|.int 1)<|aC (fA aY) aY)<|aC (aD 6)<|aC (aD 8)<|aC (eC<|.int 0) aY))) [bx<|a7 C,bx<|.lst<|kn.map bQ,bx<|bC C g k r,bx<|bQ (x,j),bx<|.int y,bx<|.str x,bx<|.int j,bx<|bC C F j 0,bx<|.lst [bC C F j 0,bC C g k r],cb,cb,cb]=bx (.rt d)/\∃g' J q,d=bC C g' J q/\Gs U C kn g' J (n+2):=by
  intro b hb hj;refine E8 b hb (λ_=>hl) λhf=>?_
  have N:=hj hf;subst N;have a0:=zat (y/2) (show(4:Int)≠0 by decide);have a1:=zau (y/2) (show(0:Int)<4 by decide);obtain⟨q,eo⟩:=A4 (C:=C) (x:=x) (n:=y/2%4) (j:=j) (k:=j) (g:=F) (k1:=j) (r1:=0) (g':=g) (k2:=j) (r2:=r);refine⟨bC C (.again (y/2%4) j x F g []) j q,?_,.again (y/2%4) j x F g [],j,q,rfl,⟨⟨⟨a0,a1⟩,⟨Y,W⟩,w0,G.wf,rfl⟩,Y,W,by simp only[size];lia,⟨o0 _ _,⟨hx,hU⟩,G.nf⟩⟩⟩
  ac_rfl
 by_cases h1:y%2=0
 .exact done cf (by simp_all[bO,h1]) λz=>nomatch z
 .by_cases h2:j=k
  .exact done (decide (1<r)) (by simp_all[bO,h1,B4,h2,qco]) λ_=>h2
  .exact done cf (by simp_all[bO,h1,B4,h2]) λz=>nomatch z
def R1(h:bQ p=bQ q):p=q:=by
 unfold bQ at h;injection h with h
 injection h with h1 h2
 injection h2 with h2 _
 injection h1 with h1
 injection h2 with h2
 exact Prod.ext h1 h2
def VY:wX (bQ p) (bQ q)=bx (.bl<|decide (p≠q)):=by
 have o:∀p:Str×Int,i5 (bQ p)=cf:=λp=>(eqN.tup (n:=0) (l:=[.str p.1,.int p.2]) (by
  intro d hd;rcases List.mem_cons.mp hd with z|z
  .rw[z];exact eqN.str
  .rw[List.mem_singleton.mp z];exact eqN.int)).ok (by decide)
 unfold wX IG;rw[ck<|.inr ⟨rfl,rfl,o p,o q⟩];by_cases h:p=q
 .subst h;simp_all
 .have h2:¬ bQ p=bQ q:=λz=>h (R1 z)
  simp_all[h,h2]
theorem vG:∀(kn:List<|Str×Int) (o:Option D),bD (aS 0) (pS<|bB wX (aD 0)<|bB aJ (aD 1)<|eC<|.int 0) (aD 0) (kn.map bQ) [o,bx<|.lst<|(q::left).map bQ]=bx ((kn.filter λp=>decide (p≠q)).map bQ)
 |[],o=>rfl
 |p::kn,o=>by
  have ih:=vG (q:=q) (left:=left) kn<|bx<|bQ p;by_cases h:p=q
  .simp[-zad,-zac,aA,aB,bD,at0,VY,h]at ih ⊢;simp_all[ih]
  .simp[-zad,-zac,aA,aB,bD,at0,VY,h]at ih ⊢;simp_all[ih]
def DO{F:Type}[DecidableEq F]{q:F}{P L:List F}(N:q∉P)(J:q∉L):(P++q::L).filter (λp=>decide (p≠q))=P++L:=by
 have f:∀ {l:List F},q∉l->l.filter (λp=>decide (p≠q))=l:=λ{l} h=>List.filter_eq_self.mpr λa G=>decide_eq_true λz=>h<|z ▸ G
 rw[List.filter_append,zcO,cq<|by simp_all,f N,f J]
structure Sc(nms:List Str)(kn:List<|Str×Int):Prop where
 nd:(kn.map (·.1)).Nodup
 sub:∀p∈kn,p.1∈nms.take 5
def Sc.out(N:nms.Nodup)(S:Sc nms kn)(hi:5<=i)(hx:nms[i]?=bx x):x∉kn.map (·.1):=λz=>by
 obtain⟨p,U,e⟩:=List.mem_map.mp z;have h1:=S.sub p U;rw[e]at h1;obtain⟨j,q⟩:=List.mem_iff_getElem?.mp h1;have J:=(List.getElem?_eq_some_iff.mp q).1;rw[zcd]at J;rw[List.getElem?_take_of_lt<|by lia]at q;obtain⟨W,G⟩:=List.getElem?_eq_some_iff.mp q;obtain⟨Y,F⟩:=List.getElem?_eq_some_iff.mp hx;have:=(zei N).mp<|G.trans F.symm
 lia
def Now(C:Bk)(nms:List Str)(P:List<|Str×Int)(m:Nat)(q:D):Prop:=∃g k r left,q=.tup [bC C g k r,.lst<|left.map bQ,.lst<|(P++left).map bQ]/\Gs nms C (P++left) g k (15-2*m)/\OkN C (P++left)/\left.length=m/\m<=2/\P.length<=3/\Sc nms (P++left)
def rA{C:Bk}(B:OkB C){nms:List Str}(h8:nms.length=8)(ah:nms.Nodup){P:List (Str×Int)}{m:Nat}{y:Int}(y0:0<=y)(y1:y<10^60)(N:Now C nms P m now):∃aa J,iK [a7 C,.lst<|nms.map .str,now,.int y]=bx aa/\Now C nms P J aa/\J<=m/\(4<y%7->0<m->J<m):=by
 suffices h:∃d,iK [a7 C,.lst<|nms.map .str,now,.int y]=bx d/\∃J,Now C nms P J d/\J<=m/\(4<y%7->0<m->J<m) by
  obtain⟨d,h1,J,h2⟩:=h;exact⟨d,J,h1,h2⟩
 have bf:=Ten
 obtain⟨g,k,r,left,rfl,G,K,U,as,ai,S⟩:=N;have ab:(P++left).length<=10:=by rw[zbk];lia
 have zk:aZ (P++left).length=cf:=decide_eq_true (by lia);refine dQ ?_;unfold qW;rw[aE (ρ':=[bx<|a7 C,bx<|.lst<|nms.map .str,bx<|.tup [bC C g k r,.lst<|left.map bQ,.lst<|(P++left).map bQ],bx<|.int y,bx<|bC C g k r,bx<|.lst<|left.map bQ,bx<|.lst<|(P++left).map bQ,cb,cb])<|by ac_rfl];refine E8 (decide (4<y%7) && decide (0<left.length)) ?_ ?_ ?_
 .by_cases h1:4<y%7 <;> simp_all[bO,h1]
 .intro Y
  rw[zaV]at Y;have h1:4<y%7:=of_decide_eq_true Y.1;have h2:0<left.length:=of_decide_eq_true Y.2
  match left,h2,U,K,S,G,zk,ab with
  |(x,j)::left,h2,U,K,S,G,zk,ab=>
   have es:=vG (q:=(x,j)) (left:=left) (P++(x,j)::left) cb;have nd:=S.nd;rw[zaR,zan,zeL]at nd;have ag:=List.nodup_cons.mp nd.2.1;have x1:x∉P.map (·.1):=λz=>nd.2.2 _ z _ (zar ..) rfl
   have x2:x∉left.map (·.1):=ag.1;have q1:(x,j)∉P:=λz=>x1<|List.mem_map.mpr ⟨_,z,rfl⟩
   have q2:(x,j)∉left:=λz=>x2<|List.mem_map.mpr ⟨_,z,rfl⟩
   rw[DO q1 q2]at es;have lj:=K (x,j) (by simp_all);have hx:x∉(P++left).map (·.1):=by
    rw[zaR];intro z;rcases List.mem_append.mp z with z|z
    .exact x1 z
    .exact x2 z
   have ap:∀p∈P++(x,j)::left,p∈(x,j)::(P++left):=λp hp=>by
    rcases List.mem_append.mp hp with z|z
    .exact zaq _<|zbq _ z
    .rcases List.mem_cons.mp z with z|z
     .rw[z];exact zar ..
     .exact zaq _<|za1 _ z
   have ae:∀y∈((x,j)::(P++left)).map (·.1),y∈(P++(x,j)::left).map (·.1):=λy hy=>by
    simp only[zan,zaR,za2,List.mem_append]at hy ⊢;rcases hy with z|z|z
    .exact .inr<|.inl z
    .exact .inl z
    .exact .inr<|.inr z
   rw[zbk,zaA]at ab;obtain⟨g',k',r',ec,G'⟩:=xC B (kn:=P++left) (by rw[zbk];lia) (g:=g) (j:=j) (k:=k) (r:=r) (y:=y/7) (x:=x) (n:=15-2*m) hx (List.mem_of_mem_take<|S.sub (x,j)<|by simp_all) ⟨G.wf.mono ap,G.k0,G.k1,G.sz,G.nf.anti ae⟩ lj.1 lj.2 (by lia) (by lia);have ms:∀p∈P++left,p∈P++(x,j)::left:=λp hp=>by
    rcases List.mem_append.mp hp with z|z
    .exact zbq _ z
    .exact za1 _<|zaq _ z
   rw[aE<|aM (d:=.lst<|(P++left).map bQ)<|by
    generalize (P++(x,j)::left)=kn at es zk;simp_all[zk,hW];simp[-zad,-zac,aA,aB]at es;simp_all[es]]
   have a5:left.length+1=m:=U;have cc:cutD (((x,j)::left).map bQ) (bx 1) cb=left.map bQ:=by
    rw[zan];unfold _root_.P.cutD;have s1:HT.sIx (bQ (x,j)::left.map bQ).length 0 (bx 1)=1:=by
     unfold HT.sIx;simp_all
    have s2:HT.sIx (bQ (x,j)::left.map bQ).length (bQ (x,j)::left.map bQ).length cb=left.length+1:=by
     unfold HT.sIx;simp_all
    rw[s1,s2];show(left.map bQ).take (left.length+1-1)=_;rw[Nat.add_sub_cancel,zb4<|by simp_all]
   refine⟨.tup [bC C g' k' r',.lst<|left.map bQ,.lst<|(P++left).map bQ],?_,left.length,⟨g',k',r',left,rfl,G'.mono<|by lia,λp hp=>K p<|ms p hp,rfl,by lia,ai,⟨by rw[zaR,zeL];exact⟨nd.1,ag.2,λa ha b Y=>nd.2.2 a ha b<|zaq _ Y⟩,λp hp=>S.sub p<|ms p hp⟩⟩,by lia,λ_ _=>by lia⟩;rw[zan]at cc;have cs:y3 (.lst<|bQ (x,j)::left.map bQ) (bx 1) cb=bx (.lst<|left.map bQ):=by
    show bx (D.lst _)=_;rw[cc]
   rw[zan]
   ac_rfl
 .intro Y
  obtain⟨g1,k1,ew,G1,sg,lg⟩:=mG B K (r:=r) (c:=y/50) G (by lia);rw[aE<|aM (d:=bC C g1 k1 r)<|by ac_rfl];rw[aE<|aM (d:=.int 2)<|by simp_all];refine fQ (λρ=>∃F:Int,ρ=[bx<|a7 C,bx<|.lst<|nms.map .str,bx<|.tup [bC C g k r,.lst<|left.map bQ,.lst<|(P++left).map bQ],bx<|.int y,bx<|bC C g1 k1 r,bx<|.lst<|left.map bQ,bx<|.lst<|(P++left).map bQ,cb,bx<|.int F]) ?_ ?_
  .by_cases h:(4:Int)<(C.kinds.length:Int)
   .have dg:uR (.int ((C.kinds.map D.str).length:Int)) (.int 4)=bx (.bl cf):=by simp_all[h]
    exact⟨_,by ac_rfl,1,rfl⟩
   .have dg:uR (.int ((C.kinds.map D.str).length:Int)) (.int 4)=bx (.bl ci):=by simp_all[h]
    exact⟨_,by ac_rfl,2,rfl⟩
  .rintro ρ ⟨F,rfl⟩
   have n5:∃s:Str,gC (nms.map D.str) 5=bx (.str s)/\s∉(P++left).map (·.1)/\s∈nms:=by
    obtain⟨s,hs⟩:∃s,nms[5]?=bx s:=⟨nms[5],za0<|by lia⟩;exact⟨s,bS (j:=5) (by rw[zaD,hs];rfl),S.out ah (i:=5) (by decide) hs,zax hs⟩
   have n6:∃s:Str,gC (nms.map D.str) 6=bx (.str s)/\s∉(P++left).map (·.1)/\s∈nms:=by
    obtain⟨s,hs⟩:∃s,nms[6]?=bx s:=⟨nms[6],za0<|by lia⟩;exact⟨s,bS (j:=6) (by rw[zaD,hs];rfl),S.out ah (i:=6) (by decide) hs,zax hs⟩
   obtain⟨x5,n5,an,al⟩:=n5;obtain⟨x6,n6,aq,am⟩:=n6;have dl:gB [.lst<|left.map bQ]=bx (.int (left.length:Int)):=by simp_all
   have nh:¬ (4<y%7/\0<left.length):=λ⟨a,b⟩=>by rw[decide_eq_true a,decide_eq_true b]at Y;cases Y
   refine fQ (λρ=>∃g2 k2 r2,ρ=[bx<|a7 C,bx<|.lst<|nms.map .str,bx<|.tup [bC C g k r,.lst<|left.map bQ,.lst<|(P++left).map bQ],bx<|.int y,bx<|bC C g2 k2 r2,bx<|.lst<|left.map bQ,bx<|.lst<|(P++left).map bQ,cb,bx<|.int F]/\Gs nms C (P++left) g2 k2 (15-2*m)) ?_ ?_
   .by_cases h9:size g1<9
    .have G8:Gs nms C (P++left) g1 k1 8:=⟨G1.wf,G1.k0,G1.k1,by lia,G1.nf⟩
     have ar:(size g1:Int)<9:=by lia
     by_cases h3:y%7<3
     .obtain⟨g2,k2,r2,e2,W⟩:=CD B (by lia) (r:=r) (c:=y/7) G8 (by lia) (by lia)
      exact⟨_,by ac_rfl,g2,k2,r2,rfl,W.mono<|by lia⟩
     .by_cases h4:y%7=3
      .obtain⟨g2,k2,r2,e2,W⟩:=xF B (by lia) (r:=r) (y:=y/7) G8 (by lia) (by lia)
       exact⟨_,by ac_rfl,g2,k2,r2,rfl,W.mono<|by lia⟩
      .by_cases h5:y%7=4
       .obtain⟨g2,k2,r2,e2,W⟩:=w8 B (by lia) (r:=r) (y:=y/7) (x:=x5) an al G8 (by lia) (by lia)
        exact⟨_,by ac_rfl,g2,k2,r2,rfl,W.mono<|by lia⟩
       .by_cases h6:lets g1+(left.length:Int)<F
        .obtain⟨g2,k2,r2,e2,W⟩:=zE B (by lia) (r:=r) (y:=y/7) (x:=x6) aq am G8 (by lia) (by lia)
         exact⟨_,by ac_rfl,g2,k2,r2,rfl,W.mono<|by lia⟩
        .exact⟨_,by ac_rfl,g1,k1,r,rfl,G1⟩
    .have ar:¬ (size g1:Int)<9:=by lia
     exact⟨_,by ac_rfl,g1,k1,r,rfl,G1⟩
   .rintro ρ ⟨g2,k2,r2,rfl,W⟩
    exact⟨_,by simp_all,m,⟨g2,k2,r2,left,rfl,W,K,U,as,ai,S⟩,zaj _,λa b=>absurd ⟨a,by lia⟩ nh⟩
def OkN.snoc(h:OkN C kn)(a:0<=p.2/\p.2<(C.kinds.length:Int)):OkN C<|kn++[p]:=λq F=>by
 rcases List.mem_append.mp F with z|z
 .exact h q z
 .rw[List.mem_singleton.mp z];exact a
def OkN.app(h:OkN C kn)(h':OkN C kn'):OkN C<|kn++kn':=λq F=>by
 rcases List.mem_append.mp F with z|z
 .exact h q z
 .exact h' q z
def V2{nms:List Str}{i:Int}(h0:0<=i)(h:i<(nms.length:Int)):∃s:Str,gC (nms.map D.str) i=bx (.str s)/\nms[i.toNat]?=bx s:=by
 obtain⟨j,rfl⟩:∃j:Nat,i=(j:Int):=⟨i.toNat,by lia⟩;have q:j<nms.length:=by lia
 exact⟨nms[j],bS (by rw[zaD,za0 q];rfl),by rw[zbG];exact za0 q⟩
def zP{ns:List Int}{C:Bk}(B:OkB C){nms:List Str}(W:nms.length=8):∃ps,jI [.lst<|ns.map .int,a7 C,.lst<|nms.map .str]=bx (.lst<|ps.map bQ)/\OkN C ps/\ps.length<=3/\ps.map (·.1)=nms.take ps.length:=by
 suffices h:∃d,jI [.lst<|ns.map .int,a7 C,.lst<|nms.map .str]=bx d/\∃ps,d=.lst (ps.map bQ)/\OkN C ps/\ps.length<=3/\ps.map (·.1)=nms.take ps.length by
  obtain⟨d,h1,ps,rfl,h2⟩:=h;exact⟨ps,h1,h2⟩
 obtain⟨f,J⟩:=dO ns;have Y:=(J 17 (by decide)<|by decide).1;have G:(0:Int)<(C.kinds.length:Int):=by have:=B.k1;lia
 have a0:=zat (f 17) (show(4:Int)≠0 by decide);have a1:=zau (f 17) (show(0:Int)<4 by decide);refine dQ ?_;unfold pG;rw[aE<|aM (d:=.lst [])<|by simp_all];refine iW (items:=aQ 0 1 (f 17%4).toNat) (by have r:=eI a0 (show f 17%4<=1000000 by lia);ac_rfl) (λi ρ=>∃(ps:List<|Str×Int) (o:Option D),ρ=[bx<|.lst<|ns.map .int,bx<|a7 C,bx<|.lst<|nms.map .str,bx<|.lst<|ps.map bQ,o]/\OkN C ps/\ps.length=i/\ps.map (·.1)=nms.take i) ⟨[],cb,by ac_rfl,(λ_ h=>nomatch h),rfl,by simp_all⟩ ?_ ?_
 .rintro i x ρ hx ⟨ps,o,rfl,K,F,q⟩
  obtain⟨U,rfl⟩:=bV hx;have N:0<=(0:Int)+(i:Int)*1/\(0:Int)+(i:Int)*1<=3:=by lia
  have z:((0:Int)+(i:Int)*1).toNat=i:=by lia
  generalize (0:Int)+(i:Int)*1=I at N z;have fI:=(J (18+I) (by lia)<|by lia).1;obtain⟨s,es,hs⟩:=V2 (nms:=nms) (i:=I) N.1 (by rw[W];lia);rw[z]at hs;have hz:(ps.map bQ).length<=1000000:=by rw[zak];lia
  have md:dI (.int<|f<|18+I) (.int ((C.kinds.map D.str).length:Int))=bx (.int<|f (18+I)%(C.kinds.length:Int)):=by rw[zak];exact bO G
  apply yL
  .exact HV rfl<|by ac_rfl
  refine⟨ps++[(s,f (18+I)%(C.kinds.length:Int))],_,by rw[zaR];rfl,K.snoc ⟨zat _<|zaX G,zau _ G⟩,by simp_all[F],by rw[zaR,q,zdh,hs];rfl⟩
 .rintro ρ ⟨ps,o,rfl,K,F,q⟩
  rw[bH]at F q;exact⟨_,by simp_all,ps,rfl,K,by lia,by rw[q,F]⟩
def zK{ns:List Int}{C:Bk}(B:OkB C){nms:List Str}(h8:nms.length=8){ps:List (Str×Int)}(ad:nms.Nodup)(P:OkN C ps)(U:ps.length<=3)(Y:ps.map (·.1)=nms.take ps.length):∃N m,jF [.lst<|ns.map .int,a7 C,.lst<|nms.map .str,.lst<|ps.map bQ]=bx N/\Now C nms ps m N:=by
 suffices h:∃d,jF [.lst<|ns.map .int,a7 C,.lst<|nms.map .str,.lst<|ps.map bQ]=bx d/\∃m,Now C nms ps m d by
  obtain⟨d,h1,m,h2⟩:=h;exact⟨d,m,h1,h2⟩
 obtain⟨f,hf⟩:=dO ns;have af:=(hf 17 (by decide)<|by decide).1;have ab:=hf 24 (by decide) (by decide);have W:(0:Int)<(C.kinds.length:Int):=by have:=B.k1;lia
 have aj:=Ten
 have J:∀y:Int,0<=y%(C.kinds.length:Int)/\y%(C.kinds.length:Int)<(C.kinds.length:Int):=λy=>⟨zat _<|zaX W,zau _ W⟩
 have a0:=zat (f 17/4) (show(3:Int)≠0 by decide);have a1:=zau (f 17/4) (show(0:Int)<3 by decide);obtain⟨b,hb⟩:∃b,dLt (.int ((C.kinds.map D.str).length:Int)) (.int 5)=bx (.bl b):=⟨_,rfl⟩;obtain⟨e,he,e0,e1⟩:∃e:Int,EV [.bl b]=bx (.int e)/\0<=e/\e<=1:=by cases b <;> exact⟨_,rfl,by decide,by decide⟩
 obtain⟨q,eq,q0,q2⟩:∃q:Int,B1 [.int<|f 17/4%3,.int<|1+e]=bx (.int q)/\0<=q/\q<=2:=⟨_,q_min,by split <;> lia,by split <;> lia⟩;refine dQ ?_;unfold pD;rw[aE<|aM (d:=.lst [])<|by simp_all];refine iW (items:=aQ 0 1 q.toNat) (by have r:=eI q0 (show q<=1000000 by lia);ac_rfl) (λi ρ=>∃(z:List<|Str×Int) (o:Option D),ρ=[bx<|.lst<|ns.map .int,bx<|a7 C,bx<|.lst<|nms.map .str,bx<|.lst<|ps.map bQ,bx<|.lst<|z.map bQ,o,cb,cb]/\OkN C z/\z.length=i/\z.map (·.1)=(nms.drop 3).take i) ⟨[],cb,by ac_rfl,(λ_ h=>nomatch h),rfl,by simp_all⟩ ?_ ?_
 .rintro i x ρ hx ⟨z,o,rfl,K,hl,F⟩
  obtain⟨am,rfl⟩:=bV hx;have hI:0<=(0:Int)+(i:Int)*1/\(0:Int)+(i:Int)*1<=3:=by lia
  have G:(3+((0:Int)+(i:Int)*1)).toNat=3+i:=by lia
  generalize (0:Int)+(i:Int)*1=I at hI G;have fI:=(hf (21+I) (by lia)<|by lia).1;obtain⟨s,es,hs⟩:=V2 (nms:=nms) (i:=3+I) (by lia) (by rw[h8];lia);rw[G]at hs;have hz:(z.map bQ).length<=1000000:=by rw[zak];lia
  have md:dI (.int<|f<|21+I) (.int ((C.kinds.map D.str).length:Int))=bx (.int<|f (21+I)%(C.kinds.length:Int)):=by rw[zak];exact bO W
  apply yL
  .exact HV rfl<|by ac_rfl
  refine⟨z++[(s,f (21+I)%(C.kinds.length:Int))],_,by rw[zaR];rfl,K.snoc<|J _,by simp_all[hl],by rw[zaR,F,zdh,List.getElem?_drop,hs];rfl⟩
 .rintro ρ ⟨z,o,rfl,K,hl,F⟩
  rw[bH]at hl F;have hz:aZ (ps.length+z.length)=cf:=decide_eq_true (by lia);have sb:((ps++z).map (·.1)).Sublist<|nms.take 5:=by
   rw[zaR,Y,F];have e5:nms.take 5=nms.take 3++(nms.drop 3).take 2:=by rw[<- List.take_add]
   rw[e5];exact(zeU U).append<|zeU<|by lia
  have Sk:Sc nms<|ps++z:=⟨sb.nodup<|(zdC ..).nodup ad,λp U=>sb.subset<|List.mem_map.mpr ⟨p,U,rfl⟩⟩;rw[aE<|aM (d:=.lst<|(ps++z).map bQ)<|by simp_all[hz]];have md:dI (.int<|f 24) (.int ((C.kinds.map D.str).length:Int))=bx (.int<|f 24%(C.kinds.length:Int)):=by rw[zak];exact bO W
  have al:=ab.1;rw[aE<|aM (d:=.int<|f 24%(C.kinds.length:Int))<|by ac_rfl];obtain⟨g,eg,wg,sg,lg,ng⟩:=dN B (kn:=ps++z) (k:=f 24%(C.kinds.length:Int)) (c:=f 24/6) (by simp_all;lia) (J _).1 (J _).2 (by lia) (by lia);refine⟨.tup [bC C g (f 24%(C.kinds.length:Int)) 0,.lst<|z.map bQ,.lst<|(ps++z).map bQ],?_,z.length,g,_,0,z,rfl,⟨wg,(J _).1,(J _).2,by lia,ng _ _⟩,P.app K,rfl,by lia,U,Sk⟩
  ac_rfl
def DL{ns:List Int}(G:ns.length<=63):∃v:Int,rT [.lst<|ns.map .int]=bx (.int v)/\0<=v/\v<=37:=by
 obtain⟨f,z⟩:=dO ns;have q:=(z 17 (by decide)<|by decide).1;have a0:=zat (f 17/12) (show(8:Int)≠0 by decide);have F:=zau (f 17/12) (show(0:Int)<8 by decide);refine⟨if f 17/12%8>(ns.length:Int)-26 then f 17/12%8 else(ns.length:Int)-26,aL ?_,?_,?_⟩
 .simp_all[qO,aH,q,g9,bO]
 .split <;> lia
 .split <;> lia
def zN{ns:List Int}(hn:ns.length<=63){C:Bk}(B:OkB C){nms:List Str}(h8:nms.length=8){ps:List (Str×Int)}(U:nms.Nodup)(P:OkN C ps)(hp:ps.length<=3)(aa:ps.map (·.1)=nms.take ps.length):∃g k r,jN [.lst<|ns.map .int,a7 C,.lst<|nms.map .str,.lst<|ps.map bQ]=bx (bC C g k r)/\Gs nms C ps g k 15:=by
 suffices h:∃d,jN [.lst<|ns.map .int,a7 C,.lst<|nms.map .str,.lst<|ps.map bQ]=bx d/\∃g k r,d=bC C g k r/\Gs nms C ps g k 15 by
  obtain⟨d,h1,g,k,r,rfl,h2⟩:=h;exact⟨g,k,r,h1,h2⟩
 obtain⟨f,hf⟩:=dO ns;have am:=(hf 25 (by decide)<|by decide).1;obtain⟨q,m,eb,N⟩:=zK (ns:=ns) B h8 U P hp aa;obtain⟨v,ev,v0,v1⟩:=DL hn;have ao:=Ten
 refine dQ ?_;unfold oO;rw[aE<|aM (d:=q)<|by ac_rfl];refine iW (items:=aQ 0 1 v.toNat) (by have r:=eI v0 (show v<=1000000 by lia);ac_rfl) (λi ρ=>∃(q:D) (m:Nat) (o:Option D),ρ=[bx<|.lst<|ns.map .int,bx<|a7 C,bx<|.lst<|nms.map .str,bx<|.lst<|ps.map bQ,bx q,o]/\Now C nms ps m q) ⟨q,m,cb,by ac_rfl,N⟩ ?_ ?_
 .rintro i x ρ hx ⟨q,m,o,rfl,N⟩
  obtain⟨Y,rfl⟩:=bV hx;have hI:0<=(0:Int)+(i:Int)*1/\(0:Int)+(i:Int)*1<=37:=by lia
  generalize (0:Int)+(i:Int)*1=I at hI;have fI:=hf (26+I) (by lia) (by lia);obtain⟨z,m',es,N',_⟩:=rA B h8 U fI.2.1 fI.2.2 N;have:=fI.1;apply yL
  .exact HV rfl<|by ac_rfl
  exact⟨z,m',_,rfl,N'⟩
 .rintro ρ ⟨q,m,o,rfl,N⟩
  have J:m<=2:=by obtain⟨g,k,r,left,rfl,G,K,F,J,_⟩:=N;exact J
  have b0:=zat (f 25/3) (show(16:Int)≠0 by decide);have b1:=zau (f 25/3) (show(0:Int)<16 by decide);have mu:cV (.int 7) (.int<|f 25/3%16)=bx (.int<|7*(f 25/3%16)):=cE (by decide +kernel) (by decide +kernel) (by lia) (by lia);refine JU (λm ρ=>∃(q:D) (o:Option D),ρ=[bx<|.lst<|ns.map .int,bx<|a7 C,bx<|.lst<|nms.map .str,bx<|.lst<|ps.map bQ,bx q,o]/\Now C nms ps m q) (λρ=>∃(q:D) (o:Option D),ρ=[bx<|.lst<|ns.map .int,bx<|a7 C,bx<|.lst<|nms.map .str,bx<|.lst<|ps.map bQ,bx q,o]/\Now C nms ps 0 q) m (by lia) ⟨q,o,rfl,N⟩ ?_ ?_
  .rintro m ρ ⟨q,o,rfl,N⟩
   obtain⟨g,k,r,left,en,G,K,F,J,rest⟩:=N;have N:Now C nms ps m q:=⟨g,k,r,left,en,G,K,F,J,rest⟩;have el:aJ q (.int 1)=bx (.lst<|left.map bQ):=by rw[en,q_itT];exact at1
   by_cases h0:0<m
   .refine .inl ⟨by simp_all[el,F,h0],?_⟩
    obtain⟨z,m',es,N',_,Y⟩:=rA B h8 U (y:=6+7*(f 25/3%16)) (by lia) (by lia) N;exact⟨m',[bx<|.lst<|ns.map .int,bx<|a7 C,bx<|.lst<|nms.map .str,bx<|.lst<|ps.map bQ,bx z,o],Y (by lia) h0,by ac_rfl,z,o,rfl,N'⟩
   .have W:m=0:=by lia
    refine .inr ⟨by simp_all[el,F,W],q,o,rfl,W ▸ N⟩
  .rintro ρ ⟨q,o,rfl,g,k,r,left,rfl,G,K,F,_,_,S⟩
   have ab:left=[]:=List.length_eq_zero_iff.mp F;subst ab;rw[zbi]at G;obtain⟨g1,k1,ew,G1,_,_⟩:=mG B P (r:=r) (c:=f 25) (G.mono<|show 15-2*0<=15 by lia) (by lia);exact⟨bC C g1 k1 r,by ac_rfl,g1,k1,r,rfl,G1⟩
def all1{P:D->Prop}(h:P a):∀d∈[a],P d:=λd hd=>by rw[List.mem_singleton.mp hd];exact h
def qb4{P:D->Prop}{a:D}{l:List D}(h:P a)(t:∀d∈l,P d):∀d∈a::l,P d:=λd hd=>by
 rcases List.mem_cons.mp hd with z|z
 .rw[z];exact h
 .exact t d z
def ch:Rg->D
 |.use1 v _ _ _=>.int (v:Int)
 |.use2 v _ _ _ _=>.int (v:Int)
 |.lett _ j _ _=>.int j
 |_=>.non
def ir:Rg->List D
 |.use1 _ _ p _=>[rd p]
 |.use2 _ _ p q _=>[rd p,rd q]
 |.lett _ _ p q=>[rd p,rd q]
 |.pick _ _ p q r _=>[rd p,rd q,rd r]
 |.again _ _ _ p q _=>[rd p,rd q]
 |_=>[]
def wy:Rg->List Int
 |.name _ _ w=>w
 |.num _ _ w=>w
 |.use1 _ _ _ w=>w
 |.use2 _ _ _ _ w=>w
 |.lett _ _ _ _=>[]
 |.pick _ _ _ _ _ w=>w
 |.again _ _ _ _ _ w=>w
def W8:cutD [a,b,c,d] (bx 2) (bx 4)=[c,d]:=rfl
def YY:cutD [a,b,c,d,e,f] (bx 3) (bx 6)=[d,e,f]:=rfl
def YC:cutD [a,b,c,d,e,f] (bx 4) (bx 6)=[e,f]:=rfl
def sz5:aZ 5=cf:=rfl
def Cons(d:List<|Key×D)(kn:List<|Str×Int):Prop:=∀p∈kn,e8 d (.inr p.1:Key)=bx (.int p.2)
def pX{κ:Type}[DecidableEq κ](l:List<|κ×D)(k j:κ)(e:D):e8 (putD l k e) j=if j=k then bx e else e8 l j:=by
 unfold putD;by_cases h:(l.any λp=>decide (p.1=k))=cf
 .rw[ck h]
  unfold e8;by_cases F:j=k
  .subst F
   rw[ck rfl];induction l with
   |nil=>simp[-zad,-zac,aA,aB]at h
   |cons p l ih=>
    rw[zan,zbF];by_cases q:p.1=j
    .simp_all[q]
    .have:(l.any λp=>decide (p.1=j))=cf:=by simpa[q]using h
     simp_all[q];simpa using ih this
  .rw[cq F]
   clear h;induction l with
   |nil=>rfl
   |cons p l ih=>
    rw[zan,zbF,zbF];by_cases q:p.1=k
    .have:¬ k=j:=λz=>F z.symm
     simp_all[q,this];simpa using ih
    .by_cases G:p.1=j
     .simp_all[q,G,F]
     .simp_all[q,G]
      simpa using ih
 .rw[cq h]
  unfold e8;rw[List.find?_append];by_cases F:j=k
  .subst F
   rw[ck rfl];have:l.find? (λp=>decide (p.1=j))=cb:=by
    rw[List.find?_eq_none];intro p q J;exact h<|List.any_eq_true.mpr ⟨p,q,J⟩
   rw[this];simp_all
  .rw[cq F]
   cases e2:l.find? (λp=>decide (p.1=j))with
   |some u=>simp_all
   |none=>simp_all[zaI F]
def Cons.put(h:Cons d kn)(hx:x∉kn.map (·.1)):Cons (putD d (.inr x)<|.int j)<|(x,j)::kn:=λp q=>by
 rw[pX];rcases List.mem_cons.mp q with z|z
 .rw[z,ck rfl]
 .rw[cq,h p z]
  intro e;injection e with e
  exact hx<|List.mem_map.mpr ⟨p,z,e⟩
def VB(h:e8 d (.inr x:Key)=bx e):aJ (.dK d) (.str x)=bx e:=by
 show((Z7<|.str x).map λk=>e8 d k).join=_;show(bx<|e8 d (.inr x:Key)).join=_;rw[h];rfl
def OS(h:d.length<=1000):kJ (.dK d) (.str x) e=bx (.dK<|putD d (.inr x) e):=by
 have q:kJ (.dK d) (.str x) e=(if aZ d.length=cf then bx (.dK<|putD d (.inr x) e)else cb):=rfl;rw[q,ck<|show aZ d.length=cf from decide_eq_true<|by lia]
def tQ{d:List (Key×D)}:(putD d k e).length<=d.length+1:=by
 unfold putD;split <;> simp_all
def GK:fV [.dK d]=bx (.dK d):=rfl
def DG(h:cQ [p,.int i]=bx .non):dE [.dK d,p,.int i,c]=bx (.dK d):=aL<|by simp_all[fG,aH,h,gK]
def KO(z:d.length<=1000):dE [.dK d,.tup [.str "let",.str x,p,q],.int 1,.int j]=bx (.dK<|putD d (.inr x)<|.int j):=by
 have h:cQ [.tup [.str "let",.str x,p,q],.int 1]=bx (.str x):=aL (by simp_all[bK,aH,at0,at1]);exact aL<|by simp_all[fG,aH,h,gK,GK,at0,OS z]
def zL(z:d.length<=1000):dE [.dK d,.tup [.str "again",.int n,.int k,.str x,p,q],.int 1,c]=bx (.dK<|putD d (.inr x)<|.int k):=by
 have h:cQ [.tup [.str "again",.int n,.int k,.str x,p,q],.int 1]=bx (.str x):=aL (by simp_all[bK,aH,at0,qf,iY]);exact aL<|by simp_all[fG,aH,h,gK,GK,at0,at2,iY,OS z]
def nI:Sm->Int
 |none=>0
 |some p=>p.1
def GJ(a b:Sm):nI (pO a b)=nI a*nI b:=by
 cases a <;> cases b <;> simp_all[pO,nI]
def IM(a b:Sm):nI (c8 a b)=nI a+nI b:=by
 cases a <;> cases b <;> simp_all[c8,nI]
def i9:List Int->Int
 |[]=>1
 |x::l=>x*i9 l
def GM(l m:List Int):i9 (l++m)=i9 l*i9 m:=by
 induction l with
 |nil=>simp_all[i9]
 |cons x l ih=>rw[zd7,i9,i9,ih,zd8]
theorem G9:∀(l:List Sm) (t:Sm),nI (l.foldl pO t)=nI t*i9 (l.map nI)
 |[],t=>by simp_all[i9]
 |a::l,t=>by rw[zcZ,G9 l,GJ,zan,i9,zd8]
set_option tactic.hygienic true in
def EN(C:Bk)(j k:Int):nI (QL C j k)=((bU C.rs k 8 j).length:Int):=by
 unfold QL;split
 .rename_i h;rw[h];rfl
 .rfl
def eW(C:Bk)(own j k:Int)(l:List Sm):nI (csum C own j k l)=i9 (l.map nI++[((bU C.rs k 8 j).length:Int)]):=by
 unfold csum;rw[G9,GJ,EN,GM];simp only[nI,i9,Int.one_mul,Int.mul_one];exact Int.mul_comm _ _
def NN(l:List Int):Prop:=∀x∈l,0<=x
theorem yP:∀ {l:List Int},NN l->0<=i9 l
 |[],_=>by decide
 |x::l,h=>zdg (h x<|zar ..)<|yP λy q=>h y<|zaq _ q
theorem iN{q:Type}(f:q->Sm):∀(l:List q) (t:Sm),nI (l.foldl (λt v=>c8 t<|f v) t)=nI t+(l.map λv=>nI<|f v).sum
 |[],t=>by simp_all
 |a::l,t=>by rw[zcZ,iN f l,IM,zan,zbw,zdn]
theorem nW{q:Type}{f:q->Int}:∀ {l:List q},(∀v∈l,0<=f v)->0<=(l.map f).sum
 |[],_=>by simp_all
 |a::l,h=>by
  rw[zan,zbw];have:=h a<|zar ..;have:=nW (l:=l) λv z=>h v<|zaq _ z
  lia
def eV(C:Bk)(own j k:Int)(h:NN<|l.map nI):0<=nI (csum C own j k l):=by
 rw[eW];refine yP λx hx=>?_
 rcases List.mem_append.mp hx with z|z
 .exact h x z
 .rw[List.mem_singleton.mp z];lia
def NN1(h:0<=a):NN [a]:=λx hx=>by rw[List.mem_singleton.mp hx];exact h
def qc(h:0<=a)(h':0<=b):NN [a,b]:=λx hx=>by
 rcases List.mem_cons.mp hx with z|z
 .rw[z];exact h
 .exact NN1 h' x z
def NN3(h:0<=a)(h':0<=b)(h2:0<=c):NN [a,b,c]:=λx hx=>by
 rcases List.mem_cons.mp hx with z|z
 .rw[z];exact h
 .exact qc h' h2 x z
theorem cC(C:Bk):∀(p:Pa) (e:gU) (k:Int),0<=nI (aU C p e k)
 |.name x,e,k=>eV C _ _ _ (l:=[]) λ_ h=>nomatch h
 |.num _ j,e,k=>eV C _ _ _ (l:=[]) λ_ h=>nomatch h
 |.use1 nm p,e,k=>by
  rw[aU,iN];have:=nW (l:=nL C nm 1) (f:=λv=>nI<|csum C (mpr C v) (dG C v) k [aU C p e<|aT C v 0]) λv _=>eV _ _ _ _<|NN1<|cC C p e _
  simp only[nI,zbx]at *;exact this
 |.use2 nm p q,e,k=>by
  rw[aU,iN];have:=nW (l:=nL C nm 2) (f:=λv=>nI<|csum C (mpr C v) (dG C v) k [aU C p e<|aT C v 0,aU C q e<|aT C v 1]) λv _=>eV _ _ _ _<|qc (cC C p e _)<|cC C q e _
  simp only[nI,zbx]at *;exact this
 |.lett x p q,e,k=>by
  rw[aU,iN];have:=nW (l:=zas C.kinds.length) (f:=λ(j:Nat)=>nI<|csum C 0 k k [aU C p e (j:Int),aU C q (eZ e x (j:Int)) k]) λv _=>eV _ _ _ _<|qc (cC C p e _)<|cC C q _ _
  simp only[nI,zbx]at *;exact this
 |.pick c k' p q r,e,k=>eV _ _ _ _<|NN3 (cC C p e _) (cC C q e _)<|cC C r e _
 |.again n k' x p q,e,k=>eV _ _ _ _<|qc (cC C p e _)<|cC C q _ _
def cW:Int->List (Int×Int)->Int
 |n,[]=>n
 |n,p::l=>cW (n*p.2+p.1) l
def f6:Int->List Int->List Int->List Int
 |_,[],acc=>acc
 |n,s::l,acc=>f6 (n/s) l<|n%s::acc
def WA(l:List<|Int×Int):Prop:=∀p∈l,0<=p.1/\p.1<p.2
theorem wC:∀(l:List<|Int×Int) (n:Int) (t acc:List Int),WA l->f6 (cW n l) ((l.map (·.2)).reverse++t) acc=f6 n t (l.map (·.1)++acc)
 |[],n,t,acc,_=>rfl
 |(a,s)::l,n,t,acc,h=>by
  have q:=h (a,s)<|zar ..;simp only at q;rw[cW,zan,zew,List.append_assoc];have ih:=wC l (n*s+a) ([s]++t) acc λp q=>h p<|zaq _ q
  rw[ih];show f6 ((n*s+a)/s) t ((n*s+a)%s::(l.map (·.1)++acc))=_;have F:(n*s+a)/s=n:=by
   rw[Int.add_comm,Int.add_mul_ediv_right _ _<|by lia,Int.ediv_eq_zero_of_lt q.1 q.2,zbx]
  have z:(n*s+a)%s=a:=by
   rw[Int.add_comm,Int.add_mul_emod_self_right,Int.emod_eq_of_lt q.1 q.2]
  rw[F,z];rfl
theorem BC:∀(l:List<|Int×Int) (n:Int),0<=n->WA l->0<=cW n l/\cW n l+1<=(n+1)*i9 (l.map (·.2))
 |[],n,h0,_=>by simp_all[cW,i9,h0]
 |(a,s)::l,n,h0,h=>by
  have q:=h (a,s)<|zar ..;simp only at q;have z:0<=n*s+a:=Int.add_nonneg (zdg h0<|by lia) q.1;obtain⟨F,G⟩:=BC l (n*s+a) z λp q=>h p<|zaq _ q
  refine⟨F,zd9 G ?_⟩;have pn:0<=i9 (l.map (·.2)):=yP λx hx=>by
   obtain⟨p,q,rfl⟩:=List.mem_map.mp hx;have:=h p<|zaq _ q;lia
  rw[zan,i9,<- zd8];refine zeV ?_ pn;rw[Int.add_mul];simp only;lia
def j9(C:Bk)(j k:Int)(w:List Int):Int×Int:=(((bU C.rs k 8 j).idxOf w:Nat),((bU C.rs k 8 j).length:Int))
def vA(l:List Nat)(v:Nat)(f:Nat->Sm):Int:=((l.filter λu=>decide (u<v)).map λu=>nI<|f u).sum
def cU(C:Bk):Rg->gU->Int->Int
 |.name x _ w,e,k=>cW 0 [j9 C (e x) k w]
 |.num _ j w,_,k=>cW 0 [j9 C j k w]
 |.use1 v nm p w,e,k=>vA (nL C nm 1) v (λv=>csum C (mpr C v) (dG C v) k [aU C (pa p) e<|aT C v 0])+cW 0 [(cU C p e<|aT C v 0,nI<|aU C (pa p) e<|aT C v 0),j9 C (dG C v) k w]
 |.use2 v nm p q w,e,k=>vA (nL C nm 2) v (λv=>csum C (mpr C v) (dG C v) k [aU C (pa p) e<|aT C v 0,aU C (pa q) e<|aT C v 1])+cW 0 [(cU C p e<|aT C v 0,nI<|aU C (pa p) e<|aT C v 0),(cU C q e<|aT C v 1,nI<|aU C (pa q) e<|aT C v 1),j9 C (dG C v) k w]
 |.lett x j p q,e,k=>vA (zas C.kinds.length) j.toNat (λ(j:Nat)=>csum C 0 k k [aU C (pa p) e (j:Int),aU C (pa q) (eZ e x (j:Int)) k])+cW 0 [(cU C p e j,nI<|aU C (pa p) e j),(cU C q (eZ e x j) k,nI<|aU C (pa q) (eZ e x j) k),j9 C k k []]
 |.pick c k' p q r w,e,k=>cW 0 [(cU C p e c,nI<|aU C (pa p) e c),(cU C q e k',nI<|aU C (pa q) e k'),(cU C r e k',nI<|aU C (pa r) e k'),j9 C k' k w]
 |.again _ k' x p q w,e,k=>cW 0 [(cU C p e k',nI<|aU C (pa p) e k'),(cU C q (eZ e x k') k',nI<|aU C (pa q) (eZ e x k') k'),j9 C k' k w]
def EC(e:gU)(kn:List<|Str×Int):Prop:=∀p∈kn,e p.1=p.2
def EC.put(h:EC e kn)(hx:x∉kn.map (·.1)):EC (eZ e x j)<|(x,j)::kn:=λp F=>by
 unfold eZ;rcases List.mem_cons.mp F with z|z
 .rw[z,ck rfl]
 .rw[cq λq=>hx<|List.mem_map.mpr ⟨p,z,q⟩];exact h p z
def jX(B:OkB C)(z:0<=j)(k1:k<(C.kinds.length:Int))(h:gw C.rs j w=bx k):0<=(j9 C j k w).1/\(j9 C j k w).1<(j9 C j k w).2:=by
 have q:=B.k6;have m:=tJ B.gr (n:=8) (by lia) h;have:=zeW m;exact⟨by unfold j9;simp only;lia,by unfold j9;simp only;lia⟩
def pR(h:WA l):0<=cW 0 l/\cW 0 l<i9 (l.map (·.2)):=by
 have:=BC l 0 (by decide) h;rw[zbx,Int.one_mul]at this;exact⟨this.1,by lia⟩
def EO(h:0<=a.1/\a.1<a.2):WA [a]:=λp q=>by rw[List.mem_singleton.mp q];exact h
def uM(h:0<=a.1/\a.1<a.2)(t:WA l):WA<|a::l:=λp q=>by
 rcases List.mem_cons.mp q with z|z
 .rw[z];exact h
 .exact t p z
def EE{l:List Nat}(G:l.Pairwise (·<·)){v:Nat}(N:v∈l){f:Nat->Sm}(J:∀u,0<=nI (f u)){x:Int}(Y:0<=x)(hx:x<nI (f v)):0<=vA l v f+x/\vA l v f+x<nI (l.foldl (λt v=>c8 t<|f v) cb):=by
 rw[iN];have U:0<=vA l v f:=nW λu _=>J u
 refine⟨by lia,?_⟩;have:vA l v f+nI (f v)<=(l.map λv=>nI<|f v).sum:=by
  clear hx U;unfold vA;induction l with
  |nil=>cases N
  |cons a l ih=>
   rw[List.pairwise_cons]at G;rw[zan,zbw];by_cases e:v=a
   .subst e
    have z:((v::l).filter λu=>decide (u<v))=[]:=by
     rw[List.filter_eq_nil_iff];intro u W;rcases List.mem_cons.mp W with q|q
     .rw[q];simp_all
     .have:=G.1 u q;simp_all;lia
    rw[z];have:=nW (l:=l) (f:=λv=>nI<|f v) λu _=>J u
    simp_all;lia
   .have F:=(List.mem_cons.mp N).resolve_left e
    have la:=G.1 v F;rw[zcO,ck (by simpa using la),zan,zbw];have:=ih G.2 F
    lia
 simp only[nI,zbx]at *;lia
def iA(n:Nat):(zas n).Pairwise (·<·):=List.pairwise_lt_range
def gD(C:Bk)(nm:Str)(n:Nat):(nL C nm n).Pairwise (·<·):=(iA _).filter _
def mX(h:C.makes[v]?=bx m)(q:m.takes.length=n):v∈nL C m.nm n:=by
 refine List.mem_filter.mpr ⟨List.mem_range.mpr (List.getElem?_eq_some_iff.mp h).1,?_⟩;rw[h];simp_all[q]
def eT(h:C.makes[v]?=bx m)(i:Nat):aT C v i=(m.takes[i]?).getD 0:=by unfold aT;rw[h];rfl
def d8(h:C.makes[v]?=bx m):dG C v=m.g:=by unfold dG;rw[h];rfl
theorem fW(B:OkB C):∀ {g:Rg} {kn:List (Str×Int)} {e:gU} {k:Int},OkN C kn->WF C kn g k->NF U (kn.map (·.1)) g->EC e kn->0<=cU C g e k/\cU C g e k<nI (aU C (pa g) e k)
 |.name x j w,kn,e,k,K,W,_,c=>by
  have s:=WF.short B K W;obtain⟨a,b⟩:=W;have ex:e x=j:=c _ a;have h:=pR<|EO<|jX B (K _ a).1 s.2.2 b;simp only[cU,pa,aU,eW,ex];exact h
 |.num n j w,kn,e,k,K,W,_,c=>by
  have s:=WF.short B K W;obtain⟨a,b,d⟩:=W;have h:=pR<|EO<|jX B b.1 s.2.2 d;simp only[cU,pa,aU,eW];exact h
 |.use1 v nm p w,kn,e,k,K,W,F,c=>by
  have s:=WF.short B K W;obtain⟨m,t,a,b,d,G,f⟩:=W;subst b;have Y:aT C v 0=t:=by rw[eT a,d];rfl
  have eg:=d8 a;have hm:=zax a;have z:=fW B (g:=p) K G F c;rw[<- Y]at z;have h:=pR<|uM (a:=(cU C p e<|aT C v 0,nI<|aU C (pa p) e<|aT C v 0)) z<|EO<|jX B (B.gb m hm).1 s.2.2 f;rw[<- eg]at h;refine EE (gD C m.nm 1) (mX a<|by rw[d];rfl) (f:=λv=>csum C (mpr C v) (dG C v) k [aU C (pa p) e<|aT C v 0]) (λu=>eV _ _ _ _<|NN1<|cC ..) h.1 ?_;simp only[eW];exact h.2
 |.use2 v nm p q w,kn,e,k,K,W,F,c=>by
  have s:=WF.short B K W;obtain⟨m,t,u,a,b,d,G,N,f⟩:=W;subst b;have Y:aT C v 0=t:=by rw[eT a,d];rfl
  have eu:aT C v 1=u:=by rw[eT a,d];rfl
  have eg:=d8 a;have hm:=zax a;have z:=fW B (g:=p) K G F.1 c;have J:=fW B (g:=q) K N F.2 c;rw[<- Y]at z;rw[<- eu]at J;have h:=pR<|uM (a:=(cU C p e<|aT C v 0,nI<|aU C (pa p) e<|aT C v 0)) z<|uM (a:=(cU C q e<|aT C v 1,nI<|aU C (pa q) e<|aT C v 1)) J<|EO<|jX B (B.gb m hm).1 s.2.2 f;rw[<- eg]at h;refine EE (gD C m.nm 2) (mX a<|by rw[d];rfl) (f:=λv=>csum C (mpr C v) (dG C v) k [aU C (pa p) e<|aT C v 0,aU C (pa q) e<|aT C v 1]) (λu=>eV _ _ _ _<|qc (cC ..)<|cC ..) h.1 ?_;simp only[eW];exact h.2
 |.lett x j p q,kn,e,k,K,W,F,c=>by
  have s:=WF.short B K W;obtain⟨G,N⟩:=W;have sp:=WF.short B K G;have z:=fW B (g:=p) K G F.1 c;have J:=fW B (g:=q) (K.cons sp.2.1 sp.2.2) N F.2.2<|c.put F.2.1.1;have ej:((j.toNat:Nat):Int)=j:=by lia
  have h:=pR<|uM (a:=(cU C p e j,nI<|aU C (pa p) e j)) z<|uM (a:=(cU C q (eZ e x j) k,nI<|aU C (pa q) (eZ e x j) k)) J<|EO<|jX B s.2.1 s.2.2 (w:=[]) rfl;refine EE (iA C.kinds.length) (List.mem_range.mpr<|by lia) (f:=λ(j:Nat)=>csum C 0 k k [aU C (pa p) e (j:Int),aU C (pa q) (eZ e x (j:Int)) k]) (λu=>eV _ _ _ _<|qc (cC ..)<|cC ..) h.1 ?_;simp only[eW,ej];exact h.2
 |.pick c' k' p q r w,kn,e,k,K,W,F,c=>by
  have s:=WF.short B K W;obtain⟨a,b,G,N,wr,f⟩:=W;have z:=fW B (g:=p) K G F.1 c;have J:=fW B (g:=q) K N F.2.1 c;have i3:=fW B (g:=r) K wr F.2.2 c;have h:=pR<|uM (a:=(cU C p e c',nI<|aU C (pa p) e c')) z<|uM (a:=(cU C q e k',nI<|aU C (pa q) e k')) J<|uM (a:=(cU C r e k',nI<|aU C (pa r) e k')) i3<|EO<|jX B b.1 s.2.2 f;simp only[cU,pa,aU,eW];exact h
 |.again n k' x p q w,kn,e,k,K,W,F,c=>by
  have s:=WF.short B K W;obtain⟨a,b,G,N,f⟩:=W;have z:=fW B (g:=p) K G F.1 c;have J:=fW B (g:=q) (K.cons b.1 b.2) N F.2.2<|c.put F.2.1.1;have h:=pR<|uM (a:=(cU C p e k',nI<|aU C (pa p) e k')) z<|uM (a:=(cU C q (eZ e x k') k',nI<|aU C (pa q) (eZ e x k') k')) J<|EO<|jX B b.1 s.2.2 f;simp only[cU,pa,aU,eW];exact h
def kids:Pa->List Pa
 |.use1 _ p=>[p]
 |.use2 _ p q=>[p,q]
 |.lett _ p q=>[p,q]
 |.pick _ _ p q r=>[p,q,r]
 |.again _ _ _ p q=>[p,q]
 |_=>[]
def U6(C:Bk)(p:Pa)(l:List D):D:=.ob CN [("part",bJ p),("below",.lst l),("names",.lst<|(aP p).map .str),("found",.mem (DM (a7 C)<|bJ p)<|FF (a7 C)<|bJ p)]
def dX(C:Bk):Pa->D
 |.name x=>U6 C (.name x) []
 |.num n j=>U6 C (.num n j) []
 |.use1 nm p=>U6 C (.use1 nm p) [dX C p]
 |.use2 nm p q=>U6 C (.use2 nm p q) [dX C p,dX C q]
 |.lett x p q=>U6 C (.lett x p q) [dX C p,dX C q]
 |.pick c k p q r=>U6 C (.pick c k p q r) [dX C p,dX C q,dX C r]
 |.again n k x p q=>U6 C (.again n k x p q) [dX C p,dX C q]
def tY(C:Bk)(p:Pa):dX C p=U6 C p ((kids p).map<|dX C):=by cases p <;> rfl
def hid:Pa->Nat->Option Str
 |.lett x _ _,1=>bx x
 |.again _ _ x _ _,1=>bx x
 |_,_=>cb
def oS:Option Str->D
 |none=>.non
 |some x=>.str x
def nH:∀p:Pa,iV [bJ p]=bx (.tup<|(kids p).map bJ)
 |.name ..=>aL<|by simp_all[gH,aH,bJ,kids,at0,tZ,oC,F4,sZ]
 |.num ..=>aL<|by simp_all[gH,aH,bJ,kids,at0,nY,lT,GT,tI]
 |.use1 ..=>aL<|by simp_all[gH,aH,bJ,kids,at0,at2]
 |.use2 ..=>aL<|by simp_all[gH,aH,bJ,kids,at0,at2]
 |.lett ..=>aL<|by simp_all[gH,aH,bJ,kids,at0,oB,W8]
 |.pick ..=>aL<|by simp_all[gH,aH,bJ,kids,at0,nZ,lN,YY]
 |.again ..=>aL<|by simp_all[gH,aH,bJ,kids,at0,oA,iY,F5,YC]
def AI:¬ ("use" : Str) = "again" := by decide
def LN:¬ ("pick" : Str) = "again" := by decide
def J4{p:D}{i:Nat}(h:¬ i=1):cQ [p,.int (i:Int)]=bx .non:=aL (by
 have h':¬ ((i:Int)=1):=λz=>h<|by lia
 simp_all[bK,aH,h'])
def BN(p:Pa)(i:Nat):cQ [bJ p,.int (i:Int)]=bx (oS<|hid p i):=by
 by_cases h:i=1
 .subst h
  cases p with
  |name x=>exact aL<|by simp_all[bK,aH,bJ,hid,oS,at0,oC,sZ]
  |num n j=>exact aL<|by simp_all[bK,aH,bJ,hid,oS,at0,lT,tI]
  |use1 nm p=>exact aL<|by simp_all[bK,aH,bJ,hid,oS,at0,yW,AI]
  |use2 nm p q=>exact aL<|by simp_all[bK,aH,bJ,hid,oS,at0,yW,AI]
  |lett x p q=>exact aL<|by simp_all[bK,aH,bJ,hid,oS,at0,at1]
  |pick c k p q r=>exact aL<|by simp_all[bK,aH,bJ,hid,oS,at0,lN,LN]
  |again n k x p q=>exact aL<|by simp_all[bK,aH,bJ,hid,oS,at0,qf,iY]
 .rw[J4 h]
  have:hid p i=cb:=by
   unfold hid;split
   .exact absurd rfl h
   .exact absurd rfl h
   .rfl
  rw[this];rfl
def C5{x:Str}{l:List Str}:nF (.str x) (.lst<|l.map .str)=bx (.bl<|!decide (x∈l)):=by
 have h1:(l.map D.str).all i5=cf:=by
  rw[List.all_map];exact List.all_eq_true.mpr λx _=>rfl
 show yO (.str x) (.lst<|l.map .str)=_;unfold yO UV;dsimp only;rw[ck ⟨rfl,h1⟩];simp only[aB];congr 3;rw[List.any_map];by_cases h:x∈l
 .rw[decide_eq_true h]
  exact List.any_eq_true.mpr ⟨x,h,by simp_all⟩
 .rw[decide_eq_false h]
  refine List.any_eq_false.mpr λy q=>?_
  simp_all;rintro rfl;exact h q
def ne_sn:wX (.str x) .non=bx (.bl cf):=by
 unfold wX IG;rw[ck<|.inl rfl];simp_all
def qaL:wX (.str x) (oS h)=bx (.bl<|!decide (bx x=h)):=by
 cases h with
 |none=>rw[show oS cb=D.non from rfl,ne_sn];simp_all
 |some y=>rw[show oS (bx y)=D.str y from rfl,q_neS];simp_all
theorem rP{h:Option Str}{acc:List Str}:∀(l:List Str) (o:Option D),bD (aS 0) (K7 (pS<|bB wX (aD 0)<|aD 1)<|pS<|bB nF (aD 0)<|aD 2) (aD 0) (l.map .str) [o,bx<|oS h,bx<|.lst<|acc.map .str]=bx ((l.filter λx=>!decide (bx x=h) && !decide (x∈acc)).map .str)
 |[],o=>rfl
 |x::l,o=>by
  have ih:=rP (h:=h) (acc:=acc) l<|bx<|.str x;have e:=qaL (x:=x) (h:=h);have q:=C5 (x:=x) (l:=acc);generalize oS h=dh at *;rw[zan,bD];by_cases h1:bx x=h
  .simp_all[e,q,h1,ih]
  .by_cases h2:x∈acc
   .simp_all[e,q,h1,h2,ih]
   .simp_all[e,q,h1,h2,ih]
def accN(p:Pa):Nat->List Pa->List Str->List Str
 |_,[],acc=>acc
 |i,q::l,acc=>accN p (i+1) l<|fF (hid p i) acc<|aP q
def TF(p:Pa)(h:∀x,p≠.name x):aP p=accN p 0 (kids p) []:=by
 cases p with
 |name x=>exact absurd rfl<|h x
 |_=>rfl
def dP:(fF h acc l).length<=acc.length+l.length:=by
 unfold fF;rw[zbk];have:=zdl (λx=>!decide (bx x=h) && !decide (x∈acc)) l
 lia
theorem eB:∀p:Pa,(aP p).length<=psz p
 |.name x=>zaj 1
 |.num _ _=>by simp_all[aP,psz]
 |.use1 _ p=>by
  have:=eB p;have:=dP (h:=cb) (acc:=[]) (l:=aP p);simp only[aP,psz,zbP]at *;lia
 |.use2 _ p q=>by
  have:=eB p;have:=eB q;have:=dP (h:=cb) (acc:=[]) (l:=aP p);have:=dP (h:=cb) (acc:=fF cb []<|aP p) (l:=aP q);simp only[aP,psz,zbP]at *;lia
 |.lett x p q=>by
  have:=eB p;have:=eB q;have:=dP (h:=cb) (acc:=[]) (l:=aP p);have:=dP (h:=bx x) (acc:=fF cb []<|aP p) (l:=aP q);simp only[aP,psz,zbP]at *;lia
 |.pick _ _ p q r=>by
  have:=eB p;have:=eB q;have:=eB r;have:=dP (h:=cb) (acc:=[]) (l:=aP p);have:=dP (h:=cb) (acc:=fF cb []<|aP p) (l:=aP q);have:=dP (h:=cb) (acc:=fF cb (fF cb []<|aP p)<|aP q) (l:=aP r);simp only[aP,psz,zbP]at *;lia
 |.again _ _ x p q=>by
  have:=eB p;have:=eB q;have:=dP (h:=cb) (acc:=[]) (l:=aP p);have:=dP (h:=bx x) (acc:=fF cb []<|aP p) (l:=aP q);simp only[aP,psz,zbP]at *;lia
def US:Pa->Str
 |.name _ => "name"
 |.num _ _ => "number"
 |.use1 _ _ => "use"
 |.use2 _ _ _ => "use"
 |.lett _ _ _ => "let"
 |.pick _ _ _ _ _ => "pick"
 |.again _ _ _ _ _ => "again"
def PR(p:Pa):aJ (bJ p) (.int 0)=bx (.str<|US p):=by
 cases p <;> (unfold bJ;rw[q_itT];exact at0)
def MT(p:Pa)(h:∀x,p≠.name x):¬ US p = "name" := by
 cases p with
 |name x=>exact absurd rfl<|h x
 |num _ _=>exact(by decide:¬ ("number" : Str) = "name")
 |use1 _ _=>exact(by decide:¬ ("use" : Str) = "name")
 |use2 _ _ _=>exact(by decide:¬ ("use" : Str) = "name")
 |lett _ _ _=>exact(by decide:¬ ("let" : Str) = "name")
 |pick _ _ _ _ _=>exact(by decide:¬ ("pick" : Str) = "name")
 |again _ _ _ _ _=>exact(by decide:¬ ("again" : Str) = "name")
def kF(C:Bk)(p:Pa):zB CN "part" (dX C p)=bx (bJ p):=by rw[tY];rfl
def LQ(C:Bk)(p:Pa):zB CN "below" (dX C p)=bx (.lst<|(kids p).map<|dX C):=by rw[tY];rfl
def AF(C:Bk)(p:Pa):zB CN "names" (dX C p)=bx (.lst<|(aP p).map .str):=by rw[tY];rfl
def MU(C:Bk)(p:Pa):zB CN "found" (dX C p)=bx (.mem (DM (a7 C)<|bJ p)<|FF (a7 C)<|bJ p):=by rw[tY];rfl
theorem BD(p:Pa):∀(l:List Pa) (j i:Nat) (acc:List Str) (q:Pa),l[i]?=bx q->accN p j (l.take<|i+1) acc=fF (hid p<|j+i) (accN p j (l.take i) acc) (aP q)
 |[],j,i,acc,q,h=>by simp[-zad,-zac,aA,aB]at h
 |a::l,j,0,acc,q,h=>by
  have:a=q:=by simpa using h
  subst this;rfl
 |a::l,j,i+1,acc,q,h=>by
  have ih:=BD p l (j+1) i (fF (hid p j) acc<|aP a) q (by simpa using h);rw[zcB,zcB,accN,accN,ih,show j+1+i=j+(i+1) by lia]
theorem FQ(p:Pa):∀(l:List Pa) (j:Nat) (acc:List Str),(accN p j l acc).length<=acc.length+(l.map psz).sum
 |[],j,acc=>by simp_all[accN]
 |a::l,j,acc=>by
  have:=FQ p l (j+1)<|fF (hid p j) acc<|aP a;have:=dP (h:=hid p j) (acc:=acc) (l:=aP a);have:=eB a;rw[accN,zan,zbw];lia
def eU(p:Pa):((kids p).map psz).sum+1=psz p:=by
 cases p <;> simp_all[kids,psz] <;> lia
theorem GH:∀ {l:List Pa},q∈l->psz q<=(l.map psz).sum
 |[],h=>nomatch h
 |a::l,h=>by
  rw[zan,zbw];rcases List.mem_cons.mp h with z|z
  .rw[z];lia
  .have:=GH z;lia
def gS(h:q∈kids p):psz q<psz p:=by
 have:=GH h;have:=eU p;lia
def MB(l:List Pa)(i:Nat):((l.take i).map psz).sum<=(l.map psz).sum:=by
 induction l generalizing i with
 |nil=>simp_all
 |cons a l ih=>
  cases i with
  |zero=>simp_all
  |succ i=>have:=ih i;simp only[zcB,zan,zbw];lia
def SJ(C:Bk)(p:Pa)(hs:psz p<=100):eR [bJ p,.lst<|(kids p).map<|dX C]=bx (.lst<|(aP p).map .str):=by
 by_cases W:∃x,p=.name x
 .obtain⟨x,rfl⟩:=W
  exact aL<|by simp_all[hZ,aH,bJ,aP,at0,at1]
 have F:∀x,p≠.name x:=λx e=>W ⟨x,e⟩
 have tg:=MT p F;refine aL ?_;unfold hZ;have w:=BN p;have ta:=PR p;have sm:=eU p;have ac:=FQ p;rw[TF p F];have ek:=@BD p (kids p) 0;have sz:∀q∈kids p,psz q<psz p:=λq G=>gS G
 have tk:=MB<|kids p;generalize kids p=ks at *;generalize bJ p=pd at *;rw[aE (ρ':=aH 6 [pd,.lst<|ks.map<|dX C])<|by simp_all[aH,ta,tg]];rw[aE<|aM (d:=.lst [])<|by simp_all];refine iP (items:=fY 0<|ks.map<|dX C) (by simp_all[aH]) (λi ρ=>∃N J U,ρ=[bx pd,bx<|.lst<|ks.map<|dX C,bx<|.lst<|(accN p 0 (ks.take i) []).map .str,N,J,U]) ⟨cb,cb,cb,by simp_all[aH,accN]⟩ ?_ ?_
 .rintro i y ρ hy ⟨N,J,U,rfl⟩
  obtain⟨z,hz,rfl⟩:=gY hy;rw[zaD]at hz;obtain⟨q,G,rfl⟩:=map_some hz;rw[zaU];have Y:=ek i [] q G;rw[zaU]at Y;have wi:=w i;have cn:=rP (h:=hid p i) (acc:=accN p 0 (ks.take i) []) (aP q) cb;have nn:=AF C q;have l1:=ac (ks.take i) 0 [];have l2:=tk i;have l3:=eB q;have l4:=sz q<|zax G;have l5:=zdl (λx=>!decide (bx x=hid p i) && !decide (x∈accN p 0 (ks.take i) []))<|aP q;have z1:aZ (aP q).length=cf:=decide_eq_true (by lia);refine⟨[bx pd,bx<|.lst<|ks.map<|dX C,bx<|.lst<|(accN p 0 (ks.take<|i+1) []).map .str,bx<|.int (i:Int),bx<|dX C q,bx<|oS<|hid p i],?_,_,_,_,rfl⟩;rw[Y];unfold fF;have z2:aZ ((accN p 0 (ks.take i) []).length+((aP q).filter λx=>!decide (bx x=hid p i) && !decide (x∈accN p 0 (ks.take i) [])).length)=cf:=decide_eq_true (by simp only[zbP]at l1;lia);generalize (aP q).filter (λx=>!decide (bx x=hid p i) && !decide (x∈accN p 0 (ks.take i) []))=fl' at *;simp_all[-zav,turn,wi,dH,nn,U1,hW,z1,cn,z2]
 .rintro ρ' ⟨N,J,U,rfl⟩
  rw[fE,zak,zb3];simp_all
theorem yY(C:Bk):∀(m:Nat) (p:Pa),psz p<=m->psz p<=100->pN m (a7 C) (bJ p)=bx (dX C p)
 |0,p,h,_=>by have:=eU p;lia
 |m+1,p,h,h1=>by
  have ih:∀q∈kids p,pN m (a7 C) (bJ q)=bx (dX C q):=λq F=>yY C m q (by have:=gS F;lia)<|by have:=gS F;lia
  have wi:=nH p;have G:=SJ C p h1;have N:(kids p).length<=3:=by cases p <;> simp_all[kids]
  have J:∀(l:List Pa) (o:Option D),(∀q∈l,pN m (a7 C) (bJ q)=bx (dX C q))->bD (aS 0) fN (eNew (pN m) (λ_=>bx<|a7 C)<|aD 0) (l.map bJ) [o]=bx (l.map<|dX C):=λl=>by
   induction l with
   |nil=>exact λ_ _=>rfl
   |cons a l il=>
    intro o F;have e:=il (bx<|bJ a) λq h=>F q<|zaq _ h
    have ea:=F a<|zar ..;rw[zan,bD];simp_all[eNew,ea,e]
  have z:aZ (kids p).length=cf:=decide_eq_true (by lia);have c:=J (kids p) cb ih;rw[tY];show HY CN _ eR (DM<|a7 C) (FF<|a7 C) (bJ p)=_;unfold HY U6;have fb:dZ [cb] (fM<|aR iV<|aC (aD 1) aY) (aS 0) fN (eNew (pN m) (λ_=>bx<|a7 C)<|aD 0) [cb,bx<|bJ p]=bx (.lst<|(kids p).map<|dX C):=by
   simp_all[wi,hW,z,c]
  rw[fb,aA,G,aA]
def fK(a:Sm):cK [memD a]=bx (.int<|nI a):=by
 cases a with
 |none=>exact aL<|by ac_rfl
 |some p=>exact aL<|by ac_rfl
def LC(a b:Sm):mV [memD a,memD b]=bx (memD<|c8 a b):=by
 cases a with
 |none=>
  cases b with
  |none=>exact aL<|by ac_rfl
  |some q=>exact aL<|by ac_rfl
 |some p=>
  cases b with
  |none=>exact aL<|by ac_rfl
  |some q=>
   have e:(if q.2<p.2 then q.2 else p.2)=min p.2 q.2:=by split <;> lia
   exact aL<|by simp_all[AA,aH,memD,c8,gK,at0,at1,B1,e]
def OB(F:∀p,a=bx p->0<=p.1/\p.1<10^250)(z:∀p,b=bx p->0<=p.1/\p.1<10^250):OE [memD a,memD b]=bx (memD<|pO a b):=by
 cases a with
 |none=>
  cases b with
  |none=>exact aL<|by ac_rfl
  |some q=>exact aL<|by ac_rfl
 |some p=>
  cases b with
  |none=>exact aL<|by ac_rfl
  |some q=>
   have h1:=F p rfl;have h2:=z q rfl;have m:cV (.int p.1) (.int q.1)=bx (.int<|p.1*q.1):=cE (zeM (by decide) h1.1) h1.2 (zeM (by decide) h2.1) h2.2;exact aL<|by simp_all[OD,aH,memD,pO,gK,at0,at1,m]
def bP(C:Bk):Pa->List D
 |.use1 nm _=>(nL C nm 1).map λ(v:Nat)=>.int (v:Int)
 |.use2 nm _ _=>(nL C nm 2).map λ(v:Nat)=>.int (v:Int)
 |.lett _ _ _=>(zas C.kinds.length).map λ(v:Nat)=>.int (v:Int)
 |_=>[.non]
def B2(p:Mk->Bool):Nat->List Mk->List Nat
 |_,[]=>[]
 |k,m::ms=>if p m then k::B2 p (k+1) ms else B2 p (k+1) ms
theorem HB(p:Mk->Bool):∀(ms:List Mk) (k:Nat),B2 p k ms=((zas ms.length).filter λv=>match ms[v]? with
 |some m=>p m
 |none=>ci).map (·+k)
 |[],k=>rfl
 |m::ms,k=>by
  rw[B2,HB p ms<|k+1,zaA,List.range_succ_eq_map,zcO,List.filter_map];have e:(λv=>match (m::ms)[v]? with
   |some m=>p m
   |none=>ci) ∘ Nat.succ=λv=>match ms[v]? with
   |some m=>p m
   |none=>ci:=by funext v;rfl
  rw[e];have q:∀L:List Nat,((L.map Nat.succ).map (·+k))=L.map (·+(k+1)):=λL=>by
   rw[zav];congr 1;funext v;show v.succ+k=v+(k+1);lia
  show _=List.map (·+k) (if p m=cf then _ else _);cases hp:p m with
  |true=>rw[ck rfl,ck rfl,zan,q,zaU]
  |false=>rw[cq zaB,cq zaB,q]
theorem nP(h1:aJ pd (.int 1)=bx (.str nm))(h2:aJ pd (.int 2)=bx (.tup l)):∀(ms:List Mk) (k:Nat) (o o1:Option D),bD (kQ 2<|eL (aS 0)<|eL (aS 1) uF) (K7 (pS<|bB kI (bB aJ (aD 1)<|eC<|.int 0)<|bB aJ (aD 2)<|eC<|.int 1)<|pS<|bB kI (aR gB<|aC (bB aJ (aD 1)<|eC<|.int 1) aY)<|aR gB<|aC (bB aJ (aD 2)<|eC<|.int 2) aY) (aD 0) (fY k<|ms.map kD) [o,o1,bx pd]=bx ((B2 (λm=>decide (m.nm=nm) && decide (m.takes.length=l.length)) k ms).map λ(v:Nat)=>.int (v:Int))
 |[],k,o,o1=>rfl
 |m::ms,k,o,o1=>by
  have ih:=nP h1 h2 ms (k+1) (bx<|.int (k:Int))<|bx<|kD m;have q:gB [tupI m.takes]=bx (.int (m.takes.length:Int)):=by simp_all[tupI]
  rw[zan,fY,bD,B2];generalize (B2 (λm=>decide (m.nm=nm) && decide (m.takes.length=l.length)) (k+1) ms)=R at *;by_cases z:m.nm=nm
  .by_cases G:m.takes.length=l.length
   .simp_all[-zav,turn,ET,y8,h1,h2,q,z,G,ih]
   .have F:¬ (m.takes.length:Int)=(l.length:Int):=by lia
    simp_all[-zav,turn,ET,y8,h1,h2,q,z,G,F,ih]
  .simp_all[-zav,turn,ET,y8,h1,h2,q,z,ih]
def AH(C:Bk)(nm:Str)(n:Nat):B2 (λm=>decide (m.nm=nm) && decide (m.takes.length=n)) 0 C.makes=nL C nm n:=by
 rw[HB,show(λx:Nat=>x+0)=id from rfl,List.map_id];rfl
def nQ(B:OkB C)(p:Pa):dW [a7 C,bJ p]=bx (.lst<|bP C p):=by
 have J:=B.k6;have G:=B.ml;have z:aZ C.makes.length=cf:=decide_eq_true (by lia);have F:yX (.int (C.kinds.length:Int))=bx (.lst<|aQ 0 1 C.kinds.length):=by
  have:=RP (i:=(C.kinds.length:Int)) (by lia)<|by lia
  rwa [zbG]at this
 cases p with
 |name x=>exact aL<|by simp_all[eO,aH,bJ,bP,at0,tZ,oC]
 |num n j=>exact aL<|by simp_all[eO,aH,bJ,bP,at0,nY,lT]
 |use1 nm p=>
  have c:=nP (pd:=bJ<|.use1 nm p) (nm:=nm) (l:=[bJ p]) (by rw[bJ,q_itT];exact at1) (by rw[bJ,q_itT];exact at2) C.makes 0 cb cb;rw[List.length_singleton,AH]at c;simp only[bJ]at c;exact aL<|by simp_all[-zav,eO,aH,bJ,bP,at0,u7,hW,z,fE,c]
 |use2 nm p q=>
  have c:=nP (pd:=bJ<|.use2 nm p q) (nm:=nm) (l:=[bJ p,bJ q]) (by rw[bJ,q_itT];exact at1) (by rw[bJ,q_itT];exact at2) C.makes 0 cb cb;rw[show([bJ p,bJ q]:List D).length=2 from rfl,AH]at c;simp only[bJ]at c;exact aL<|by simp_all[-zav,eO,aH,bJ,bP,at0,u7,hW,z,fE,c]
 |lett x p q=>
  have er:aQ 0 1 C.kinds.length=(zas C.kinds.length).map λ(v:Nat)=>D.int (v:Int):=by
   rw[pA,zav];rfl
  rw[er]at F;exact aL<|by simp_all[-zav,eO,aH,bJ,bP,at0,oB,B3,F]
 |pick c k p q r=>exact aL<|by simp_all[eO,aH,bJ,bP,at0,nZ,lN]
 |again n k x p q=>exact aL<|by simp_all[eO,aH,bJ,bP,at0,oA,iY]
def DH(h:e8 d (.inr x:Key)=bx (.int j)):bM [a7 C,.dK d,bJ<|.name x,k,c]=bx (.int j):=by
 have e:=VB h;exact aL<|by simp_all[cH,aH,bJ,at0,at1,e]
def KH:bM [a7 C,.dK d,bJ<|.num n j,k,c]=bx (.int j):=
 aL (by simp_all[cH,aH,bJ,at0,at2,nY,lT,(by decide:¬ ("number" : Str) = "name")])
def FL:¬ ("use" : Str) = "name" := by decide
def C2{C:Bk}{d:List (Key×D)}{nm:Str}{p:Pa}{k:D}{v:Nat}{m:Mk}(h:C.makes[v]?=bx m):bM [a7 C,.dK d,bJ<|.use1 nm p,k,.int (v:Int)]=bx (.int m.g):=by
 have e:=pM h;exact aL<|by simp_all[-zav,cH,aH,bJ,at0,FL,u7,e,K1]
def DT{C:Bk}{d:List (Key×D)}{nm:Str}{p q:Pa}{k:D}{v:Nat}{m:Mk}(h:C.makes[v]?=bx m):bM [a7 C,.dK d,bJ<|.use2 nm p q,k,.int (v:Int)]=bx (.int m.g):=by
 have e:=pM h;exact aL<|by simp_all[-zav,cH,aH,bJ,at0,FL,u7,e,K1]
def J3:bM [a7 C,.dK d,bJ<|.lett x p q,k,c]=bx k:=
 aL (by simp_all[cH,aH,bJ,at0,oB,(by decide:¬ ("let" : Str) = "name")])
def CJ:bM [a7 C,.dK d,bJ<|.pick c' k' p q r,k,c]=bx (.int k'):=
 aL (by simp_all[cH,aH,bJ,at0,at2,nZ,lN,(by decide:¬ ("pick" : Str) = "name")])
def zM:bM [a7 C,.dK d,bJ<|.again n k' x p q,k,c]=bx (.int k'):=
 aL (by simp_all[cH,aH,bJ,at0,at2,oA,iY,(by decide:¬ ("again" : Str) = "name")])
def JW:bR [a7 C,bJ<|.name x,k,c]=bx (tupI []):=aL<|by simp_all[bZ,aH,bJ,at0,tZ,oC,F4,sZ,tupI]
def L7:bR [a7 C,bJ<|.num n j,k,c]=bx (tupI []):=aL<|by simp_all[bZ,aH,bJ,at0,nY,lT,GT,tI,tupI]
def J2{C:Bk}{nm:Str}{p:Pa}{k:D}{v:Nat}{m:Mk}(h:C.makes[v]?=bx m):bR [a7 C,bJ<|.use1 nm p,k,.int (v:Int)]=bx (tupI m.takes):=by
 have e:=pM h;exact aL<|by simp_all[-zav,bZ,aH,bJ,at0,u7,e,y8]
def JI{C:Bk}{nm:Str}{p q:Pa}{k:D}{v:Nat}{m:Mk}(h:C.makes[v]?=bx m):bR [a7 C,bJ<|.use2 nm p q,k,.int (v:Int)]=bx (tupI m.takes):=by
 have e:=pM h;exact aL<|by simp_all[-zav,bZ,aH,bJ,at0,u7,e,y8]
def MM:bR [a7 C,bJ<|.lett x p q,.int k,.int j]=bx (tupI [j,k]):=aL<|by simp_all[bZ,aH,bJ,at0,oB,tupI]
def KB:bR [a7 C,bJ<|.pick c' k' p q r,k,c]=bx (tupI [c',k',k']):=aL<|by simp_all[bZ,aH,bJ,at0,at1,at2,nZ,lN,tupI]
def CM:bR [a7 C,bJ<|.again n k' x p q,k,c]=bx (tupI [k',k']):=aL<|by simp_all[bZ,aH,bJ,at0,at2,oA,iY,F5,tupI]
def E4(C:Bk)(hd:Nat->D):Nat->List Pa->List Int->List D
 |i,q::l,k::ks=>.tup [dX C q,hd i,.int k]::E4 C hd (i+1) l ks
 |_,_,_=>[]
theorem BJ:∀(l:List Pa) (ks:List Int) (j i:Nat) (q:Pa) (k:Int),l[i]?=bx q->ks[i]?=bx k->E4 C hd j (l.take<|i+1) ks=E4 C hd j (l.take i) ks++[.tup [dX C q,hd<|j+i,.int k]]
 |[],ks,j,i,q,k,h,_=>by simp[-zad,-zac,aA,aB]at h
 |a::l,[],j,i,q,k,_,h=>by simp[-zad,-zac,aA,aB]at h
 |a::l,b::ks,j,0,q,k,h,h'=>by
  have z:a=q:=by simpa using h
  have F:b=k:=by simpa using h'
  subst z F;rfl
 |a::l,b::ks,j,i+1,q,k,h,h'=>by
  have ih:=BJ (C:=C) (hd:=hd) l ks (j+1) i q k (by simpa using h) (by simpa using h');rw[zcB,zcB,E4,E4,ih,show j+1+i=j+(i+1) by lia];rfl
theorem FP:∀(l:List Pa) (ks:List Int) (j:Nat),(E4 C hd j l ks).length<=l.length
 |[],ks,j=>by cases ks <;> simp_all[E4]
 |a::l,[],j=>by ac_rfl
 |a::l,b::ks,j=>by have:=FP (C:=C) (hd:=hd) l ks<|j+1;simp only[E4,zaA];lia
def T9{C:Bk}{at_:D}{p:Pa}{d:List (Key×D)}{k c:D}{ks:List Int}{hd:Nat->D}(hb:zB CA "book" at_=bx (a7 C))(hk:bR [a7 C,bJ p,k,c]=bx (tupI ks))(hl:(kids p).length<=ks.length)(hh:∀i,i<(kids p).length->dE [.dK d,bJ p,.int (i:Int),c]=bx (hd i)):kH [at_,dX C p,.dK d,k,c]=bx (.lst<|E4 C hd 0 (kids p) ks):=by
 refine aL ?_;unfold GU;have np:=kF C p;have nb:=LQ C p;have h3:(kids p).length<=3:=by cases p <;> simp_all[kids]
 generalize kids p=l at *;generalize dX C p=nd at *;generalize bJ p=pd at *;rw[aE<|aM (d:=tupI ks)<|by ac_rfl];rw[aE<|aM (d:=.lst [])<|by simp_all];refine iP (items:=fY 0<|l.map<|dX C) (by ac_rfl) (λi ρ=>∃N J,ρ=[bx at_,bx nd,bx<|.dK d,bx k,bx c,bx<|tupI ks,bx<|.lst<|E4 C hd 0 (l.take i) ks,N,J]) ⟨cb,cb,by ac_rfl⟩ ?_ ?_
 .rintro i y ρ hy ⟨N,J,rfl⟩
  obtain⟨z,W,rfl⟩:=gY hy;rw[zaD]at W;obtain⟨q,U,rfl⟩:=map_some W;rw[zaU];have hi:=(List.getElem?_eq_some_iff.mp U).1;obtain⟨G,F⟩:∃G,ks[i]?=bx G:=⟨ks[i],za0<|by lia⟩;have e:=BJ (C:=C) (hd:=hd) l ks 0 i q G U F;rw[zaU]at e;have hx:=hh i hi;have ek:gC (ks.map D.int) (i:Int)=bx (.int G):=bS (by rw[zaD,F];rfl);have Y:=FP (C:=C) (hd:=hd) (l.take i) ks 0;have z1:aZ (E4 C hd 0 (l.take i) ks).length=cf:=decide_eq_true (by rw[zcd]at Y;lia);refine⟨[bx at_,bx nd,bx<|.dK d,bx k,bx c,bx<|tupI ks,bx<|.lst<|E4 C hd 0 (l.take<|i+1) ks,bx<|.int (i:Int),bx<|dX C q],?_,_,_,rfl⟩;rw[e];generalize E4 C hd 0 (l.take i) ks=sp at *;simp_all[-zav,turn,dH,np,hx,tupI,ek,z1]
 .rintro ρ' ⟨N,J,rfl⟩
  rw[fE,zak,zb3];simp_all
def Small(a:Sm):Prop:=∀p,a=bx p->0<=p.1/\p.1<10^250
def VX(C:Bk)(p:Pa)(c:D)(own:Int):Prop:=(US p = "use" /\ ∃(v:Nat) (m:Mk),c=.int (v:Int)/\C.makes[v]?=bx m/\own=m.pr)\/(¬ US p = "use" /\ own=0)
def NY(a:Sm):ID (memD a) .non=bx (.bl a.isSome):=by cases a <;> rfl
def VU(h:e8 L ([.inl j,.inl k]:List Key)=bx e):aJ (.dT L) (.tup [.int j,.int k])=bx e:=by
 show(bx<|e8 L ([.inl j,.inl k]:List Key)).join=_;rw[h];rfl
def xD{C:Bk}{at_:D}{L2:LT}{p:Pa}{d:List (Key×D)}{k j own:Int}{c:D}{R:List D->Option D}{Rs:List (D×D×D×Sm)}(hb:zB CA "book" at_=bx (a7 C))(hs:zB CA "spans" at_=bx (.dT L2))(hv:e8 L2 ([.inl j,.inl k]:List Key)=bx (memD<|QL C j k))(ho:VX C p c own)
  (hg:bM [a7 C,.dK d,bJ p,.int k,c]=bx (.int j)) (N:kH [at_,dX C p,.dK d,.int k,c]=bx (.lst<|Rs.map λr=>.tup [r.1,r.2.1,r.2.2.1])) (hR:∀r∈Rs,R [at_,r.1,r.2.1,r.2.2.1]=bx (memD r.2.2.2)) (h0:Small<|QL C j k) (h1:∀r∈Rs,Small r.2.2.2) (h2:∀i,Small<|csum C own j k<|(Rs.map (·.2.2.2)).take i) :
  bE 10 (cG R) [at_,dX C p,.dK d,.int k,c]=bx (memD<|csum C own j k<|Rs.map (·.2.2.2)):=by
 refine aL ?_;unfold cG;have np:=kF C p;have tg:=PR p;generalize dX C p=nd at *;have e1:(eIf (pS<|bB kI (bB aJ (dH CN "part"<|aD 1)<|eC<|.int 0)<|eC<|.str "use") (bB aJ (bB aJ (bB aJ (dH CA "book"<|aD 0)<|eC<|.int 3)<|aD 4)<|eC<|.int 4)<|eC<|.int 0) (aH 10 [at_,nd,.dK d,.int k,c])=bx (.int own):=by
  rcases ho with⟨t,v,m,rfl,q,rfl⟩|⟨t,rfl⟩
  .have e:=pM q
   ac_rfl
  .ac_rfl
 rw[aE<|aM (d:=.int own) e1];have U:=OB (a:=bx (1,own)) (b:=QL C j k) (λp N=>by cases N;exact⟨(by decide:(0:Int)<=1),(by decide:(1:Int)<10^250)⟩) h0;have e0:memD (bx (1,own))=.tup [.int 1,.int own]:=rfl;rw[e0]at U;have es:=VU hv;rw[aE<|aM (d:=memD<|csum C own j k [])<|by simp_all[aH,dH,np,hb,hs,hg,es,U,csum]];refine iP (items:=Rs.map λr=>.tup [r.1,r.2.1,r.2.2.1]) (by ac_rfl) (λi ρ=>∃G F z,ρ=[bx at_,bx nd,bx<|.dK d,bx<|.int k,bx c,bx<|.int own,bx<|memD<|csum C own j k<|(Rs.map (·.2.2.2)).take i,G,F,z]) ⟨cb,cb,cb,by ac_rfl⟩ ?_ ?_
 .rintro i y ρ J ⟨G,F,z,rfl⟩
  rw[zaD]at J;obtain⟨r,W,rfl⟩:=map_some J;have q:=zax W;have er:=hR r q;have Y:(Rs.map (·.2.2.2)).take (i+1)=(Rs.map (·.2.2.2)).take i++[r.2.2.2]:=by
   rw[zdo,zaD,W];rfl
  have ec:csum C own j k ((Rs.map (·.2.2.2)).take<|i+1)=pO (csum C own j k<|(Rs.map (·.2.2.2)).take i) r.2.2.2:=by
   rw[Y];unfold csum;rw[List.foldl_append];rfl
  have bb:=OB (h2 i)<|h1 r q;have nn:=NY<|csum C own j k<|(Rs.map (·.2.2.2)).take i;refine⟨[bx at_,bx nd,bx<|.dK d,bx<|.int k,bx c,bx<|.int own,bx<|memD<|csum C own j k<|(Rs.map (·.2.2.2)).take<|i+1,bx r.1,bx r.2.1,bx r.2.2.1],?_,_,_,_,rfl⟩;rw[ec];generalize csum C own j k ((Rs.map (·.2.2.2)).take i)=t at *;cases t with
  |none=>
   have i0:gK (memD cb)=cf:=rfl
   ac_rfl
  |some t=>
   have i0:gK (memD<|bx t)=ci:=rfl
   ac_rfl
 .rintro ρ' ⟨G,F,z,rfl⟩
  rw[zak,zb4<|by rw[zak];exact zaj _];simp_all
def DJ(l:List Int):intsOf (l.map .int)=bx l:=by
 induction l with
 |nil=>rfl
 |cons i l ih=>show(intsOf<|l.map .int).map (i::·)=_;rw[ih];rfl
theorem qP:∀(l:List Str) (o:Option D),(∀x∈l,e8 d (.inr x:Key)=bx (.int<|e x))->bD (aS 0) fN (bB aJ (aD 1)<|aD 0) (l.map .str) [o,bx<|.dK d]=bx ((l.map e).map .int)
 |[],o,_=>rfl
 |x::l,o,h=>by
  have ih:=qP l (bx<|.str x) λy q=>h y<|zaq _ q
  have z:=VB<|h x<|zar ..;rw[zan,bD];simp_all[-zav,z,ih]
def DU{C:Bk}(B:OkB C){at_:D}{p:Pa}{d:List (Key×D)}{k:Int}{e:gU}{R:List D->Option D}{f:D->Sm}(N:zB CA "book" at_=bx (a7 C))(U:0<=k/\k<(C.kinds.length:Int))(hd:∀x∈aP p,e8 d (.inr x:Key)=bx (.int<|e x))(Y:∀x∈aP p,0<=e x/\e x<(C.kinds.length:Int))(h8:(aP p).length<=8)
  (hc:∀c∈bP C p,bE 10 (cG R) [at_,dX C p,.dK d,.int k,c]=bx (memD<|f c)) (W:(bP C p).foldl (λt c=>c8 t<|f c) cb=aU C p e k):bE 7 (g8 R) [at_,dX C p,.dK d,.int k]=bx (memD<|aU C p e k):=by
 refine aL ?_;unfold g8;have np:=kF C p;have nn:=AF C p;have nf:=MU C p;have wc:=nQ B p;have cm:=qP (d:=d) (e:=e) (aP p) cb hd;have z1:aZ (aP p).length=cf:=decide_eq_true (by lia);have J:nkD (.tup [.int k,.tup<|((aP p).map e).map .int])=bx (.inl k,((aP p).map e).map .inl):=by
  show(intsOf _).map _=_;rw[DJ];rfl
 have fk:=qah C p k<|(aP p).map e;have dm:=qas (C:=C) (p:=p) (k:=k) (l:=(aP p).map e) U (by rw[zak]) λj F=>by
  obtain⟨x,hx,rfl⟩:=List.mem_map.mp F;exact Y x hx
 have dl:=WL (C:=C) (p:=p) B.k6 h8;have cg:=b8 C p (KW (aP p)<|(aP p).map e) e k λx hx=>AY e hx
 rw[cg]at fk;generalize dX C p=nd at *;rw[aE<|aM (d:=.tup [.int k,.tup<|((aP p).map e).map .int])<|by simp_all[-zav,aH,dH,nn,hW,z1,cm]];rw[show(aH 7 [at_,nd,.dK d,.int k]).set 4 (bx<|.tup [.int k,.tup<|((aP p).map e).map .int])=[bx at_,bx nd,bx<|.dK d,bx<|.int k,bx<|.tup [.int k,.tup<|((aP p).map e).map .int],cb,cb]from rfl];have lp:=t6 (g:=aS 6) (b:=d9 5<|aR mV<|aC (aD 5)<|aC (aR (bE 10<|cG R)<|aC (aD 0)<|aC (aD 1)<|aC (aD 2)<|aC (aD 3)<|aC (aD 6) aY) aY) (items:=bP C p) (ρ:=[bx at_,bx nd,bx<|.dK d,bx<|.int k,bx<|.tup [.int k,.tup<|((aP p).map e).map .int],bx .non,cb])
  (λi ρ => ∃q, ρ = [bx at_, bx nd, bx<|.dK d, bx<|.int k, bx<|.tup [.int k, .tup<|((aP p).map e).map .int], bx<|memD<|((bP C p).take i).foldl (λt c => c8 t<|f c) cb, q]) ⟨cb, rfl⟩ (by
   rintro i c ρ hi ⟨q,rfl⟩;have ec:=hc c<|zax hi;have G:(bP C p).take (i+1)=(bP C p).take i++[c]:=by rw[zdo,hi];rfl
   have ee:=LC (((bP C p).take i).foldl (λt c=>c8 t<|f c) cb)<|f c;refine⟨[bx at_,bx nd,bx<|.dK d,bx<|.int k,bx<|.tup [.int k,.tup<|((aP p).map e).map .int],bx<|memD<|((bP C p).take<|i+1).foldl (λt c=>c8 t<|f c) cb,bx c],?_,_,rfl⟩;rw[G,List.foldl_append];generalize ((bP C p).take i).foldl (λt c=>c8 t<|f c) cb=t at *;simp_all[-zav,turn,ec,ee])
 obtain⟨ρ',z,q,rfl⟩:=lp;rw[zb3,W]at z;unfold VL;have f2:(y9 (fM<|aR dW<|aC (dH CA "book"<|aD 0)<|aC (dH CN "part"<|aD 1) aY) (aS 6)<|d9 5<|aR mV<|aC (aD 5)<|aC (aR (bE 10<|cG R)<|aC (aD 0)<|aC (aD 1)<|aC (aD 2)<|aC (aD 3)<|aC (aD 6) aY) aY) [bx at_,bx nd,bx<|.dK d,bx<|.int k,bx<|.tup [.int k,.tup<|((aP p).map e).map .int],bx .non,cb]=bx (.nx [bx at_,bx nd,bx<|.dK d,bx<|.int k,bx<|.tup [.int k,.tup<|((aP p).map e).map .int],bx<|memD<|aU C p e k,q]):=by
  rw[q_for];have:fM (aR dW<|aC (dH CA "book"<|aD 0)<|aC (dH CN "part"<|aD 1) aY) [bx at_,bx nd,bx<|.dK d,bx<|.int k,bx<|.tup [.int k,.tup<|((aP p).map e).map .int],bx .non,cb]=bx (bP C p):=by simp_all[dH,N,np,wc]
  rw[this];exact z
 have f1:(d9 5<|eC .non) [bx at_,bx nd,bx<|.dK d,bx<|.int k,bx<|.tup [.int k,.tup<|((aP p).map e).map .int],cb,cb]=bx (.nx [bx at_,bx nd,bx<|.dK d,bx<|.int k,bx<|.tup [.int k,.tup<|((aP p).map e).map .int],bx .non,cb]):=rfl;show(aD 1 [bx at_,bx nd,bx<|.dK d,bx<|.int k,bx<|.tup [.int k,.tup<|((aP p).map e).map .int],cb,cb]).bind _=_;rw[show aD 1 [bx at_,bx nd,bx<|.dK d,bx<|.int k,bx<|.tup [.int k,.tup<|((aP p).map e).map .int],cb,cb]=bx nd from rfl,aA,nf,aA];dsimp only;rw[show aD 4 [bx at_,bx nd,bx<|.dK d,bx<|.int k,bx<|.tup [.int k,.tup<|((aP p).map e).map .int],cb,cb]=bx (.tup [.int k,.tup<|((aP p).map e).map .int])from rfl,aA,J,aA,f1,aA];dsimp only;rw[f2,aA];dsimp only;rw[show aD 5 [bx at_,bx nd,bx<|.dK d,bx<|.int k,bx<|.tup [.int k,.tup<|((aP p).map e).map .int],bx<|memD<|aU C p e k,q]=bx (memD<|aU C p e k)from rfl,aA,ck ⟨dm,dl,by rw[fk],rfl,rfl⟩]
def qo(h:turn w s x ρ=bx (.nx ρ1))(k:ρ1=ρ2):turn w s x ρ=bx (.nx ρ2):=k ▸ h
def X6(h:aD k ρ=bx (.lst xs))(e:f ρ=bx (.lst ys))(z:xs.length+ys.length<=1000000):U1 k f ρ=bx (.nx<|ρ.set k<|bx<|.lst<|xs++ys):=by
 unfold U1;rw[h,aA];show(f ρ).bind _=_;rw[e,aA];exact ck<|decide_eq_true z
local macro_rules | `(tactic|ac_rfl) => `(tactic|(with_reducible apply X6) <;> ac_rfl)
theorem PH(g:GR M many C.rs):∀(n:Nat) (x:Int),k-x<(n:Int)->0<n->k-x<=5->i6 6 lJ n [a7 C,.int x,.int k]=bx (.lst<|(bU C.rs k n x).map tupI)
 |0,x,_,h,_=>absurd h<|zb9 0
 |n+1,x,hn,_,h5=>by
  have Y:∀y:Int,k-y<(n:Int)->0<n->k-y<=5->i6 6 lJ n [a7 C,.int y,.int k]=bx (.lst<|(bU C.rs k n y).map tupI):=λy=>PH g n y
  show bE 6 (lJ<|i6 6 lJ n) _=_;generalize i6 6 lJ n=R at Y ⊢;refine aL ?_;unfold lJ bU;by_cases e:x=k
  .rw[ck e]
   ac_rfl
  rw[cq e];rw[aE (ρ':=aH 6 [a7 C,.int x,.int k])<|by ac_rfl];rw[aE<|aM (d:=.lst [])<|by simp_all];refine iP (items:=fY 0<|C.rs.map kW) (by ac_rfl) (λi ρ=>∃F W,ρ=[bx<|a7 C,bx<|.int x,bx<|.int k,bx<|.lst<|(fl (λi r=>if r.j=x/\r.k<=k then(bU C.rs k n r.k).map λw=>(i:Int)::w else []) 0<|C.rs.take i).map tupI,F,W]) ⟨cb,cb,by ac_rfl⟩ ?_ ?_
  .rintro i y ρ hy ⟨F,W,rfl⟩
   obtain⟨z,hz,rfl⟩:=gY hy;rw[zaD]at hz;obtain⟨r,N,rfl⟩:=map_some hz;rw[zaU];have gr:=g.jk r<|zax N;have hi:i<C.rs.length:=(List.getElem?_eq_some_iff.mp N).1;have gl:=g.len;refine⟨[bx<|a7 C,bx<|.int x,bx<|.int k,bx<|.lst<|(fl (λi r=>if r.j=x/\r.k<=k then(bU C.rs k n r.k).map λw=>(i:Int)::w else []) 0<|C.rs.take<|i+1).map tupI,bx<|.int (i:Int),bx<|kW r],?_,_,_,rfl⟩;rw[RU N];by_cases q:r.j=x/\r.k<=k
   .have U:(fl (λi r=>if r.j=x/\r.k<=k then(bU C.rs k n r.k).map λw=>(i:Int)::w else []) 0<|C.rs.take i).length<=12*12^4:=by
     refine zaO (jS (B:=12^4) λt G er=>?_) (Nat.mul_le_mul_right _<|by simp_all;lia);split
     .rw[zak]
      have J:C.rs[t]?=bx G:=by rw[List.getElem?_take]at er;split at er;exact er;cases er
      have ac:=g.jk G<|zax J;exact mL g n G.k 4<|by lia
     .exact zaM _
    rw[ck q];generalize fl (λi r=>if r.j=x/\r.k<=k then(bU C.rs k n r.k).map λw=>(i:Int)::w else []) 0 (C.rs.take i)=told at U;have ih:=Y r.k (by lia) (by lia) (by lia);have al:=mL g n r.k 4 (k:=k) (by lia);have cm:=rF (t:=(i:Int)) (bU C.rs k n r.k) cb λw hw=>by
     have:=jV g<|iL hw;lia
    have z1:((bU C.rs k n r.k).map tupI).length<=1000000:=by rw[zak];lia
    have z2:(told.map tupI).length+(((bU C.rs k n r.k).map λw=>(i:Int)::w).map tupI).length<=1000000:=by rw[zak,zak,zak];lia
    obtain⟨c1,c2⟩:=q;rw[zaR];apply qo
    .ac_rfl
    .rfl
   .rw[cq q,zbi]
    by_cases h1:r.j=x
    .have h2:¬ r.k<=k:=λz=>q ⟨h1,z⟩
     ac_rfl
    .ac_rfl
  .rintro ρ' ⟨F,W,rfl⟩
   rw[fE,zak,zb3];simp_all
def zR(h:∀n∈w,∃r,lX C.rs n=bx r)(z:w.length<=100):jL [a7 C,tupI w]=bx (.int<|f7 C.rs w):=by
 obtain⟨ns,e,hs⟩:=vO h;have q:aZ w.length=cf:=decide_eq_true (by lia);refine aL ?_;simp_all[oP,aH,tupI,hW,q,e,hs]
theorem pC:∀(ws:List<|List Int) (o:Option D),(∀w∈ws,(∀n∈w,∃r,lX C.rs n=bx r)/\w.length<=100)->bD (aS 0) fN (aR jL<|aC (aD 1)<|aC (aD 0) aY) (ws.map tupI) [o,bx<|a7 C]=bx ((ws.map<|f7 C.rs).map .int)
 |[],o,_=>rfl
 |w::ws,o,h=>by
  have ih:=pC ws (bx<|tupI w) λv q=>h v<|zaq _ q
  have e:=zR (h w<|zar ..).1 (h w<|zar ..).2;rw[zan,bD];simp_all[-zav,e,ih]
def CZ(B:OkB C)(J:0<=j)(k1:k<(C.kinds.length:Int)):cS [a7 C,.lst<|(bU C.rs k 8 j).map tupI]=bx (memD<|QL C j k):=by
 have N:=B.k6;have G:=mL B.gr (k:=k) 8 j 5 (by lia);have hw:∀w∈bU C.rs k 8 j,(∀n∈w,∃r,lX C.rs n=bx r)/\w.length<=100:=λw hw=>by
  have g:=iL hw;have:=jV B.gr g;exact⟨yR g,by lia⟩
 have c:=pC (bU C.rs k 8 j) cb hw;have z:aZ (bU C.rs k 8 j).length=cf:=decide_eq_true (by lia);refine aL ?_;unfold rO QL;generalize bU C.rs k 8 j=ws at *;rw[aE<|aM (d:=.lst<|(ws.map<|f7 C.rs).map .int)<|by simp_all[-zav,aH,hW,z,c]];by_cases h:ws.length=0
 .rw[ck h]
  have:ws=[]:=List.length_eq_zero_iff.mp h;subst this
  ac_rfl
 .rw[cq h]
  have e:=SX (ns:=ws.map<|f7 C.rs) (λz=>h<|by rw[List.map_eq_nil_iff]at z;rw[z];rfl);have F:(0:Int)<(ws.length:Int):=by lia
  have q:¬ ws=[]:=λz=>h<|by rw[z];rfl
  simp_all[-zav,aH,e,F,q,memD]
theorem nN{z:Type}{f:D->z->Option z}(I:Nat->z->Prop):∀(l:List D) (k:Nat) (a:z),I k a->(∀i x a,l[i]?=bx x->I (k+i) a->∃q,f x a=bx q/\I (k+i+1) q)->∃q,kR f l a=bx q/\I (k+l.length) q
 |[],k,a,h,_=>⟨a,rfl,h⟩
 |x::l,k,a,h,s=>by
  obtain⟨W,J,h1⟩:=s 0 x a rfl h;obtain⟨F,U,h2⟩:=nN I l (k+1) W h1 λi y b G N=>by
   have:=s (i+1) y b (by simpa using G) (by rw[show k+(i+1)=k+1+i by lia];exact N);rw[show k+(i+1)+1=k+1+i+1 by lia]at this;exact this
  refine⟨F,?_,by rw[zaA,show k+(l.length+1)=k+1+l.length by lia];exact h2⟩;show(f x a).bind (kR f l)=bx F;rw[J];exact U
def AK{l:LT}{k:List Key}:(putD l k e).length<=l.length+1:=by
 unfold putD;split <;> simp_all
def KU(C:Bk)(P:Int->Int->Prop)(p:LT×LT):Prop:=∀j k,P j k->e8 p.1 ([.inl j,.inl k]:List Key)=bx (.lst<|(bU C.rs k 8 j).map tupI)/\e8 p.2 ([.inl j,.inl k]:List Key)=bx (memD<|QL C j k)
def SR{C:Bk}(B:OkB C):∃N L2,t5 CA gA gQ cS (a7 C)=bx (.ob CA [("book",a7 C),("routes",.dT N),("spans",.dT L2)])/\KU C (λj k=>(0<=j/\j<(C.kinds.length:Int))/\0<=k/\k<(C.kinds.length:Int)) (N,L2):=by
 have k6:=B.k6;have g:gA (a7 C)=bx (aQ 0 1 C.kinds.length):=by
  unfold gA;simp_all[B3,cF<|show C.kinds.length<=1000000 by lia]
 have step:∀(j k:Int) (p:LT×LT),(0<=j/\j<(C.kinds.length:Int))->(0<=k/\k<(C.kinds.length:Int))->p.1.length<=100->p.2.length<=100->lK gQ cS (a7 C) (.int j) (.int k) p=bx (putD p.1 ([.inl j,.inl k]:List Key)<|.lst<|(bU C.rs k 8 j).map tupI,putD p.2 ([.inl j,.inl k]:List Key)<|memD<|QL C j k):=λj k p J hk l1 l2=>by
  have w:gQ [a7 C,.int j,.int k]=bx (.lst<|(bU C.rs k 8 j).map tupI):=PH B.gr 8 j (by lia) (by decide) (by lia);have ws:=CZ B J.1 hk.2;unfold lK;rw[w,aA,show WD (.tup [.int j,.int k])=bx ([.inl j,.inl k]:List Key)from rfl,aA,ck ⟨decide_eq_true<|by lia,decide_eq_true<|by lia⟩,pX,ck rfl,aA,ws];rfl
 have inner:∀(j:Nat) (p:LT×LT),j<C.kinds.length->p.1.length<=6*j->p.2.length<=6*j->KU C (λa b=>(0<=a/\a<(j:Int))/\0<=b/\b<(C.kinds.length:Int)) p->∃p',kR (lK gQ cS (a7 C)<|.int (j:Int)) (aQ 0 1 C.kinds.length) p=bx p'/\p'.1.length<=6*(j+1)/\p'.2.length<=6*(j+1)/\KU C (λa b=>(0<=a/\a<((j+1:Nat):Int))/\0<=b/\b<(C.kinds.length:Int)) p':=λj p J l1 l2 ok=>by
  obtain⟨p',e,a1,a2,U⟩:=nN (f:=lK gQ cS (a7 C)<|.int (j:Int)) (λi q=>q.1.length<=6*j+i/\q.2.length<=6*j+i/\KU C (λa b=>((0<=a/\a<(j:Int))/\0<=b/\b<(C.kinds.length:Int))\/(a=(j:Int)/\0<=b/\b<(i:Int))) q) (aQ 0 1 C.kinds.length) 0 p ⟨l1,l2,λa b h=>by rcases h with h|h;exact ok a b h;lia⟩ (by
   intro i x q hx ⟨b1,W,G⟩;obtain⟨F,rfl⟩:=bV hx;rw[zaU]at *;rw[show(0:Int)+(i:Int)*1=(i:Int) by lia];have ai:=AK (l:=q.1) (k:=([.inl (j:Int),.inl (i:Int)]:List Key)) (e:=.lst<|(bU C.rs (i:Int) 8 (j:Int)).map tupI);have ah:=AK (l:=q.2) (k:=([.inl (j:Int),.inl (i:Int)]:List Key)) (e:=memD<|QL C (j:Int) (i:Int));refine⟨_,step (j:Int) (i:Int) q ⟨by lia,by lia⟩ ⟨by lia,by lia⟩ (by lia)<|by lia,by simp only;lia,by simp only;lia,λa b h=>?_⟩;simp only[pX];by_cases z:a=(j:Int)/\b=(i:Int)
   .rw[z.1,z.2,ck rfl,ck rfl];exact⟨rfl,rfl⟩
   .have Y:¬ ([.inl a,.inl b]:List Key)=[.inl (j:Int),.inl (i:Int)]:=λq=>z (by simpa using q)
    rw[cq Y,cq Y];refine G a b ?_;rcases h with h|h
    .exact .inl h
    .exact .inr ⟨h.1,h.2.1,by lia⟩)
  rw[bH,zaU]at a1 a2 U;refine⟨p',e,by lia,by lia,λa b h=>U a b ?_⟩;by_cases z:a=(j:Int)
  .exact .inr ⟨z,h.2⟩
  .exact .inl ⟨⟨h.1.1,by lia⟩,h.2⟩
 obtain⟨p',e,_,_,ok⟩:=nN (f:=λj p=>(gA<|a7 C).bind λks=>kR (lK gQ cS (a7 C) j) ks p) (λi q=>q.1.length<=6*i/\q.2.length<=6*i/\KU C (λa b=>(0<=a/\a<(i:Int))/\0<=b/\b<(C.kinds.length:Int)) q) (aQ 0 1 C.kinds.length) 0 ([],[]) ⟨zaj _,zaj _,λa b h=>by lia⟩ (by
  intro i x q hx ⟨b1,W,G⟩;obtain⟨F,rfl⟩:=bV hx;rw[zaU]at *;rw[show(0:Int)+(i:Int)*1=(i:Int) by lia];obtain⟨p',e,c1,c2,c3⟩:=inner i q F b1 W G;exact⟨p',by rw[g];exact e,c1,c2,c3⟩)
 rw[bH,zaU]at ok;refine⟨p'.1,p'.2,?_,ok⟩;unfold t5;rw[g,aA,<- g,e];rfl
theorem v4(g:GR M many rs):∀(n:Nat) (x:Int),(bU rs k n x).length<=12^n
 |0,x=>zaM _
 |n+1,x=>by
  unfold bU;split
  .exact Nat.pos_of_ne_zero<|zbr<|Nat.pow_pos<|by decide
  .refine zaO (jS (B:=12^n) λi r q=>?_) ?_
   .split
    .rw[zak];exact v4 g n r.k
    .exact zaM _
   .rw[Nat.pow_succ,Nat.mul_comm];exact Nat.mul_le_mul_left _ g.len
def TT(m:Nat):Int:=((10000000000^m:Nat):Int)
def N7(m n:Nat):TT (m+n)=TT m*TT n:=by unfold TT;rw[Nat.pow_add,Int.natCast_mul]
def TX(h:m<=n):TT m<=TT n:=Int.ofNat_le.mpr<|Nat.pow_le_pow_right (by decide) h
def HK(m:Nat):0<=TT m:=Int.natCast_nonneg _
def LeT(m:Nat)(a:Int):Prop:=0<=a/\a<=TT m
def LeT.mul(h:LeT m a)(k:LeT n b):LeT (m+n)<|a*b:=⟨zdg h.1 k.1,by rw[N7];exact Int.mul_le_mul h.2 k.2 k.1<|HK m⟩
def LeT.mono(h:LeT m a)(k:m<=n):LeT n a:=⟨h.1,zd9 h.2<|TX k⟩
def LeT.one:LeT 0 1:=⟨by decide,by unfold TT;exact zdp _⟩
def sX(h:LeT m<|nI a)(q:m<=16):Small a:=λp z=>by
 subst z;have b:=(h.mono q).2;have c:TT 16<10^250:=by decide +kernel
 exact⟨h.1,Int.lt_of_le_of_lt b c⟩
def cI:D->Int
 |.int v=>v
 |_=>0
def QE(C:Bk):Pa->D->Int
 |.use1 ..,c=>mpr C (cI c).toNat
 |.use2 ..,c=>mpr C (cI c).toNat
 |_,_=>0
def dU(C:Bk):Pa->gU->Int->D->Int
 |.name x,e,_,_=>e x
 |.num _ j,_,_,_=>j
 |.use1 ..,_,_,c=>dG C (cI c).toNat
 |.use2 ..,_,_,c=>dG C (cI c).toNat
 |.lett ..,_,k,_=>k
 |.pick _ k' ..,_,_,_=>k'
 |.again _ k' ..,_,_,_=>k'
def CB(C:Bk):Pa->Int->D->List Int
 |.use1 ..,_,c=>[aT C (cI c).toNat 0]
 |.use2 ..,_,c=>[aT C (cI c).toNat 0,aT C (cI c).toNat 1]
 |.lett ..,k,c=>[cI c,k]
 |.pick c' k' ..,_,_=>[c',k',k']
 |.again _ k' ..,_,_=>[k',k']
 |_,_,_=>[]
def EY:Pa->D->Int
 |.lett ..,c=>cI c
 |.again _ k' ..,_=>k'
 |_,_=>0
def QN(p:Pa)(e:gU)(c:D)(i:Nat):gU:=match hid p i with
 |none=>e
 |some x=>eZ e x<|EY p c
def LB(p:Pa)(d:List<|Key×D)(c:D)(i:Nat):List<|Key×D:=match hid p i with
 |none=>d
 |some x=>putD d (.inr x)<|.int<|EY p c
abbrev Sb:=Pa×List (Key×D)×gU×Int
def E5(hd:Nat->List (Key×D))(ev:Nat->gU):Nat->List Pa->List Int->List Sb
 |i,q::l,k::ks=>(q,hd i,ev i,k)::E5 hd ev (i+1) l ks
 |_,_,_=>[]
def qI(C:Bk)(s:Sb):Sm:=aU C s.1 s.2.2.1 s.2.2.2
def sb(C:Bk)(p:Pa)(d:List<|Key×D)(e:gU)(k:Int)(c:D):List Sb:=E5 (LB p d c) (QN p e c) 0 (kids p)<|CB C p k c
def vC(C:Bk)(p:Pa)(d:List<|Key×D)(e:gU)(k:Int)(c:D):Sm:=csum C (QE C p c) (dU C p e k c) k<|(sb C p d e k c).map<|qI C
def xU(C:Bk)(p:Pa)(d:List<|Key×D)(e:gU)(k:Int):(bP C p).foldl (λt c=>c8 t<|vC C p d e k c) cb=aU C p e k:=by
 cases p with
 |name x=>simp only[bP,aU,zcZ,zea];cases h:vC C (.name x) d e k .non <;> exact h.symm
 |num n j=>simp only[bP,aU,zcZ,zea];cases h:vC C (.num n j) d e k .non <;> exact h.symm
 |use1 nm p=>simp only[bP,aU,List.foldl_map];rfl
 |use2 nm p q=>simp only[bP,aU,List.foldl_map];rfl
 |lett x p q=>simp only[bP,aU,List.foldl_map];rfl
 |pick c' k' p q r=>simp only[bP,aU,zcZ,zea];cases h:vC C (.pick c' k' p q r) d e k .non <;> exact h.symm
 |again n k' x p q=>simp only[bP,aU,zcZ,zea];cases h:vC C (.again n k' x p q) d e k .non <;> exact h.symm
theorem iS{hd:Nat->List (Key×D)}{ev:Nat->gU}:∀ {l:List Pa} {ks:List Int} {j i:Nat} {s:Sb},(E5 hd ev j l ks)[i]?=bx s->∃q k,l[i]?=bx q/\ks[i]?=bx k/\s=(q,hd<|j+i,ev<|j+i,k)
 |[],ks,j,i,s,h=>by cases ks <;> simp[-zad,-zac,aA,aB,E5]at h
 |q::l,[],j,i,s,h=>by simp[-zad,-zac,aA,aB,E5]at h
 |q::l,k::ks,j,0,s,h=>by
  have:(q,hd j,ev j,k)=s:=by simpa[E5]using h
  exact⟨q,k,rfl,rfl,this.symm⟩
 |q::l,k::ks,j,i+1,s,h=>by
  obtain⟨F,z,h1,h2,G⟩:=iS (l:=l) (ks:=ks) (j:=j+1) (i:=i) (s:=s) (by simpa[E5]using h);exact⟨F,z,by simpa using h1,by simpa using h2,by rw[G,show j+1+i=j+(i+1) by lia]⟩
theorem x8{hd:Nat->List (Key×D)}{ev:Nat->gU}:∀ {l:List Pa} {ks:List Int} {j:Nat},l.length=ks.length->(E5 hd ev j l ks).length=l.length
 |[],ks,j,h=>by cases ks <;> rfl
 |q::l,[],j,h=>by simp[-zad,-zac,aA,aB]at h
 |q::l,k::ks,j,h=>by rw[E5,zaA,zaA,x8<|by simpa using h]
theorem xR{hd:Nat->List (Key×D)}{ev:Nat->gU}:∀(l:List Pa) (ks:List Int) (j:Nat),((E5 hd ev j l ks).map λs=>psz s.1).sum<=(l.map psz).sum
 |[],ks,j=>by cases ks <;> simp_all[E5]
 |q::l,[],j=>by simp_all[E5]
 |q::l,k::ks,j=>by
  have:=xR (hd:=hd) (ev:=ev) l ks<|j+1;simp only[E5,zan,zbw];lia
theorem G0{C:Bk}{hd:Nat->List (Key×D)}{ev:Nat->gU}:∀(l:List Pa) (ks:List Int) (j:Nat),E4 C (λi=>.dK<|hd i) j l ks=(E5 hd ev j l ks).map λs=>.tup [dX C s.1,.dK s.2.1,.int s.2.2.2]
 |[],ks,j=>by cases ks <;> rfl
 |q::l,[],j=>rfl
 |q::l,k::ks,j=>by rw[E4,E5,zan,G0 l ks<|j+1]
def yM(h:s∈sb C p d e k c):s.1∈kids p:=by
 obtain⟨i,hi⟩:=zc0 h;obtain⟨q,z,h1,h2,rfl⟩:=iS hi;exact zax h1
theorem tN:∀(l:List Sb) (i:Nat),(∀s∈l,LeT (psz s.1)<|nI<|qI C s)->LeT (l.map λs=>psz s.1).sum (i9<|((l.map<|qI C).take i).map nI)
 |[],i,_=>by simp only[zcM,List.take_nil,i9,List.sum_nil];exact .one
 |s::l,0,h=>by simp only[List.take_zero,zcM,i9];exact LeT.one.mono<|zaM _
 |s::l,i+1,h=>by
  simp only[zan,zcB,i9,zbw];exact(h s<|zar ..).mul<|tN l i λt q=>h t<|zaq _ q
def T6(B:OkB C)(p:Pa):(bP C p).length<=6:=by
 have z:=B.k6;have q:=B.ml;have u:∀nm n,(nL C nm n).length<=6:=λnm n=>by
  unfold nL;refine zaO (zdl ..) ?_;rw[zcV];exact q
 cases p <;> simp_all[bP] <;> first|exact u _ _|lia
def Z2(B:OkB C)(j k:Int):((bU C.rs k 8 j).length:Int)<=429981696:=Int.ofNat_le.mpr<|v4 B.gr 8 j
def VF(B:OkB C)(h:LeT m<|i9<|l.map nI):0<=nI (csum C own j k l)/\nI (csum C own j k l)<=TT m*429981696:=by
 rw[eW,GM];have e:i9 [((bU C.rs k 8 j).length:Int)]=((bU C.rs k 8 j).length:Int):=by simp_all[i9]
 rw[e];have a:=Z2 B j k;exact⟨zdg h.1<|by lia,Int.mul_le_mul h.2 a (by lia)<|HK m⟩
theorem OY{q:Type}{f:q->Int}{c:Int}:∀ {l:List q},(∀v∈l,f v<=c)->(l.map f).sum<=(l.length:Int)*c
 |[],_=>by simp_all
 |a::l,h=>by
  have h1:=h a<|zar ..;have h2:=OY (l:=l) λv z=>h v<|zaq _ z
  rw[zan,zbw,zaA,Int.natCast_succ,Int.add_mul];lia
def PK(m:Nat):TT (m+1)=TT m*10000000000:=by rw[N7];rfl
theorem nB{C:Bk}(B:OkB C):∀(n:Nat) (p:Pa),psz p<=n->∀(e:gU) (k:Int),LeT (psz p) (nI<|aU C p e k)
 |0,p,h,_,_=>by have:=eU p;lia
 |n+1,p,h,e,k=>by
  refine⟨cC C p e k,?_⟩;rw[<- xU C p [] e k,iN];have ks:=eU p;have G:=T6 B p;have q:∀c∈bP C p,nI (vC C p [] e k c)<=TT ((kids p).map psz).sum*429981696:=λc _=>by
   have a:=tN (C:=C) (sb C p [] e k c) (sb C p [] e k c).length λs hs=>nB B n s.1 (by have:=gS<|yM hs;lia) _ _
   rw[zb4<|by rw[zak];exact zaj _]at a;exact(VF B<|a.mono<|xR ..).2
  have:=OY q;rw[<- ks,PK];have z:=HK ((kids p).map psz).sum;generalize TT ((kids p).map psz).sum=T at *;have F:((bP C p).length:Int)*(T*429981696)<=6*(T*429981696):=zeV (by lia) (by lia);rw[show nI (cb:Sm)=0 from rfl];lia
def MR{C:Bk}(B:OkB C){own j k:Int}{l:List Sb}{m:Nat}(z:(l.map λs=>psz s.1).sum+1<=m)(q:m<=16)(i:Nat):LeT m (nI<|csum C own j k<|(l.map<|qI C).take i)/\Small (csum C own j k<|(l.map<|qI C).take i):=by
 have a:=VF B (own:=own) (j:=j) (k:=k)<|tN (C:=C) l i λs _=>nB B _ s.1 (zaj _) _ _;have b:LeT ((l.map λs=>psz s.1).sum+1)<|nI<|csum C own j k<|(l.map<|qI C).take i:=⟨a.1,by
  rw[PK];have F:=HK (l.map λs=>psz s.1).sum
  lia⟩
 exact⟨b.mono z,sX (b.mono z) q⟩
def PaOk(C:Bk)(U:List Str):Pa->Prop
 |.name x=>x∈U
 |.num _ j=>0<=j/\j<(C.kinds.length:Int)
 |.use1 _ p=>PaOk C U p
 |.use2 _ p q=>PaOk C U p/\PaOk C U q
 |.lett x p q=>x∈U/\PaOk C U p/\PaOk C U q
 |.pick c k p q r=>(0<=c/\c<(C.kinds.length:Int))/\(0<=k/\k<(C.kinds.length:Int))/\PaOk C U p/\PaOk C U q/\PaOk C U r
 |.again _ k x p q=>(0<=k/\k<(C.kinds.length:Int))/\x∈U/\PaOk C U p/\PaOk C U q
def P7{z:Type}{a q:z}{i:Nat}(h:[a][i]?=bx q):i=0/\q=a:=by
 cases i with
 |zero=>exact⟨rfl,by simpa using h.symm⟩
 |succ i=>simp[-zad,-zac,aA,aB]at h
def u9{z:Type}{a b q:z}{i:Nat}(h:[a,b][i]?=bx q):(i=0/\q=a)\/(i=1/\q=b):=by
 cases i with
 |zero=>exact .inl ⟨rfl,by simpa using h.symm⟩
 |succ i=>have:=P7 (a:=b) (q:=q) (i:=i) (by simpa using h);exact .inr ⟨by lia,this.2⟩
def get3{F:Type}{a b c q:F}{i:Nat}(h:[a,b,c][i]?=bx q):(i=0/\q=a)\/(i=1/\q=b)\/(i=2/\q=c):=by
 cases i with
 |zero=>exact .inl ⟨rfl,by simpa using h.symm⟩
 |succ i=>
  rcases u9 (a:=b) (b:=c) (q:=q) (i:=i) (by simpa using h)with z|z
  .exact .inr<|.inl ⟨by lia,z.2⟩
  .exact .inr<|.inr ⟨by lia,z.2⟩
def qA{p q:Pa}{i:Nat}{x:Str}(z:(kids p)[i]?=bx q)(hx:x∈aP q)(F:bx x≠hid p i):x∈aP p:=by
 cases p with
 |name y=>simp[-zad,-zac,aA,aB,kids]at z
 |num n j=>simp[-zad,-zac,aA,aB,kids]at z
 |use1 nm p=>obtain⟨rfl,rfl⟩:=P7 z;simp only[aP,a9];exact .inr ⟨hx,by simp_all⟩
 |use2 nm p q=>
  simp only[aP,a9];rcases u9 z with⟨rfl,rfl⟩|⟨rfl,rfl⟩
  .exact .inl<|.inr ⟨hx,by simp_all⟩
  .exact .inr ⟨hx,by simp_all⟩
 |lett y p q=>
  simp only[aP,a9];rcases u9 z with⟨rfl,rfl⟩|⟨rfl,rfl⟩
  .exact .inl<|.inr ⟨hx,by simp_all⟩
  .exact .inr ⟨hx,F⟩
 |pick c k p q r=>
  simp only[aP,a9];rcases get3 z with⟨rfl,rfl⟩|⟨rfl,rfl⟩|⟨rfl,rfl⟩
  .exact .inl<|.inl<|.inr ⟨hx,by simp_all⟩
  .exact .inl<|.inr ⟨hx,by simp_all⟩
  .exact .inr ⟨hx,by simp_all⟩
 |again n k y p q=>
  simp only[aP,a9];rcases u9 z with⟨rfl,rfl⟩|⟨rfl,rfl⟩
  .exact .inl<|.inr ⟨hx,by simp_all⟩
  .exact .inr ⟨hx,F⟩
def PaOk.kid(h:PaOk C U p)(z:q∈kids p):PaOk C U q:=by
 cases p with
 |name y=>cases z
 |num n j=>cases z
 |use1 nm p=>rw[List.mem_singleton.mp z];exact h
 |use2 nm p q=>simp[-zad,-zac,aA,aB,kids]at z;rcases z with rfl|rfl;exact h.1;exact h.2
 |lett y p q=>simp[-zad,-zac,aA,aB,kids]at z;rcases z with rfl|rfl;exact h.2.1;exact h.2.2
 |pick c k p q r=>simp[-zad,-zac,aA,aB,kids]at z;rcases z with rfl|rfl|rfl;exact h.2.2.1;exact h.2.2.2.1;exact h.2.2.2.2
 |again n k y p q=>simp[-zad,-zac,aA,aB,kids]at z;rcases z with rfl|rfl;exact h.2.2.1;exact h.2.2.2
theorem PaOk.nms:∀ {p:Pa},PaOk C U p->∀x∈aP p,x∈U
 |.name y,h,x,hx=>by rw[List.mem_singleton.mp hx];exact h
 |.num _ _,h,x,hx=>by cases hx
 |.use1 _ p,h,x,hx=>by
  simp[-zad,-zac,aA,aB,aP,a9]at hx;exact PaOk.nms (p:=p) h x hx
 |.use2 _ p q,h,x,hx=>by
  simp[-zad,-zac,aA,aB,aP,a9]at hx;rcases hx with z|z
  .exact PaOk.nms h.1 x z
  .exact PaOk.nms h.2 x z
 |.lett _ p q,h,x,hx=>by
  simp[-zad,-zac,aA,aB,aP,a9]at hx;rcases hx with z|z
  .exact PaOk.nms h.2.1 x z
  .exact PaOk.nms h.2.2 x z.1
 |.pick _ _ p q r,h,x,hx=>by
  simp[-zad,-zac,aA,aB,aP,a9]at hx;rcases hx with(z|z)|z
  .exact PaOk.nms h.2.2.1 x z
  .exact PaOk.nms h.2.2.2.1 x z
  .exact PaOk.nms h.2.2.2.2 x z
 |.again _ _ _ p q,h,x,hx=>by
  simp[-zad,-zac,aA,aB,aP,a9]at hx;rcases hx with z|z
  .exact PaOk.nms h.2.2.1 x z
  .exact PaOk.nms h.2.2.2 x z.1
def cR(z:a.Nodup)(F:l.Nodup):(fF h a l).Nodup:=by
 unfold fF;refine List.nodup_append.mpr ⟨z,F.filter _,λx hx y q e=>?_⟩;have:=(List.mem_filter.mp q).2;subst e;simp[-zad,-zac,aA,aB,hx]at this
theorem cY:∀p:Pa,(aP p).Nodup
 |.name y=>by simp_all[aP]
 |.num _ _=>by simp_all[aP]
 |.use1 _ p=>cR .nil<|cY p
 |.use2 _ p q=>cR (cR .nil<|cY p)<|cY q
 |.lett _ p q=>cR (cR .nil<|cY p)<|cY q
 |.pick _ _ p q r=>cR (cR (cR .nil<|cY p)<|cY q)<|cY r
 |.again _ _ _ p q=>cR (cR .nil<|cY p)<|cY q
def PaOk.n8(h:PaOk C U p)(q:U.length<=8):(aP p).length<=8:=zaO (rZ (cY p) h.nms) q
def fO(h:c∈(nL C nm n).map λ(v:Nat)=>D.int (v:Int)):∃(v:Nat) (m:Mk),c=.int (v:Int)/\C.makes[v]?=bx m/\m.nm=nm/\m.takes.length=n:=by
 obtain⟨v,q,rfl⟩:=List.mem_map.mp h;have:=(List.mem_filter.mp q).2;cases e:C.makes[v]? with
 |none=>rw[e]at this;cases this
 |some m=>
  rw[e]at this;simp[-zad,-zac,aA,aB]at this;exact⟨v,m,rfl,e,this.1,this.2⟩
def uC{C:Bk}(h:c∈(zas C.kinds.length).map λ(v:Nat)=>D.int (v:Int)):∃v:Nat,c=.int (v:Int)/\v<C.kinds.length:=by
 obtain⟨v,q,rfl⟩:=List.mem_map.mp h;exact⟨v,rfl,List.mem_range.mp q⟩
def dB(v:Nat):(cI<|.int (v:Int)).toNat=v:=zbG v
structure PI'(C:Bk)(U:List Str)(p:Pa)(d:List<|Key×D)(e:gU)(k:Int):Prop where
 ok:PaOk C U p
 k0:0<=k
 k1:k<(C.kinds.length:Int)
 hd:∀x∈aP p,e8 d (.inr x:Key)=bx (.int<|e x)
 he:∀x∈aP p,0<=e x/\e x<(C.kinds.length:Int)
 dl:d.length+psz p<=1000
def EG(h:C.makes[v]?=bx m)(l:m.takes.length=1):m.takes=[aT C v 0]:=by
 rw[eT h];obtain⟨a,e⟩:∃a,m.takes=[a]:=List.length_eq_one_iff.mp l;rw[e];rfl
def D0(h:C.makes[v]?=bx m)(l:m.takes.length=2):m.takes=[aT C v 0,aT C v 1]:=by
 rw[eT h,eT h]
 match e:m.takes,l with
 |[a,b],_=>rfl
def HI(B:OkB C)(h:PaOk C U p)(k0:0<=k)(k1:k<(C.kinds.length:Int))(J:c∈bP C p):(CB C p k c).length=(kids p).length/\∀j∈CB C p k c,0<=j/\j<(C.kinds.length:Int):=by
 cases p with
 |name y=>exact⟨rfl,λ_ h=>nomatch h⟩
 |num n j=>exact⟨rfl,λ_ h=>nomatch h⟩
 |use1 nm p=>
  obtain⟨v,m,rfl,F,_,G⟩:=fO J;refine⟨rfl,?_⟩;have t:=EG F G;simp only[CB,dB];rw[<- t];exact B.tb m<|zax F
 |use2 nm p q=>
  obtain⟨v,m,rfl,F,_,G⟩:=fO J;refine⟨rfl,?_⟩;have t:=D0 F G;simp only[CB,dB];rw[<- t];exact B.tb m<|zax F
 |lett y p q=>
  obtain⟨v,rfl,N⟩:=uC J;refine⟨rfl,λj z=>?_⟩;simp[-zad,-zac,aA,aB,CB,cI]at z
  lia
 |pick c' k' p q r=>
  refine⟨rfl,λj z=>?_⟩;simp[-zad,-zac,aA,aB,CB]at z;rcases z with rfl|rfl
  .exact h.1
  .exact h.2.1
 |again n k' y p q=>
  refine⟨rfl,λj z=>?_⟩;simp[-zad,-zac,aA,aB,CB]at z;rw[z];exact h.1
def XE(h:PaOk C U p)(z:c∈bP C p)(q:hid p i=bx x):0<=EY p c/\EY p c<(C.kinds.length:Int):=by
 unfold hid at q;split at q
 .obtain⟨v,rfl,F⟩:=uC z
  simp only[EY,cI];lia
 .exact h.1
 .cases q
theorem PI'.kid(B:OkB C)(h:PI' C U p d e k)(W:c∈bP C p)(J:(kids p)[i]?=bx q)(hk:(CB C p k c)[i]?=bx kk):PI' C U q (LB p d c i) (QN p e c i) kk:=by
 have N:=zax J;have sz:=gS N;have G:=(HI B h.ok h.k0 h.k1 W).2 kk<|zax hk;have dl:=h.dl;unfold LB QN;cases e1:hid p i with
 |none=>
  have F:∀x∈aP q,x∈aP p:=λx hx=>qA J hx<|by rw[e1];simp_all
  exact⟨h.ok.kid N,G.1,G.2,λx hx=>h.hd x<|F x hx,λx hx=>h.he x<|F x hx,by simp only;lia⟩
 |some y=>
  have F:∀x∈aP q,¬ x=y->x∈aP p:=λx hx n=>qA J hx<|by rw[e1];intro z;injection z with z;exact n z
  have Y:=XE h.ok W e1;refine⟨h.ok.kid N,G.1,G.2,λx hx=>?_,λx hx=>?_,?_⟩
  .simp only[pX,eZ]
   by_cases z:x=y
   .rw[ck (by rw[z]),ck z]
   .rw[cq (λw=>z<|by injection w),cq z];exact h.hd x<|F x hx z
  .simp only[eZ]
   by_cases z:x=y
   .rw[ck z];exact Y
   .rw[cq z];exact h.he x<|F x hx z
  .have:=tQ (d:=d) (k:=.inr y) (e:=.int<|EY p c)
   simp only;lia
def Q9(q:d.length<=1000)(z:c∈bP C p)(i:Nat):dE [.dK d,bJ p,.int (i:Int),c]=bx (.dK<|LB p d c i):=by
 have w:=BN p i;cases e1:hid p i with
 |none=>
  rw[e1]at w;rw[DG w];unfold LB;rw[e1]
 |some y=>
  unfold LB;rw[e1];unfold hid at e1;split at e1
  .cases e1
   obtain⟨v,rfl,F⟩:=uC z;exact KO q
  .cases e1
   exact zL q
  .cases e1
def V6(h:PI' C U p d e k)(F:c∈bP C p):bM [a7 C,.dK d,bJ p,.int k,c]=bx (.int<|dU C p e k c):=by
 cases p with
 |name x=>exact DH<|h.hd x<|List.mem_singleton.mpr rfl
 |num n j=>exact KH
 |use1 nm p=>
  obtain⟨v,m,rfl,z,_,_⟩:=fO F;rw[C2 z];simp only[dU,dB,d8 z]
 |use2 nm p q=>
  obtain⟨v,m,rfl,z,_,_⟩:=fO F;rw[DT z];simp only[dU,dB,d8 z]
 |lett y p q=>exact J3
 |pick c' k' p q r=>exact CJ
 |again n k' y p q=>exact zM
def qcl(G:c∈bP C p):bR [a7 C,bJ p,.int k,c]=bx (tupI<|CB C p k c):=by
 cases p with
 |name x=>exact JW
 |num n j=>exact L7
 |use1 nm p=>
  obtain⟨v,m,rfl,z,_,F⟩:=fO G;rw[J2 z,EG z F];simp only[CB,dB]
 |use2 nm p q=>
  obtain⟨v,m,rfl,z,_,F⟩:=fO G;rw[JI z,D0 z F];simp only[CB,dB]
 |lett y p q=>
  obtain⟨v,rfl,J⟩:=uC G;exact MM
 |pick c' k' p q r=>exact KB
 |again n k' y p q=>exact CM
def D2(B:OkB C)(h:PI' C U p d e k)(F:c∈bP C p):0<=dU C p e k c/\dU C p e k c<(C.kinds.length:Int):=by
 cases p with
 |name x=>exact h.he x<|List.mem_singleton.mpr rfl
 |num n j=>exact h.ok
 |use1 nm p=>
  obtain⟨v,m,rfl,z,_,_⟩:=fO F;simp only[dU,dB,d8 z];exact B.gb m<|zax z
 |use2 nm p q=>
  obtain⟨v,m,rfl,z,_,_⟩:=fO F;simp only[dU,dB,d8 z];exact B.gb m<|zax z
 |lett y p q=>exact⟨h.k0,h.k1⟩
 |pick c' k' p q r=>exact h.ok.2.1
 |again n k' y p q=>exact h.ok.1
def AtD(C:Bk)(at_:D):Prop:=∃q L2,at_=.ob CA [("book",a7 C),("routes",.dT q),("spans",.dT L2)]/\KU C (λj k=>(0<=j/\j<(C.kinds.length:Int))/\0<=k/\k<(C.kinds.length:Int)) (q,L2)
def AtD.book{C:Bk}{at_:D}(h:AtD C at_):zB CA "book" at_=bx (a7 C):=by
 obtain⟨q,L2,rfl,_⟩:=h;rfl
def VE{C:Bk}(B:OkB C){U:List Str}{at_:D}(A:AtD C at_){p:Pa}{d:List (Key×D)}{e:gU}{k:Int}{c:D}(h:PI' C U p d e k)(q:c∈bP C p):kH [at_,dX C p,.dK d,.int k,c]=bx (.lst<|(sb C p d e k c).map λs=>.tup [dX C s.1,.dK s.2.1,.int s.2.2.2]):=by
 have z:=h.dl;rw[T9 (hd:=λi=>.dK<|LB p d c i) A.book (qcl q) (by rw[(HI B h.ok h.k0 h.k1 q).1];exact zaj _) λi _=>Q9 (by lia) q i];rw[G0 (ev:=QN p e c)];rfl
def X2(F:c∈bP C p):VX C p c<|QE C p c:=by
 cases p with
 |name x=>exact .inr ⟨tZ,rfl⟩
 |num n j=>exact .inr ⟨nY,rfl⟩
 |use1 nm p=>
  obtain⟨v,m,rfl,z,_,_⟩:=fO F;exact .inl ⟨rfl,v,m,rfl,z,by simp only[QE,dB,mpr,z];rfl⟩
 |use2 nm p q=>
  obtain⟨v,m,rfl,z,_,_⟩:=fO F;exact .inl ⟨rfl,v,m,rfl,z,by simp only[QE,dB,mpr,z];rfl⟩
 |lett y p q=>exact .inr ⟨oB,rfl⟩
 |pick c' k' p q r=>exact .inr ⟨nZ,rfl⟩
 |again n k' y p q=>exact .inr ⟨oA,rfl⟩
def Y0:((sb C p d e k c).map λs=>psz s.1).sum+1<=psz p:=by
 have a:=xR (hd:=LB p d c) (ev:=QN p e c) (kids p) (CB C p k c) 0;have b:=eU p;unfold sb;lia
def DZ{C:Bk}(B:OkB C){U:List Str}{at_:D}(A:AtD C at_){p:Pa}{d:List (Key×D)}{e:gU}{k:Int}{c:D}{R:List D->Option D}(h:PI' C U p d e k)(z:c∈bP C p)(sz:psz p<=16)(J:∀s∈sb C p d e k c,PI' C U s.1 s.2.1 s.2.2.1 s.2.2.2->psz s.1<psz p->R [at_,dX C s.1,.dK s.2.1,.int s.2.2.2]=bx (memD<|qI C s)) :
  bE 10 (cG R) [at_,dX C p,.dK d,.int k,c]=bx (memD<|vC C p d e k c):=by
 have W:=D2 B h z;have hs:=VE B A h z;have bk:=A.book;have ss:=Y0 (C:=C) (p:=p) (d:=d) (e:=e) (k:=k) (c:=c);obtain⟨L1,L2,rfl,ok⟩:=A;have G:∀s∈sb C p d e k c,PI' C U s.1 s.2.1 s.2.2.1 s.2.2.2/\psz s.1<psz p:=λs hs=>by
  obtain⟨i,hi⟩:=zc0 hs;have N:=gS<|yM hs;obtain⟨q,Y,h1,h2,rfl⟩:=iS hi;rw[zaU];exact⟨h.kid B z h1 h2,N⟩
 have:=xD (C:=C) (p:=p) (d:=d) (k:=k) (j:=dU C p e k c) (own:=QE C p c) (c:=c) (R:=R) (L2:=L2) (Rs:=(sb C p d e k c).map λs=>(dX C s.1,.dK s.2.1,.int s.2.2.2,qI C s)) bk rfl (ok _ _ ⟨W,h.k0,h.k1⟩).2 (X2 z) (V6 h z) (by rw[hs,zav];rfl)
  (λr F => by
   obtain⟨s,hs,rfl⟩:=List.mem_map.mp F;exact J s hs (G s hs).1 (G s hs).2) (sX (m:=1) ⟨by rw[EN];lia,by rw[EN];exact zd9 (Z2 B _ _)<|by decide⟩<|by decide) (λr F=>by
   obtain⟨s,hs,rfl⟩:=List.mem_map.mp F;exact sX (nB B _ s.1 (zaj _) _ _)<|by have:=(G s hs).2;lia) λi=>by
   rw[zav];exact(MR B ss sz i).2
 rw[this,zav];rfl
theorem BV{C:Bk}(B:OkB C){U:List Str}(q:U.length<=8){at_:D}(A:AtD C at_):∀(n:Nat) (p:Pa) (d:List<|Key×D) (e:gU) (k:Int),psz p<=n->psz p<=16->PI' C U p d e k->i6 7 g8 n [at_,dX C p,.dK d,.int k]=bx (memD<|aU C p e k)
 |0,p,d,e,k,h,_,_=>by have:=eU p;lia
 |n+1,p,d,e,k,h,h16,I=>by
  show bE 7 (g8<|i6 7 g8 n) _=_;exact DU B A.book ⟨I.k0,I.k1⟩ I.hd I.he (I.ok.n8 q) (f:=vC C p d e k) (λc F=>DZ B A I F h16 λs _ z G=>BV B q A n s.1 s.2.1 s.2.2.1 s.2.2.2 (by lia) (by lia) z)<|xU C p d e k
def dS:Rg->List Rg
 |.use1 _ _ p _=>[p]
 |.use2 _ _ p q _=>[p,q]
 |.lett _ _ p q=>[p,q]
 |.pick _ _ p q r _=>[p,q,r]
 |.again _ _ _ p q _=>[p,q]
 |_=>[]
def yE(g:Rg):kids (pa g)=(dS g).map pa:=by cases g <;> rfl
def RW(g:Rg):ir g=(dS g).map rd:=by cases g <;> rfl
def G4(h:q∈dS g):size q<size g:=by
 rw[<- cT,<- cT];exact gS<|by rw[yE];exact List.mem_map.mpr ⟨q,h,rfl⟩
def K2(l:List D)(c:D)(f:D->Sm):Int:=((l.filter λu=>decide (cI u<cI c)).map λu=>nI<|f u).sum
def uU(C:Bk):List Rg->List Sb->List (Int×Int)
 |g::l,s::m=>(cU C g s.2.2.1 s.2.2.2,nI<|qI C s)::uU C l m
 |_,_=>[]
def yI(l:List Nat)(v:Nat)(q:j.toNat=v)(f:D->Sm):K2 (l.map λ(v:Nat)=>D.int (v:Int)) (.int j) f=vA l v λu=>f<|.int (u:Int):=by
 unfold K2 vA;rw[List.filter_map,zav];have:((λu=>decide (cI u<cI (.int j))) ∘ λ(v:Nat)=>D.int (v:Int))=λu:Nat=>decide (u<v):=by
  funext u;show decide ((u:Int)<j)=decide (u<v);congr 1;exact propext ⟨λh=>by lia,λh=>by lia⟩
 rw[this];rfl
def qH(f:D->Sm):K2 [.non] .non f=0:=rfl
def HA(C:Bk)(g:Rg)(d:List<|Key×D)(e:gU)(k:Int):cU C g e k=K2 (bP C<|pa g) (ch g) (vC C (pa g) d e k)+cW 0 (uU C (dS g) (sb C (pa g) d e k<|ch g)++[j9 C (dU C (pa g) e k<|ch g) k<|wy g]):=by
 cases g with
 |name x j w=>simp only[bP,pa,ch,qH,zbx];rfl
 |num n j w=>simp only[bP,pa,ch,qH,zbx];rfl
 |use1 v nm p w=>simp only[bP,pa,ch,yI _ v<|zbG v];rfl
 |use2 v nm p q w=>simp only[bP,pa,ch,yI _ v<|zbG v];rfl
 |lett x j p q=>simp only[bP,pa,ch,yI _ j.toNat rfl];rfl
 |pick c k' p q r w=>simp only[bP,pa,ch,qH,zbx];rfl
 |again n k' x p q w=>simp only[bP,pa,ch,qH,zbx];rfl
structure WI(C:Bk)(U:List Str)(kn:List<|Str×Int)(g:Rg)(d:List<|Key×D)(e:gU)(k:Int):Prop where
 wf:WF C kn g k
 nf:NF U (kn.map (·.1)) g
 ok:OkN C kn
 ec:EC e kn
 cd:Cons d kn
 un:∀p∈kn,p.1∈U
 dl:d.length+size g<=1000
def qbU(B:OkB C):∀ {kn:List (Str×Int)} {N:List Str} {k:Int},WF C kn g k->NF U N g->OkN C kn->(∀p∈kn,p.1∈U)->PaOk C U (pa g):=by
 have up:∀ {x:Str} {j:Int} {kn:List (Str×Int)},x∈U->(∀p∈kn,p.1∈U)->∀p∈(x,j)::kn,p.1∈U:=λhx G p hp=>by
  rcases List.mem_cons.mp hp with z|z
  .rw[z];exact hx
  .exact G p z
 induction g with
 |name x j w=>exact λW _ _ G=>G _ W.1
 |num n j w=>exact λW _ _ _=>W.2.1
 |use1 v nm p w ih=>rintro _ _ _ ⟨m,t,a,b,c,d,f⟩ F K G;exact ih d F K G
 |use2 v nm p q w ih ih2=>rintro _ _ _ ⟨m,t,u,a,b,c,d,d2,f⟩ F K G;exact⟨ih d F.1 K G,ih2 d2 F.2 K G⟩
 |lett x j p q ih ih2=>exact λW F K G=>⟨F.2.1.2,ih W.1 F.1 K G,ih2 W.2 F.2.2 (K.cons (W.1.short B K).2.1 (W.1.short B K).2.2)<|up F.2.1.2 G⟩
 |pick c k' p q r w ih ih2 ih3=>rintro _ _ _ ⟨a,b,J,Y,c3,d⟩ F K G;exact⟨a,b,ih J F.1 K G,ih2 Y F.2.1 K G,ih3 c3 F.2.2 K G⟩
 |again n k' x p q w ih ih2=>rintro _ _ _ ⟨a,b,J,Y,d⟩ F K G;exact⟨b,F.2.1.2,ih J F.1 K G,ih2 Y F.2.2 (K.cons b.1 b.2)<|up F.2.1.2 G⟩
def D3:∀ {kn:List (Str×Int)} {k:Int},WF C kn g k->∀x∈aP (pa g),∃j,(x,j)∈kn:=by
 have cut:∀ {x y:Str} {j:Int} {kn:List (Str×Int)},(∃i,(y,i)∈(x,j)::kn)->¬ y=x->∃i,(y,i)∈kn:=λh z=>by
  obtain⟨i,hi⟩:=h;rcases List.mem_cons.mp hi with w|w
  .injection w with w1 w2;exact absurd w1 z
  .exact⟨i,w⟩
 induction g with
 |name x j w=>exact λW y F=>⟨j,by rw[List.mem_singleton.mp F];exact W.1⟩
 |num n j w=>exact λ_ y F=>nomatch F
 |use1 v nm p w ih=>
  rintro _ _ ⟨m,t,a,b,c,d,f⟩ y F;simp[-zad,-zac,aA,aB,pa,aP,a9]at F;exact ih d y F
 |use2 v nm p q w ih ih2=>
  rintro _ _ ⟨m,t,u,a,b,c,d,N,f⟩ y F;simp[-zad,-zac,aA,aB,pa,aP,a9]at F;exact F.elim (ih d y)<|ih2 N y
 |lett x j p q ih ih2=>
  rintro _ _ ⟨a,b⟩ y F;simp[-zad,-zac,aA,aB,pa,aP,a9]at F;exact F.elim (ih a y) λz=>cut (ih2 b y z.1) z.2
 |pick c k' p q r w ih ih2 ih3=>
  rintro _ _ ⟨a,b,G,J,U,d⟩ y F;simp[-zad,-zac,aA,aB,pa,aP,a9]at F;exact F.elim (λz=>z.elim (ih G y)<|ih2 J y)<|ih3 U y
 |again n k' x p q w ih ih2=>
  rintro _ _ ⟨a,b,G,J,d⟩ y F;simp[-zad,-zac,aA,aB,pa,aP,a9]at F;exact F.elim (ih G y) λz=>cut (ih2 J y z.1) z.2
def WI.pi(B:OkB C)(h:WI C U kn g d e k):PI' C U (pa g) d e k:=by
 have s:=WF.short B h.ok h.wf;refine⟨qbU B h.wf h.nf h.ok h.un,s.2.1,s.2.2,λx hx=>?_,λx hx=>?_,by rw[cT];exact h.dl⟩
 .obtain⟨j,q⟩:=D3 h.wf x hx
  rw[show e x=j from h.ec _ q];exact h.cd _ q
 .obtain⟨j,q⟩:=D3 h.wf x hx
  rw[show e x=j from h.ec _ q];exact h.ok _ q
def yN(B:OkB C)(K:OkN C kn)(W:WF C kn g k):ch g∈bP C (pa g):=by
 cases g with
 |name x j w=>exact List.mem_singleton.mpr rfl
 |num n j w=>exact List.mem_singleton.mpr rfl
 |use1 v nm p w=>
  obtain⟨m,t,a,rfl,c,d,f⟩:=W;exact List.mem_map.mpr ⟨v,mX a (by rw[c];rfl),rfl⟩
 |use2 v nm p q w=>
  obtain⟨m,t,u,a,rfl,c,d,f⟩:=W;exact List.mem_map.mpr ⟨v,mX a (by rw[c];rfl),rfl⟩
 |lett x j p q=>
  have s:=WF.short B K W.1;refine List.mem_map.mpr ⟨j.toNat,List.mem_range.mpr<|by lia,?_⟩;show D.int ((j.toNat:Nat):Int)=.int j;congr 1;lia
 |pick c k' p q r w=>exact List.mem_singleton.mpr rfl
 |again n k' x p q w=>exact List.mem_singleton.mpr rfl
def OK(E:EC e kn)(W:WF C kn g k):gw C.rs (dU C (pa g) e k<|ch g) (wy g)=bx k:=by
 cases g with
 |name x j w=>show gw C.rs (e x) w=_;rw[E _ W.1];exact W.2
 |num n j w=>exact W.2.2
 |use1 v nm p w=>
  obtain⟨m,t,a,rfl,c,d,f⟩:=W;simp only[pa,ch,dU,dB,d8 a];exact f
 |use2 v nm p q w=>
  obtain⟨m,t,u,a,rfl,c,d,z,f⟩:=W;simp only[pa,ch,dU,dB,d8 a];exact f
 |lett x j p q=>rfl
 |pick c k' p q r w=>exact W.2.2.2.2.2
 |again n k' x p q w=>exact W.2.2.2.2
def WI.kid(B:OkB C)(h:WI C U kn g d e k)(hq:(dS g)[i]?=bx q)(N:(CB C (pa g) k<|ch g)[i]?=bx G):∃ad,WI C U ad q (LB (pa g) d (ch g) i) (QN (pa g) e (ch g) i) G:=by
 have sz:=G4<|zax hq;obtain⟨W,F,K,E,Y,un,dl⟩:=h;have put:∀ {x:Str} {j:Int} {q:Rg} {G:Int},size q<size g->WF C ((x,j)::kn) q G->0<=j/\j<(C.kinds.length:Int)->x∉kn.map (·.1)/\x∈U->NF U (x::kn.map (·.1)) q->WI C U ((x,j)::kn) q (putD d (.inr x)<|.int j) (eZ e x j) G:=λ{x j q G} sz w hj hx f=>⟨w,f,K.cons hj.1 hj.2,E.put hx.1,Y.put hx.1,λp hp=>by
   rcases List.mem_cons.mp hp with z|z
   .rw[z];exact hx.2
   .exact un p z,by have:=tQ (d:=d) (k:=.inr x) (e:=.int j);lia⟩
 cases g with
 |name x j w=>simp[-zad,-zac,aA,aB,dS]at hq
 |num n j w=>simp[-zad,-zac,aA,aB,dS]at hq
 |use1 v nm p w=>
  obtain⟨m,t,a,rfl,c,wp,f⟩:=W;obtain⟨rfl,rfl⟩:=P7 hq;have J:G=aT C (cI<|.int (v:Int)).toNat 0:=(P7 N).2;rw[dB,eT a,c]at J;subst J;exact⟨kn,wp,F,K,E,Y,un,by show d.length+_<=_;lia⟩
 |use2 v nm p q w=>
  obtain⟨m,t,u,a,rfl,c,wp,wq,f⟩:=W;rcases u9 hq with⟨rfl,rfl⟩|⟨rfl,rfl⟩
  .have J:G=aT C (cI<|.int (v:Int)).toNat 0:=(zay<|show bx (aT C (cI<|.int (v:Int)).toNat 0)=bx G from N).symm
   rw[dB,eT a,c]at J;subst J;exact⟨kn,wp,F.1,K,E,Y,un,by show d.length+_<=_;lia⟩
  .have J:G=aT C (cI<|.int (v:Int)).toNat 1:=(zay<|show bx (aT C (cI<|.int (v:Int)).toNat 1)=bx G from N).symm
   rw[dB,eT a,c]at J;subst J;exact⟨kn,wq,F.2,K,E,Y,un,by show d.length+_<=_;lia⟩
 |lett x j p q=>
  have s:=WF.short B K W.1;rcases u9 hq with⟨rfl,rfl⟩|⟨rfl,rfl⟩
  .have J:G=j:=(zay<|show bx (j)=bx G from N).symm
   subst J;exact⟨kn,W.1,F.1,K,E,Y,un,by show d.length+_<=_;lia⟩
  .have J:G=k:=(zay<|show bx (k)=bx G from N).symm
   subst J;exact⟨_,put sz W.2 s.2 F.2.1 F.2.2⟩
 |pick c k' p q r w=>
  obtain⟨a,b,wp,wq,wr,f⟩:=W;rcases get3 hq with⟨rfl,rfl⟩|⟨rfl,rfl⟩|⟨rfl,rfl⟩
  .have J:G=c:=(zay<|show bx (c)=bx G from N).symm
   subst J;exact⟨kn,wp,F.1,K,E,Y,un,by show d.length+_<=_;lia⟩
  .have J:G=k':=(zay<|show bx (k')=bx G from N).symm
   subst J;exact⟨kn,wq,F.2.1,K,E,Y,un,by show d.length+_<=_;lia⟩
  .have J:G=k':=(zay<|show bx (k')=bx G from N).symm
   subst J;exact⟨kn,wr,F.2.2,K,E,Y,un,by show d.length+_<=_;lia⟩
 |again n k' x p q w=>
  obtain⟨a,b,wp,wq,f⟩:=W;rcases u9 hq with⟨rfl,rfl⟩|⟨rfl,rfl⟩
  .have J:G=k':=(zay<|show bx (k')=bx G from N).symm
   subst J;exact⟨kn,wp,F.1,K,E,Y,un,by show d.length+_<=_;lia⟩
  .have J:G=k':=(zay<|show bx (k')=bx G from N).symm
   subst J;exact⟨_,put sz wq b F.2.1 F.2.2⟩
theorem G3:∀ {items:List D} {ρ:cA} (t:Nat) (I:Nat->cA->Prop),I 0 ρ->t<items.length->(∀i x ρ,i<t->items[i]?=bx x->I i ρ->∃ρ',turn g b x ρ=bx (.nx ρ')/\I (i+1) ρ')->(∀x ρ,items[t]?=bx x->I t ρ->turn g b x ρ=bx (.rt d))->kA g b items ρ=bx (.rt d)
 |[],ρ,t,I,_,h,_,_=>by simp[-zad,-zac,aA,aB]at h
 |x::l,ρ,0,I,h0,_,_,h2=>by
  have z:=h2 x ρ rfl h0;unfold turn at z;obtain⟨q,J,N⟩:=bind_some z;unfold kA;rw[J];show(b q).bind _=_;rw[N];rfl
 |x::l,ρ,t+1,I,h0,hl,h1,h2=>by
  obtain⟨ρ',z,F⟩:=h1 0 x ρ (by lia) rfl h0;have ih:=G3 (items:=l) (ρ:=ρ') t (λi=>I<|i+1) F (by simpa using hl) (λi y ρ hi G F=>h1 (i+1) y ρ (by lia) (by simpa using G) F) λy ρ G F=>h2 y ρ (by simpa using G) F
  unfold turn at z;obtain⟨q,J,N⟩:=bind_some z;unfold kA;rw[J];show(b q).bind _=_;rw[N];exact ih
theorem vW:∀ {l:List D} {t:Nat} {c:D},l.Pairwise (λa b=>cI a<cI b)->l[t]?=bx c->l.filter (λu=>decide (cI u<cI c))=l.take t
 |[],t,c,_,h=>by simp[-zad,-zac,aA,aB]at h
 |a::l,0,c,hl,h=>by
  have:a=c:=by simpa using h
  subst this;rw[List.take_zero,List.filter_eq_nil_iff];intro u F;rcases List.mem_cons.mp F with z|z
  .rw[z];simp_all
  .have:=(List.pairwise_cons.mp hl).1 u z;simp_all;lia
 |a::l,t+1,c,hl,h=>by
  have q:l[t]?=bx c:=by simpa using h
  have:=(List.pairwise_cons.mp hl).1 c<|zax q;rw[zcO,ck (by simpa using this),zcB,vW (List.pairwise_cons.mp hl).2 q]
def jG{l:List Nat}(h:l.Pairwise (·<·)):(l.map λ(v:Nat)=>D.int (v:Int)).Pairwise λa b=>cI a<cI b:=by
 rw[zeH];exact h.imp λ{a b} h=>by show(a:Int)<(b:Int);lia
def CY(C:Bk)(p:Pa):(bP C p).Pairwise λa b=>cI a<cI b:=by
 cases p with
 |use1 nm p=>exact jG<|gD ..
 |use2 nm p q=>exact jG<|gD ..
 |lett x p q=>exact jG<|iA _
 |_=>exact List.pairwise_singleton ..
def b6(l:List D)(f:D->Sm)(i:Nat):Int:=((l.take i).map λu=>nI<|f u).sum
def mR(h:l[i]?=bx c):b6 l f (i+1)=b6 l f i+nI (f c):=by
 unfold b6;rw[zdo,h,zaR,List.sum_append];simp_all
theorem sN(q:∀c,0<=nI (f c)):∀ {j:Nat},i<=j->b6 l f i<=b6 l f j
 |0,h=>by rw[show i=0 by lia];exact zdp _
 |j+1,h=>by
  by_cases e:i=j+1
  .rw[e];exact zdp _
  .have ih:=sN q (l:=l) (i:=i) (j:=j) (by lia)
   cases hc:l[j]? with
   |some c=>have:=mR (f:=f) hc;have:=q c;lia
   |none=>
    have:l.length<=j:=List.getElem?_eq_none_iff.mp hc;have e:b6 l f (j+1)=b6 l f j:=by unfold b6;rw[zb4<|by lia,zb4 this]
    lia
def EA(C:Bk)(p:Pa)(d:List<|Key×D)(e:gU)(k:Int)(c:D):0<=nI (vC C p d e k c):=eV _ _ _ _ λx hx=>by
 rw[zav]at hx;obtain⟨s,_,rfl⟩:=List.mem_map.mp hx;exact cC ..
def HF(h:(bP C p)[t]?=bx c):K2 (bP C p) c f=b6 (bP C p) f t:=by
 unfold K2 b6;rw[vW (CY C p) h]
def GY(C:Bk)(p:Pa)(d:List<|Key×D)(e:gU)(k:Int):b6 (bP C p) (vC C p d e k) (bP C p).length=nI (aU C p e k):=by
 rw[<- xU C p d e k,iN];unfold b6;rw[zb3];simp_all[nI]
def WI.num(B:OkB C)(h:WI C U kn g d e k):0<=cU C g e k/\cU C g e k<nI (aU C (pa g) e k):=fW B h.ok h.wf h.nf h.ec
theorem GA:∀ {gs:List Rg} {m:List Sb} {i:Nat} {x:Int×Int},(uU C gs m)[i]?=bx x->∃g s,gs[i]?=bx g/\m[i]?=bx s/\x=(cU C g s.2.2.1 s.2.2.2,nI<|qI C s)
 |[],m,i,x,h=>by cases m <;> simp[-zad,-zac,aA,aB,uU]at h
 |g::gs,[],i,x,h=>by simp[-zad,-zac,aA,aB,uU]at h
 |g::gs,s::m,0,x,h=>⟨g,s,rfl,rfl,by simpa[uU]using h.symm⟩
 |g::gs,s::m,i+1,x,h=>by
  obtain⟨g',s',a,b,c⟩:=GA (C:=C) (gs:=gs) (m:=m) (i:=i) (x:=x) (by simpa[uU]using h);exact⟨g',s',by simpa using a,by simpa using b,c⟩
def WI.at{C:Bk}(B:OkB C){U:List Str}{kn:List (Str×Int)}{g:Rg}{d:List (Key×D)}{e:gU}{k:Int}(h:WI C U kn g d e k){i:Nat}{q:Rg}{s:Sb}(F:(dS g)[i]?=bx q)(hs:(sb C (pa g) d e k<|ch g)[i]?=bx s):s.1=pa q/\∃z,WI C U z q s.2.1 s.2.2.1 s.2.2.2:=by
 obtain⟨p,G,h1,h2,rfl⟩:=iS hs;rw[yE,zaD,F]at h1;rw[zaU];exact⟨by simpa using h1.symm,h.kid B F h2⟩
def N6(B:OkB C)(h:WI C U kn g d e k):(sb C (pa g) d e k<|ch g).length=(dS g).length:=by
 have I:=h.pi B;have:=(HI B I.ok I.k0 I.k1<|yN B h.ok h.wf).1;unfold sb;rw[x8 this.symm,yE,zak]
theorem yC:∀ {gs:List Rg} {m:List Sb},m.length=gs.length->(uU C gs m).map (·.2)=m.map λs=>nI (qI C s)
 |[],m,h=>by rw[List.length_eq_zero_iff.mp h];rfl
 |g::gs,[],h=>by simp[-zad,-zac,aA,aB]at h
 |g::gs,s::m,h=>by rw[uU,zan,zan,yC<|by simpa using h]
def B6(C:Bk)(g:Rg)(d:List<|Key×D)(e:gU)(k:Int):List<|Int×Int:=uU C (dS g) (sb C (pa g) d e k<|ch g)++[j9 C (dU C (pa g) e k<|ch g) k<|wy g]
def WI.inr{C:Bk}(B:OkB C){U:List Str}{kn:List (Str×Int)}{g:Rg}{d:List (Key×D)}{e:gU}{k:Int}(h:WI C U kn g d e k):WA<|B6 C g d e k:=λx hx=>by
 rcases List.mem_append.mp hx with z|z
 .obtain⟨i,hi⟩:=zc0 z
  obtain⟨q,s,h1,h2,rfl⟩:=GA hi;obtain⟨F,G,w⟩:=h.at B h1 h2;have:=w.num B;unfold qI;rw[F];exact this
 .have I:=h.pi B
  have b:=D2 B I<|yN B h.ok h.wf;rw[List.mem_singleton.mp z];exact jX B b.1 I.k1<|OK h.ec h.wf
def WI.join(B:OkB C)(h:WI C U kn g d e k):0<=cW 0 (B6 C g d e k)/\cW 0 (B6 C g d e k)<nI (vC C (pa g) d e k<|ch g):=by
 have:=pR<|h.inr B;refine⟨this.1,zeM this.2 ?_⟩;unfold B6 vC;rw[eW,zaR,yC<|N6 B h,zav];exact zdp _
def uG:Int->List Int->Int
 |n,[]=>n
 |n,s::l=>uG (n/s) l
theorem vN:∀(l:List Int) (s n:Int) (acc:List Int),f6 n (l++[s]) acc=uG n l%s::f6 n l acc
 |[],s,n,acc=>rfl
 |a::l,s,n,acc=>vN l s (n/a)<|n%a::acc
theorem v6:∀(l:List Int) (s n:Int),uG n (l++[s])=uG n l/s
 |[],s,n=>rfl
 |a::l,s,n=>v6 l s<|n/a
theorem BA:∀(l:List Int) (n:Int) (acc:List Int),(f6 n l acc).length=l.length+acc.length
 |[],n,acc=>by simp_all[f6]
 |a::l,n,acc=>by rw[f6,BA l];simp_all;lia
def LW{l:List Int}(hl:l.length<=100)(hs:∀s∈l,0<s/\s<10^500)(n:Int):tP [.int n,.lst<|l.map .int]=bx (.lst<|(f6 n l.reverse []).map .int):=by
 refine aL ?_;unfold AQ;have W:(aH 5 [.int n,.lst<|l.map .int]).set 2 (bx<|.lst [])=[bx<|.int n,bx<|.lst<|l.map .int,bx<|.lst [],cb,cb]:=rfl;rw[aE<|aM (d:=.lst []) rfl,W,aE<|aM (d:=.int n) rfl];have er:(l.map D.int).reverse=l.reverse.map D.int:=by rw[List.map_reverse]
 have J:∀s∈l.reverse,0<s/\s<10^500:=λs h=>hs s<|List.mem_reverse.mp h
 have z:l.reverse.length<=100:=by rw[List.length_reverse];exact hl
 generalize l.reverse=m at er J z ⊢;generalize l.map D.int=X at er ⊢;refine iP (items:=m.map .int) (by simp_all[qbo,er]) (λi ρ=>∃q,ρ=[bx<|.int n,bx<|.lst X,bx<|.lst<|(f6 n (m.take i) []).map .int,bx<|.int<|uG n<|m.take i,q]) ⟨cb,rfl⟩ ?_ ?_
 .rintro i y ρ F ⟨q,rfl⟩
  rw[zaD]at F;obtain⟨s,N,rfl⟩:=map_some F;have h:=J s<|zax N;have U:m.take (i+1)=m.take i++[s]:=by rw[zdo,N];rfl
  have pl:=BA (m.take i) n [];have G:aZ (f6 n (m.take i) []).length=cf:=decide_eq_true (by rw[pl,zcd];simp_all;lia);refine⟨[bx<|.int n,bx<|.lst X,bx<|.lst<|(f6 n (m.take<|i+1) []).map .int,bx<|.int<|uG n<|m.take<|i+1,bx<|.int s],?_,_,rfl⟩;rw[U,vN,v6];generalize f6 n (m.take i) []=P1 at G ⊢;generalize uG n (m.take i)=r;have ei:ZV 2 (eC<|D.int 0) (bB dI (aD 3)<|aD 4) [bx<|.int n,bx<|.lst X,bx<|.lst<|P1.map .int,bx<|.int r,bx<|.int s]=bx (.nx [bx<|.int n,bx<|.lst X,bx<|.lst<|.int (r%s)::P1.map .int,bx<|.int r,bx<|.int s]):=by
   unfold ZV;simp_all[bO h.1,G]
  have Y:aS 4 (.int s) [bx<|.int n,bx<|.lst X,bx<|.lst<|P1.map .int,bx<|.int r,q]=bx [bx<|.int n,bx<|.lst X,bx<|.lst<|P1.map .int,bx<|.int r,bx<|.int s]:=rfl;unfold turn;rw[Y,aA,aE ei,aM (d:=.int<|r/s)<|by simp_all[EK h.1 h.2]];rfl
 .rintro ρ' ⟨q,rfl⟩
  rw[zak,zb3];simp_all
theorem rQ{C:Bk}{at_:D}:∀(l:List Sb) (o1 o2 o3:Option D),(∀s∈l,b9 [at_,dX C s.1,.dK s.2.1,.int s.2.2.2]=bx (memD<|qI C s))->bD (kQ 3<|eL (aS 0)<|eL (aS 1)<|eL (aS 2) uF) fN (aR cK<|aC (aR b9<|aC (aD 3)<|aC (aD 0)<|aC (aD 1)<|aC (aD 2) aY) aY) (l.map λs=>.tup [dX C s.1,.dK s.2.1,.int s.2.2.2]) [o1,o2,o3,bx at_]=bx ((l.map λs=>nI<|qI C s).map .int)
 |[],o1,o2,o3,_=>rfl
 |s::l,o1,o2,o3,h=>by
  have ih:=rQ l (bx<|dX C s.1) (bx<|.dK s.2.1) (bx<|.int s.2.2.2) λt q=>h t<|zaq _ q
  have e:=h s<|zar ..;have n:=fK<|qI C s;rw[zan,bD];simp_all[-zav,e,n,ih]
def RJ{C:Bk}{at_:D}{l:List Sb}{rs:List D}(F:l.length<=100)(h:∀s∈l,b9 [at_,dX C s.1,.dK s.2.1,.int s.2.2.2]=bx (memD<|qI C s)):yK [at_,.lst<|l.map λs=>.tup [dX C s.1,.dK s.2.1,.int s.2.2.2],.lst rs]=bx (.lst<|((l.map λs=>nI<|qI C s)++[(rs.length:Int)]).map .int):=by
 have c:=rQ l cb cb cb h;have z:aZ l.length=cf:=decide_eq_true (by lia);have q:aZ (l.length+1)=cf:=decide_eq_true (by lia);refine aL ?_;unfold GE;simp_all[-zav,aH,hW,z,q,c]
def RK{C:Bk}{at_:D}(A:AtD C at_){j k:Int}(q:0<=j/\j<(C.kinds.length:Int))(z:0<=k/\k<(C.kinds.length:Int)):∃r,zB CA "routes" at_=bx r/\aJ r (.tup [.int j,.int k])=bx (.lst<|(bU C.rs k 8 j).map tupI):=by
 obtain⟨F,L2,rfl,ok⟩:=A;exact⟨.dT F,rfl,VU (ok j k ⟨q,z⟩).1⟩
def OQ(h:LeT m a)(q:m<=16):a<10^250:=Int.lt_of_le_of_lt (h.mono q).2<|by decide +kernel
theorem E9:∀(gs:List Rg) (m:List Sb),uU C gs m=(gs.zip m).map λz=>(cU C z.1 z.2.2.2.1 z.2.2.2.2,nI<|qI C z.2)
 |[],m=>by cases m <;> rfl
 |g::gs,[]=>rfl
 |g::gs,s::m=>by rw[uU,E9 gs m];rfl
def zip_get{g:Rg}{l:List Sb}{i:Nat}{z:Rg×Sb}(h:((dS g).zip l)[i]?=bx z):(dS g)[i]?=bx z.1/\l[i]?=bx z.2:=by
 rw[List.getElem?_zip_eq_some]at h;exact h
abbrev Y5:=D×D×D×D×D
def mM{l ks pre rs:List D}(h0:gC l 0=bx (.str tag))(F:¬ tag = "use")(U:¬ tag = "let")(J:iV [.tup l]=bx (.tup ks))(N:cutD l cb (bx<|(l.length:Int)-(ks.length:Int))=pre)(z:pre.length+rs.length<=1000):gE [.tup l,c,.lst rs,w]=bx (.tup<|pre++rs++[w]):=by
 have G:aZ (pre.length+rs.length)=cf:=decide_eq_true (by lia);have q:aZ (pre.length+rs.length+1)=cf:=decide_eq_true (by lia);exact aL<|by simp_all[fL,aH,h0,F,U,J,N,G,q]
def zO:∀g:Rg,gE [bJ<|pa g,ch g,.lst<|ir g,tupI<|wy g]=bx (rd g)
 |.name x j w=>mM (ks:=[]) (pre:=[_,_]) (rs:=[]) at0 tZ oC (nH<|.name x) rfl<|zcA rfl
 |.num n j w=>mM (ks:=[]) (pre:=[_,_,_]) (rs:=[]) at0 nY lT (nH<|.num n j) rfl<|zcA rfl
 |.use1 ..=>aL<|by simp_all[fL,aH,pa,bJ,ch,ir,wy,rd,at0]
 |.use2 ..=>aL<|by simp_all[fL,aH,pa,bJ,ch,ir,wy,rd,at0]
 |.lett ..=>aL<|by simp_all[fL,aH,pa,bJ,ch,ir,wy,rd,at0,at1,oB,sz5]
 |.pick c k p q r w=>mM (ks:=[_,_,_]) (pre:=[_,_,_]) (rs:=[rd p,rd q,rd r]) at0 nZ lN (nH<|.pick c k (pa p) (pa q)<|pa r) rfl<|zcA rfl
 |.again c k x p q w=>mM (ks:=[_,_]) (pre:=[_,_,_,_]) (rs:=[rd p,rd q]) at0 oA iY (nH<|.again c k x (pa p)<|pa q) rfl<|zcA rfl
theorem AC:∀(gs:List Rg) (m:List Sb) (x:D),m.length=gs.length->lU (((uU C gs m).map λp=>.int p.1)++[x]) (m.map λs=>.tup [dX C s.1,.dK s.2.1,.int s.2.2.2])=(gs.zip m).map λz=>.tup [.int<|cU C z.1 z.2.2.2.1 z.2.2.2.2,.tup [dX C z.2.1,.dK z.2.2.1,.int z.2.2.2.2]]
 |[],m,x,h=>by rw[List.length_eq_zero_iff.mp h];rfl
 |g::gs,[],x,h=>by simp[-zad,-zac,aA,aB]at h
 |g::gs,s::m,x,h=>by rw[uU,zan,zan,zd7,lU,AC gs m x<|by simpa using h];rfl
def RS(h:m.length=gs.length):(uU C gs m).length=gs.length:=by
 rw[E9,zak,List.length_zip];lia
theorem PQ:∀(gs:List Rg) (m:List Sb),m.length=gs.length->(gs.zip m).map (λz=>rd z.1)=gs.map rd
 |[],m,h=>rfl
 |g::gs,[],h=>by simp[-zad,-zac,aA,aB]at h
 |g::gs,s::m,h=>by rw[zeo,zan,zan,PQ gs m<|by simpa using h]
def NI{R:List D->Option D}{at_ nd dd G N Jd bk pd r bd W rg:D}{wi:Int}{SP SZ J wl U:List D}{Y:List Y5}(hb:zB CA "book" at_=bx bk)(np:zB CN "part" nd=bx pd)(sp:kH [at_,nd,dd,G,N]=bx (.lst SP))(er:zB CA "routes" at_=bx r)(bg:bM [bk,dd,pd,G,N]=bx bd)(ew:aJ r (.tup [bd,G])=bx (.lst wl))(zs:yK [at_,.lst SP,.lst wl]=bx (.lst SZ))(ak:tP [Jd,.lst SZ]=bx (.lst J))(zn:lU J SP=Y.map λy=>.tup [y.1,.tup [y.2.1,y.2.2.1,y.2.2.2.1]])(zl:Y.length<=3)(kf:∀y∈Y,R [at_,y.2.1,y.2.2.1,y.2.2.2.1,y.1]=bx y.2.2.2.2)(zr:Y.map (·.2.2.2.2)=U)(aj:gC J (SP.length:Int)=bx (.int wi))(ix:gC wl wi=bx W)(ae:gE [pd,N,.lst U,W]=bx rg) :
  d5 R (aH 12 [at_,nd,dd,G,N,Jd])=bx (.rt rg):=by
 unfold d5;rw[aE<|aM (d:=.lst SP)<|by ac_rfl];rw[aE<|aM (d:=.lst wl)<|by ac_rfl];rw[aE<|aM (d:=.lst J)<|by ac_rfl];rw[aE<|aM (d:=.lst []) rfl];refine iP (items:=Y.map λy=>.tup [y.1,.tup [y.2.1,y.2.2.1,y.2.2.2.1]]) (by ac_rfl) (λi ρ=>∃F q,ρ=[bx at_,bx nd,bx dd,bx G,bx N,bx Jd,bx<|.lst SP,bx<|.lst wl,bx<|.lst J,bx<|.lst<|(Y.take i).map (·.2.2.2.2),F,q]) ⟨cb,cb,rfl⟩ ?_ ?_
 .rintro i y ρ hy ⟨F,q,rfl⟩
  rw[zaD]at hy;obtain⟨z,hz,rfl⟩:=map_some hy;have et:Y.take (i+1)=Y.take i++[z]:=by rw[zdo,hz];rfl
  have ek:=kf z<|zax hz;refine⟨[bx at_,bx nd,bx dd,bx G,bx N,bx Jd,bx<|.lst SP,bx<|.lst wl,bx<|.lst J,bx<|.lst<|(Y.take<|i+1).map (·.2.2.2.2),bx z.1,bx<|.tup [z.2.1,z.2.2.1,z.2.2.2.1]],?_,_,_,rfl⟩;rw[et,zaR];have z2:((Y.take i).map (·.2.2.2.2)).length<=1000000:=by rw[zak,zcd];lia
  ac_rfl
 .rintro ρ' ⟨F,q,rfl⟩
  rw[zak,zb3,zr]
  ac_rfl
def u3{C:Bk}(B:OkB C){U:List Str}(hU:U.length<=8){at_:D}(A:AtD C at_){g:Rg}{kn:List (Str×Int)}{d:List (Key×D)}{e:gU}{k:Int}{R:List D->Option D}(ad:size g<=16)(w:WI C U kn g d e k)(IH:∀q,size q<size g->∀G d' e' k',WI C U G q d' e' k'->R [at_,dX C<|pa q,.dK d',.int k',.int<|cU C q e' k']=bx (rd q)) :
  bE 12 (d5 R) [at_,dX C<|pa g,.dK d,.int k,ch g,.int<|cW 0<|B6 C g d e k]=bx (rd g):=by
 refine aL ?_;have I:=w.pi B;have W:=yN B w.ok w.wf;have sp:=VE B A I W;have bg:=V6 I W;have bo:=D2 B I W;have wk:=OK w.ec w.wf;have hb:=A.book;have np:=kF C<|pa g;obtain⟨r,er,ew⟩:=RK A bo ⟨I.k0,I.k1⟩;have N:=N6 B w;have k3:(dS g).length<=3:=by cases g <;> simp_all[dS]
 have ps:psz (pa g)<=16:=by rw[cT];exact ad
 have zs:=RJ (C:=C) (at_:=at_) (l:=sb C (pa g) d e k<|ch g) (rs:=(bU C.rs k 8<|dU C (pa g) e k<|ch g).map tupI) (by lia) λs hs=>by
  obtain⟨i,hi⟩:=zc0 hs;have sk:=gS<|yM hs;obtain⟨q,kk,h1,h2,rfl⟩:=iS hi;exact BV B hU A 16 _ _ _ _ (by simp only at sk ⊢;lia) (by simp only at sk ⊢;lia)<|by rw[zaU];exact I.kid B W h1 h2
 have l8:=Z2 B (dU C (pa g) e k<|ch g) k;have F:(B6 C g d e k).map (·.2)=(sb C (pa g) d e k<|ch g).map (λs=>nI<|qI C s)++[((bU C.rs k 8<|dU C (pa g) e k<|ch g).length:Int)]:=by
  unfold B6;rw[zaR,yC N];rfl
 have nl:(B6 C g d e k).length=(dS g).length+1:=by
  have:=congrArg zbt F;simp[-zad,-zac,aA,aB]at this;lia
 have inr:=w.inr B;have pd:=LW (l:=(B6 C g d e k).map (·.2)) (by rw[zak];lia) (λs hs=>by
  obtain⟨p,hp,e1⟩:=List.mem_map.mp hs;have a:=inr p hp;refine⟨by lia,?_⟩;rw[F]at hs;refine Int.lt_trans ?_ (show(10:Int)^250<10^500 by decide +kernel);rcases List.mem_append.mp hs with z|z
  .obtain⟨s,hs,e1⟩:=List.mem_map.mp z
   rw[<- e1];exact OQ (nB B _ s.1 (zaj _) _ _)<|by have:=gS<|yM hs;lia
  .rw[List.mem_singleton.mp z]
   exact OQ (m:=1) ⟨by lia,zd9 l8<|by decide⟩<|by decide) (cW 0<|B6 C g d e k)
 have pj:=wC (B6 C g d e k) 0 [] [] inr;rw[zbi,zbi]at pj;rw[pj,show f6 0 [] ((B6 C g d e k).map (·.1))=(B6 C g d e k).map (·.1)from rfl,F]at pd;rw[zak]at zs;have k6:=B.k6;have wm:=tJ B.gr (n:=8) (by have:=I.k1;lia) wk;have ix:gC ((bU C.rs k 8<|dU C (pa g) e k<|ch g).map tupI) (((bU C.rs k 8<|dU C (pa g) e k<|ch g).idxOf<|wy g:Nat):Int)=bx (tupI<|wy g):=bS (by
  rw[zaD,za0<|zeW wm,List.getElem_idxOf];rfl)
 have zn:=AC (C:=C) (dS g) (sb C (pa g) d e k<|ch g) (.int ((bU C.rs k 8<|dU C (pa g) e k<|ch g).idxOf<|wy g:Nat)) N;have ab:((B6 C g d e k).map (·.1)).map D.int=(((uU C (dS g)<|sb C (pa g) d e k<|ch g).map λp=>D.int p.1)++[.int ((bU C.rs k 8<|dU C (pa g) e k<|ch g).idxOf<|wy g:Nat)]):=by
  unfold B6;rw[zav,zaR];rfl
 rw[ab]at pd;have J:((uU C (dS g)<|sb C (pa g) d e k<|ch g).map λp=>D.int p.1).length=(sb C (pa g) d e k<|ch g).length:=by rw[zak,RS N,N]
 have ac:gC (((uU C (dS g)<|sb C (pa g) d e k<|ch g).map λp=>D.int p.1)++[.int ((bU C.rs k 8<|dU C (pa g) e k<|ch g).idxOf<|wy g:Nat)]) ((sb C (pa g) d e k<|ch g).length:Int)=bx (.int ((bU C.rs k 8<|dU C (pa g) e k<|ch g).idxOf<|wy g:Nat)):=bS (by
  rw[zdB<|by lia,J,Nat.sub_self];rfl)
 refine NI (Y:=((dS g).zip<|sb C (pa g) d e k<|ch g).map λz=>(.int<|cU C z.1 z.2.2.2.1 z.2.2.2.2,dX C z.2.1,.dK z.2.2.1,.int z.2.2.2.2,rd z.1)) hb np sp er bg ew zs pd (by rw[zn,zav];rfl) (by rw[zak,List.length_zip];lia) (λy hy=>?_) (by rw[zav];exact(PQ (dS g) (sb C (pa g) d e k<|ch g) N).trans (RW g).symm) (by rw[zak];exact ac) ix<|zO g;obtain⟨z,hz,rfl⟩:=List.mem_map.mp hy;obtain⟨i,hi⟩:=zc0 hz;obtain⟨a,b⟩:=zip_get hi;obtain⟨e1,G,w'⟩:=w.at B a b;show R [at_,dX C z.2.1,.dK z.2.2.1,.int z.2.2.2.2,.int _]=_;rw[e1];exact IH z.1 (G4<|zax a) G _ _ _ w'
theorem O5{C:Bk}(B:OkB C){U:List Str}(G:U.length<=8){at_:D}(A:AtD C at_):∀(n:Nat) (g:Rg) (kn:List<|Str×Int) (d:List<|Key×D) (e:gU) (k:Int),size g<=n->size g<=16->WI C U kn g d e k->i6 8 fD n [at_,dX C<|pa g,.dK d,.int k,.int<|cU C g e k]=bx (rd g)
 |0,g,kn,d,e,k,h,_,_=>by have:=eU<|pa g;rw[cT]at this;lia
 |n+1,g,kn,d,e,k,h,h16,w=>by
  show bE 8 (fD<|i6 8 fD n) _=_;have tc:=u3 B G A (R:=i6 8 fD n) h16 w λq hq W d' e' k' w'=>O5 B G A n q W d' e' k' (by lia) (by lia) w'
  generalize i6 8 fD n=R at tc ⊢;refine aL ?_;have I:=w.pi B;have cm:=yN B w.ok w.wf;have wc:=nQ B<|pa g;have hb:=A.book;have np:=kF C<|pa g;have ps:psz (pa g)<=16:=by rw[cT];exact h16
  have cs:∀c∈bP C (pa g),eS [at_,dX C<|pa g,.dK d,.int k,c]=bx (memD<|vC C (pa g) d e k c):=λc z=>DZ B A I z ps λs _ hI hz=>BV B G A 16 s.1 s.2.1 s.2.2.1 s.2.2.2 (by lia) (by lia) hI
  obtain⟨t,F⟩:=zc0 cm;have bp:=HF (f:=vC C (pa g) d e k) F;have jn:=w.join B;have nn:=EA C (pa g) d e k;rw[HA C g d e k,bp,show(uU C (dS g) (sb C (pa g) d e k<|ch g)++[j9 C (dU C (pa g) e k<|ch g) k<|wy g])=B6 C g d e k from rfl];generalize cW 0 (B6 C g d e k)=J at *;generalize vC C (pa g) d e k=f at *;generalize bP C (pa g)=chs at *;generalize ch g=cg at *;generalize dX C (pa g)=nd at *;generalize rd g=rg at *;unfold fD;rw[aE<|aM (d:=.int<|b6 chs f t+J) rfl];refine uD ?_;rw[q_for];have ei:fM (aR dW<|aC (dH CA "book"<|aD 0)<|aC (dH CN "part"<|aD 1) aY) ((aH 8 [at_,nd,.dK d,.int k,.int<|b6 chs f t+J]).set 5<|bx<|.int<|b6 chs f t+J)=bx chs:=by ac_rfl
  rw[ei];refine G3 t (λi ρ=>∃N Y,ρ=[bx at_,bx nd,bx<|.dK d,bx<|.int k,bx<|.int<|b6 chs f t+J,bx<|.int<|b6 chs f t+J-b6 chs f i,N,Y]) ⟨cb,cb,by rw[show b6 chs f 0=0 from rfl,Int.sub_zero];rfl⟩ (List.getElem?_eq_some_iff.mp F).1 ?_ ?_
  .rintro i c ρ hi z ⟨N,Y,rfl⟩
   have ec:=cs c<|zax z;have en:=fK<|f c;have s:=mR (f:=f) z;have m:=sN nn (l:=chs) (i:=i+1) (j:=t) (by lia);have lt:¬ b6 chs f t+J-b6 chs f i<nI (f c):=by lia
   refine⟨[bx at_,bx nd,bx<|.dK d,bx<|.int k,bx<|.int<|b6 chs f t+J,bx<|.int<|b6 chs f t+J-b6 chs f (i+1),bx c,bx<|.int<|nI<|f c],?_,_,_,rfl⟩;rw[s,show b6 chs f t+J-(b6 chs f i+nI (f c))=b6 chs f t+J-b6 chs f i-nI (f c) by lia];generalize b6 chs f t+J-b6 chs f i=x at lt ⊢
   ac_rfl
  .rintro c ρ z ⟨N,Y,rfl⟩
   have:c=cg:=by rw[F]at z;injection z with z;exact z.symm
   subst this;have ec:=cs c<|zax F;have en:=fK<|f c;rw[show b6 chs f t+J-b6 chs f t=J by lia];have lt:=jn.2
   ac_rfl
theorem nU:∀(l:List<|Int×Int) (n:Int),cW n l=n*i9 (l.map (·.2))+cW 0 l
 |[],n=>by simp_all[cW,i9]
 |(a,s)::l,n=>by
  rw[cW,nU l,cW,nU l<|0*s+a,zan,i9,Int.zero_mul,zbx,Int.add_mul,zd8,zdn]
theorem digits:∀(l:List Int) (r:Int),NN l->0<=r->r<i9 l->∃zs:List (Int×Int),zs.map (·.2)=l/\WA zs/\cW 0 zs=r
 |[],r,_,h0,h1=>⟨[],rfl,(λ_ h=>by cases h),by simp[-zad,-zac,aA,aB,i9]at h1;show(0:Int)=r;lia⟩
 |s::l,r,hn,h0,h1=>by
  have F:NN l:=λx hx=>hn x<|zaq _ hx
  have J:=yP F;have W:=hn s<|zar ..;rw[i9]at h1;have G:0<i9 l:=by
   rcases Int.lt_or_eq_of_le J with z|z
   .exact z
   .rw[<- z,Int.mul_zero]at h1;lia
  obtain⟨zs,q,N,U⟩:=digits l (r%i9 l) F (zat _<|by lia)<|zau _ G;refine⟨(r/i9 l,s)::zs,by rw[zan,q],uM ⟨Int.ediv_nonneg h0 J,Int.ediv_lt_of_lt_mul G h1⟩ N,?_⟩;rw[cW,nU,q,U,Int.zero_mul,zbx];have:=Int.mul_ediv_add_emod r<|i9 l;rw[Int.mul_comm]at this;exact this
theorem AO(F:∀c,0<=nI (f c))(h0:0<=n):∀m,n<b6 l f m->∃t c,l[t]?=bx c/\b6 l f t<=n/\n<b6 l f t+nI (f c)
 |0,h=>by simp[-zad,-zac,aA,aB,b6]at h;lia
 |m+1,h=>by
  by_cases z:n<b6 l f m
  .exact AO F h0 m z
  .cases hc:l[m]? with
   |some c=>rw[mR hc]at h;exact⟨m,c,hc,by lia,h⟩
   |none=>
    have q:l.length<=m:=List.getElem?_eq_none_iff.mp hc;have e:b6 l f (m+1)=b6 l f m:=by unfold b6;rw[zb4<|by lia,zb4 q]
    lia
def PaW(C:Bk)(U:List Str):List Str->Pa->Prop
 |_,.name _=>True
 |_,.num n _=>0<=n/\n<C.M
 |N,.use1 _ p=>PaW C U N p
 |N,.use2 _ p q=>PaW C U N p/\PaW C U N q
 |N,.lett x p q=>PaW C U N p/\(x∉N/\x∈U)/\PaW C U (x::N) q
 |N,.pick _ _ p q r=>PaW C U N p/\PaW C U N q/\PaW C U N r
 |N,.again n _ x p q=>(0<=n/\n<4)/\PaW C U N p/\(x∉N/\x∈U)/\PaW C U (x::N) q
def paw:∀ {kn:List (Str×Int)} {N:List Str} {k:Int},WF C kn g k->NF U N g->PaW C U N (pa g):=by
 induction g with
 |name x j w=>exact λ_ _=>trivial
 |num n j w=>exact λW _=>W.1
 |use1 v nm p w ih=>rintro _ _ _ ⟨m,t,a,b,c,d,f⟩ F;exact ih d F
 |use2 v nm p q w ih ih2=>rintro _ _ _ ⟨m,t,u,a,b,c,d,J,f⟩ F;exact⟨ih d F.1,ih2 J F.2⟩
 |lett x j p q ih ih2=>exact λW F=>⟨ih W.1 F.1,F.2.1,ih2 W.2 F.2.2⟩
 |pick c k' p q r w ih ih2 ih3=>rintro _ _ _ ⟨a,b,z,G,Y,d⟩ F;exact⟨ih z F.1,ih2 G F.2.1,ih3 Y F.2.2⟩
 |again n k' x p q w ih ih2=>rintro _ _ _ ⟨a,b,z,G,d⟩ F;exact⟨a,ih z F.1,F.2.1,ih2 G F.2.2⟩
theorem PaW.nf:∀ {g:Rg} {N:List Str},PaW C U N (pa g)->NF U N g
 |.name x j w,N,h=>trivial
 |.num n j w,N,h=>trivial
 |.use1 v nm p w,N,h=>PaW.nf (g:=p) h
 |.use2 v nm p q w,N,h=>⟨PaW.nf h.1,PaW.nf h.2⟩
 |.lett x j p q,N,h=>⟨PaW.nf h.1,h.2.1,PaW.nf h.2.2⟩
 |.pick c k' p q r w,N,h=>⟨PaW.nf h.1,PaW.nf h.2.1,PaW.nf h.2.2⟩
 |.again n k' x p q w,N,h=>⟨PaW.nf h.2.1,h.2.2.1,PaW.nf h.2.2.2⟩
def qe(kn:List<|Str×Int)(p:Pa)(c:D)(i:Nat):List<|Str×Int:=match hid p i with
 |none=>kn
 |some x=>(x,EY p c)::kn
structure SI(C:Bk)(U:List Str)(kn:List<|Str×Int)(p:Pa)(d:List<|Key×D)(e:gU)(k:Int):Prop where
 pi:PI' C U p d e k
 pw:PaW C U (kn.map (·.1)) p
 nk:∀x∈aP p,(x,e x)∈kn
def PaW.kid(h:PaW C U (kn.map (·.1)) p)(z:(kids p)[i]?=bx q):PaW C U ((qe kn p c i).map (·.1)) q:=by
 cases p with
 |name y=>simp[-zad,-zac,aA,aB,kids]at z
 |num n j=>simp[-zad,-zac,aA,aB,kids]at z
 |use1 nm p=>obtain⟨rfl,rfl⟩:=P7 z;exact h
 |use2 nm p q=>rcases u9 z with⟨rfl,rfl⟩|⟨rfl,rfl⟩;exact h.1;exact h.2
 |lett y p q=>rcases u9 z with⟨rfl,rfl⟩|⟨rfl,rfl⟩;exact h.1;exact h.2.2
 |pick c k p q r=>rcases get3 z with⟨rfl,rfl⟩|⟨rfl,rfl⟩|⟨rfl,rfl⟩;exact h.1;exact h.2.1;exact h.2.2
 |again n k y p q=>rcases u9 z with⟨rfl,rfl⟩|⟨rfl,rfl⟩;exact h.2.1;exact h.2.2.2
theorem SI.kid(B:OkB C)(h:SI C U kn p d e k)(J:c∈bP C p)(F:(kids p)[i]?=bx q)(G:(CB C p k c)[i]?=bx kk):SI C U (qe kn p c i) q (LB p d c i) (QN p e c i) kk:=by
 refine⟨h.pi.kid B J F G,h.pw.kid F,λx hx=>?_⟩;unfold QN qe;cases e1:hid p i with
 |none=>exact h.nk x<|qA F hx<|by rw[e1];simp_all
 |some y=>
  simp only[eZ];by_cases z:x=y
  .rw[ck z,z];exact zar ..
  .rw[cq z]
   exact zaq _<|h.nk x<|qA F hx<|by rw[e1];intro w;injection w with w;exact z w
def qa1{q:Type}{l:List q}(h:l.length=1):∃a,l=[a]:=List.length_eq_one_iff.mp h
def Z1{q:Type}{l:List q}(h:l.length=2):∃a b,l=[a,b]:=by
 match l,h with
 |[a,b],_=>exact⟨a,b,rfl⟩
def qcs{q:Type}{l:List q}(h:l.length=3):∃a b c,l=[a,b,c]:=by
 match l,h with
 |[a,b,c],_=>exact⟨a,b,c,rfl⟩
def SG(B:OkB C)(h:gw C.rs k w=bx k):w=[]:=by
 have:=jV B.gr h;exact List.length_eq_zero_iff.mp<|by lia
def build{C:Bk}(B:OkB C){U:List Str}{kn:List (Str×Int)}{p:Pa}{d:List (Key×D)}{e:gU}{k:Int}(h:SI C U kn p d e k){c:D}(N:c∈bP C p){gs:List Rg}(W:gs.length=(kids p).length)(z:∀(i:Nat) (q:Rg) (kk:Int),gs[i]?=bx q->(CB C p k c)[i]?=bx kk->(kids p)[i]?=bx (pa q)/\WF C (qe kn p c i) q kk){w:List Int}(hw:gw C.rs (dU C p e k c) w=bx k) :
  ∃g,pa g=p/\ch g=c/\dS g=gs/\wy g=w/\WF C kn g k:=by
 cases p with
 |name x=>
  refine⟨.name x (e x) w,rfl,(List.mem_singleton.mp N).symm,(List.length_eq_zero_iff.mp W).symm,rfl,h.nk x<|List.mem_singleton.mpr rfl,hw⟩
 |num n j=>exact⟨.num n j w,rfl,(List.mem_singleton.mp N).symm,(List.length_eq_zero_iff.mp W).symm,rfl,h.pw,h.pi.ok,hw⟩
 |use1 nm p=>
  obtain⟨v,m,rfl,J,en,Y⟩:=fO N;obtain⟨a,rfl⟩:=qa1 W;have h0:=z 0 a _ rfl rfl;have t:=EG J Y;simp only[dU,dB,d8 J]at hw;have F:p=pa a:=by simpa[kids]using h0.1
  rw[dB]at h0;exact⟨.use1 v nm a w,by rw[F];rfl,rfl,rfl,rfl,m,_,J,en,t,h0.2,hw⟩
 |use2 nm p q=>
  obtain⟨v,m,rfl,J,en,Y⟩:=fO N;obtain⟨a,b,rfl⟩:=Z1 W;have h0:=z 0 a _ rfl rfl;have h1:=z 1 b _ rfl rfl;have t:=D0 J Y;simp only[dU,dB,d8 J]at hw;have F:p=pa a:=by simpa[kids]using h0.1
  have G:q=pa b:=by simpa[kids]using h1.1
  rw[dB]at h0 h1;exact⟨.use2 v nm a b w,by rw[F,G];rfl,rfl,rfl,rfl,m,_,_,J,en,t,h0.2,h1.2,hw⟩
 |lett x p q=>
  obtain⟨v,rfl,hv⟩:=uC N;obtain⟨a,b,rfl⟩:=Z1 W;have h0:=z 0 a _ rfl rfl;have h1:=z 1 b _ rfl rfl;have F:p=pa a:=by simpa[kids]using h0.1
  have G:q=pa b:=by simpa[kids]using h1.1
  exact⟨.lett x (v:Int) a b,by rw[F,G];rfl,rfl,rfl,(SG B hw).symm,h0.2,h1.2⟩
 |pick c' k' p q r=>
  obtain⟨a,b,c1,rfl⟩:=qcs W;have h0:=z 0 a _ rfl rfl;have h1:=z 1 b _ rfl rfl;have h2:=z 2 c1 _ rfl rfl;have F:p=pa a:=by simpa[kids]using h0.1
  have G:q=pa b:=by simpa[kids]using h1.1
  have e2:r=pa c1:=by simpa[kids]using h2.1
  exact⟨.pick c' k' a b c1 w,by rw[F,G,e2];rfl,(List.mem_singleton.mp N).symm,rfl,rfl,h.pi.ok.1,h.pi.ok.2.1,h0.2,h1.2,h2.2,hw⟩
 |again n k' x p q=>
  obtain⟨a,b,rfl⟩:=Z1 W;have h0:=z 0 a _ rfl rfl;have h1:=z 1 b _ rfl rfl;have F:p=pa a:=by simpa[kids]using h0.1
  have G:q=pa b:=by simpa[kids]using h1.1
  exact⟨.again n k' x a b w,by rw[F,G];rfl,(List.mem_singleton.mp N).symm,rfl,rfl,h.pw.1,h.pi.ok.1,h0.2,h1.2,hw⟩
theorem AR:∀ {gs:List Rg} {l:List Sb} {zs:List (Int×Int)},gs.length=l.length->zs.length=l.length->(∀(i:Nat) (q:Rg) (s:Sb) (z:Int×Int),gs[i]?=bx q->l[i]?=bx s->zs[i]?=bx z->z=(cU C q s.2.2.1 s.2.2.2,nI<|qI C s))->uU C gs l=zs
 |[],l,zs,h1,h2,_=>by
  have:l=[]:=List.length_eq_zero_iff.mp h1.symm;subst this;rw[List.length_eq_zero_iff.mp h2];rfl
 |g::gs,[],zs,h1,_,_=>by simp[-zad,-zac,aA,aB]at h1
 |g::gs,s::l,[],_,h2,_=>by simp[-zad,-zac,aA,aB]at h2
 |g::gs,s::l,z::zs,h1,h2,h=>by
  rw[uU,h 0 g s z rfl rfl rfl,AR (by simpa using h1) (by simpa using h2) λi q s z a b c=>h (i+1) q s z (by simpa using a) (by simpa using b)<|by simpa using c]
theorem GW{F β:Type}(P:Nat->β->F->Prop):∀(l:List β) (j:Nat),(∀i b,l[i]?=bx b->∃a,P (j+i) b a)->∃as:List F,as.length=l.length/\∀(i:Nat) (b:β) (a:F),l[i]?=bx b->as[i]?=bx a->P (j+i) b a
 |[],j,_=>⟨[],rfl,λi b a h=>by simp[-zad,-zac,aA,aB]at h⟩
 |b::l,j,h=>by
  obtain⟨a,G⟩:=h 0 b rfl;obtain⟨as,h1,h2⟩:=GW P l (j+1) λi b z=>by
   have:=h (i+1) b<|by simpa using z
   rwa [show j+(i+1)=j+1+i by lia]at this
  refine⟨a::as,by simp_all[h1],λi N J z q=>?_⟩;cases i with
  |zero=>cases z;cases q;exact G
  |succ i=>have:=h2 i N J (by simpa using z) (by simpa using q);rwa [show j+1+i=j+(i+1) by lia]at this
theorem qbh{C:Bk}(B:OkB C){U:List Str}:∀(m:Nat) (p:Pa) (kn:List<|Str×Int) (d:List<|Key×D) (e:gU) (k n:Int),psz p<=m->SI C U kn p d e k->0<=n->n<nI (aU C p e k)->∃g,pa g=p/\WF C kn g k/\cU C g e k=n
 |0,p,kn,d,e,k,n,h,_,_,_=>by have:=eU p;lia
 |m+1,p,kn,d,e,k,n,h,S,n0,n1=>by
  rw[<- GY C p d e k]at n1;obtain⟨t,c,ht,a1,a2⟩:=AO (EA C p d e k) n0 _ n1;have hc:=zax ht;have kl:=HI B S.pi.ok S.pi.k0 S.pi.k1 hc;have sl:(sb C p d e k c).length=(kids p).length:=x8 kl.1.symm;have e1:nI (vC C p d e k c)=i9 ((sb C p d e k c).map (λs=>nI<|qI C s)++[((bU C.rs k 8<|dU C p e k c).length:Int)]):=by
   unfold vC;rw[eW,zav];rfl
  rw[e1]at a2;obtain⟨zs,z1,z2,z3⟩:=digits ((sb C p d e k c).map (λs=>nI<|qI C s)++[((bU C.rs k 8<|dU C p e k c).length:Int)]) (n-b6 (bP C p) (vC C p d e k) t) (λx hx=>by
   rcases List.mem_append.mp hx with z|z
   .obtain⟨s,_,rfl⟩:=List.mem_map.mp z;exact cC ..
   .rw[List.mem_singleton.mp z];lia) (by lia) (by lia)
  obtain⟨ys,w,rfl,y1,y2⟩:=List.map_eq_append_iff.mp z1;obtain⟨F,rfl⟩:∃x,w=[x]:=by
   have:=congrArg zbt y2;simp[-zad,-zac,aA,aB]at this;exact qa1 this
  have aa:F.2=((bU C.rs k 8<|dU C p e k c).length:Int):=by simpa using y2
  have wr:=z2 F<|za1 _<|List.mem_singleton.mpr rfl;have yl:ys.length=(sb C p d e k c).length:=by have:=congrArg zbt y1;simpa using this
  -- the kids
  obtain⟨gs,g1,g2⟩:=GW (λi (s:Sb) q=>pa q=s.1/\WF C (qe kn p c i) q s.2.2.2/\∀z,ys[i]?=bx z->z=(cU C q s.2.2.1 s.2.2.2,nI<|qI C s)) (sb C p d e k c) 0 λi s hs=>by
   obtain⟨q,Y,h1,h2,rfl⟩:=iS hs;rw[zaU];have hi:=(List.getElem?_eq_some_iff.mp hs).1;have N:ys[i]?=bx ys[i]:=za0 (by lia);have zi:=z2 ys[i]<|zbq _<|zax N;have G:(ys[i]).2=nI (qI C (q,LB p d c<|0+i,QN p e c<|0+i,Y)):=by
    have a:=congrArg (λl=>l[i]?) y1;simp only[zaD,N,hs,zac]at a;injection a
   rw[zaU]at G;obtain⟨g,b1,b2,b3⟩:=qbh B m q (qe kn p c i) (LB p d c i) (QN p e c i) Y (ys[i]).1 (by have:=gS<|zax h1;lia) (S.kid B hc h1 h2) zi.1 (by rw[G]at zi;exact zi.2);refine⟨g,b1,b2,λz J=>?_⟩;rw[N]at J;cases J;rw[b3,<- G]
  -- the way
  have wi:F.1.toNat<(bU C.rs k 8<|dU C p e k c).length:=by lia
  have wm:=List.getElem_mem wi;have wg:=iL wm;have ix:(bU C.rs k 8<|dU C p e k c).idxOf (bU C.rs k 8<|dU C p e k c)[F.1.toNat]=F.1.toNat:=List.Nodup.idxOf_getElem (CP 8 _) F.1.toNat wi;obtain⟨g,q1,q2,q3,q4,q5⟩:=build B S hc (gs:=gs) (by rw[g1,sl]) (λi q Y W hk=>by
   have hi:=(List.getElem?_eq_some_iff.mp W).1;have hs:(sb C p d e k c)[i]?=bx (sb C p d e k c)[i]:=za0 (by lia);have:=g2 i _ q hs W;rw[zaU]at this;obtain⟨q',ay,h1,h2,h3⟩:=iS hs;rw[h3]at this;rw[hk]at h2;cases h2;exact⟨by rw[h1,this.1],this.2.1⟩) wg
  refine⟨g,q1,q5,?_⟩;rw[HA C g d e k,q1,q2,q3,q4,HF ht];have nz:uU C gs (sb C p d e k c)=ys:=AR g1 yl λi q s z W hs N=>by
   have:=(g2 i s q hs W).2.2;rw[zaU]at this;exact this z N
  rw[nz];have ww:j9 C (dU C p e k c) k (bU C.rs k 8<|dU C p e k c)[F.1.toNat]=F:=by
   unfold j9;rw[ix];exact Prod.ext (by simp only;lia) aa.symm
  rw[ww,z3];lia
def wY(ns:List Int):∃v:Int,iG [.lst<|ns.map .int]=bx (.int v)/\0<=v:=by
 suffices h:∃d,iG [.lst<|ns.map .int]=bx d/\∃v:Int,d=.int v/\0<=v by
  obtain⟨d,h1,v,rfl,h2⟩:=h;exact⟨v,h1,h2⟩
 have q:=Ten
 have pw:P9 (.int 10) (.int 60)=bx (.int 1000000000000000000000000000000000000000000000000000000000000):=by
  rw[HX (by decide) (by decide)<|by decide];exact congrArg (λx=>bx<|D.int x) q
 refine dQ ?_;unfold mC;rw[aE<|aM (d:=.int 7)<|by simp_all];refine iW (items:=ns.map .int) (by simp_all[aH]) (λi ρ=>∃(v:Int) (o:Option D),ρ=[bx<|.lst<|ns.map .int,bx<|.int v,o]/\0<=v/\v<10^60) ⟨7,cb,by simp_all[aH],by decide,by decide +kernel⟩ ?_ ?_
 .rintro i x ρ hx ⟨v,o,rfl,z,F⟩
  rw[zaD]at hx;obtain⟨c,_,rfl⟩:=Option.map_eq_some_iff.mp hx;have b:(10:Int)^60<10^250:=by decide +kernel
  have G:cV (.int v) (.int 1000003)=bx (.int<|v*1000003):=cE (by lia) (by lia) (by decide +kernel) (by decide +kernel);refine⟨[bx<|.lst<|ns.map .int,bx<|.int<|(v*1000003+c)%1000000000000000000000000000000000000000000000000000000000000,bx<|.int c],?_,_,_,rfl,zat _<|by decide,?_⟩
  .simp_all[turn,G,pw,bO]
  .rw[q];exact zau _<|by decide
 .rintro ρ ⟨v,o,rfl,z,F⟩
  exact⟨_,by simp_all,v,rfl,z⟩
def knK(p:Str×Int):Key×D:=(.inr p.1,.int p.2)
theorem F6:∀l:List (Str×Int),ES (l.map bQ)=bx (l.map knK)
 |[]=>rfl
 |p::l=>by
  show(Z7<|.str p.1).bind _=_;show(bx (.inr p.1:Key)).bind _=_;rw[aA,F6 l];rfl
theorem vZ:∀(l kn:List<|Str×Int) (acc:List<|Key×D),Cons acc kn->(l.map (·.1)++kn.map (·.1)).Nodup->Cons (kS acc<|l.map knK) (l++kn)
 |[],kn,acc,h,_=>h
 |p::l,kn,acc,h,nd=>by
  rw[zan,zd7,List.nodup_cons]at nd;have N:p.1∉kn.map (·.1):=λz=>nd.1<|za1 _ z
  have h2:=h.put (j:=p.2) N;have F:(l.map (·.1)++((p.1,p.2)::kn).map (·.1)).Nodup:=by
   have a:=List.nodup_append.mp nd.2;rw[zan,zeL];refine⟨a.1,List.nodup_cons.mpr ⟨N,a.2.1⟩,λy J z U=>?_⟩;rcases List.mem_cons.mp U with e|e
   .intro w;exact nd.1<|zbq _<|by rw[<- e,<- w];exact J
   .exact a.2.2 y J z e
  have ih:=vZ l ((p.1,p.2)::kn) (putD acc (.inr p.1)<|.int p.2) h2 F;show Cons (kS (putD acc (.inr p.1)<|.int p.2)<|l.map knK) _;intro q G;refine ih q ?_;rw[zd7]at G;rcases List.mem_cons.mp G with z|z
  .rw[z];exact za1 _<|zar ..
  .rcases List.mem_append.mp z with z|z
   .exact zbq _ z
   .exact za1 _<|zaq _ z
theorem BK:∀(l:List<|Key×D) (acc:List<|Key×D),(kS acc l).length<=acc.length+l.length
 |[],acc=>by show acc.length<=_;simp_all
 |p::l,acc=>by
  have:=BK l<|putD acc p.1 p.2;have:=tQ (d:=acc) (k:=p.1) (e:=p.2);show(kS (putD acc p.1 p.2) l).length<=_;rw[zaA];lia
def C3(F:(l.map (·.1)).Nodup)(J:l.length<=100):∃d,fV [.lst<|l.map bQ]=bx (.dK d)/\fV [.tup<|l.map bQ]=bx (.dK d)/\Cons d l/\d.length<=100:=by
 have G:aZ (l.map bQ).length=cf:=decide_eq_true (by rw[zak];lia);have q:fV [.lst<|l.map bQ]=(if aZ (l.map bQ).length=cf then(ES<|l.map bQ).map λkvs=>D.dK (kS [] kvs)else cb):=rfl;have z:fV [.tup<|l.map bQ]=(if aZ (l.map bQ).length=cf then(ES<|l.map bQ).map λkvs=>D.dK (kS [] kvs)else cb):=rfl;rw[ck G,F6,aB]at q z;have c:=vZ l [] [] (λ_ h=>nomatch h) (by simpa using F);rw[zbi]at c;have:=BK (l.map knK) [];simp[-zad,-zac,aA,aB]at this;exact⟨_,q,z,c,by lia⟩
theorem eqN.lst{n:Nat}{l:List D}(h:∀d∈l,eqN n d):eqN (n+1)<|.lst l:=by
 obtain⟨xs,e,a,b⟩:=eqN.list h;refine⟨.lst xs,?_,a,?_⟩
 .rw[i8,e];rfl
 .show My.uN xs+1<=n+1
  lia
def names8(ns:List Int):∃nms:List Str,nms.length=8/\nms.Nodup/\bD (aS 0) fN (aR b7<|aC (aR bW<|aC (aD 1)<|aC (eC<|.int 23) aY)<|aC (aD 0) aY) (aQ 0 1 8) [cb,bx<|.lst<|ns.map .int]=bx (nms.map .str):=by
 obtain⟨f,W⟩:=dO ns;have q:=(W 23 (by decide)<|by decide).1;obtain⟨nm,e,inj⟩:=Q2<|f 23;have ed:=jT (K:=8) (f:=aR b7<|aC (aR bW<|aC (aD 1)<|aC (eC<|.int 23) aY)<|aC (aD 0) aY) (rest:=[bx<|.lst<|ns.map .int]) (F:=λi=>.str<|nm i) (λi Y i1=>by simp_all[q,e i Y<|by lia]) (zas 8) cb λk U=>List.mem_range.mp U
 have er:aQ 0 1 8=(zas 8).map λ(k:Nat)=>D.int (k:Int):=by
  rw[fP,zav];rfl
 refine⟨(zas 8).map λ(k:Nat)=>nm (k:Int),by simp_all,?_,?_⟩
 .refine List.nodup_iff_pairwise_ne.mpr ?_
  rw[zeH];refine List.Pairwise.imp_of_mem ?_<|List.nodup_range (n:=8);intro a b J N G z;have a1:=List.mem_range.mp J;have b1:=List.mem_range.mp N;have:=inj (a:Int) (b:Int) (by lia) (by lia) z;exact G<|by lia
 .rw[er,zav]
  exact ed
def zC(d:List<|Key×D):gU:=λx=>match e8 d (.inr x:Key)with
 |some (.int j)=>j
 |_=>0
def qac(h:Cons d kn):EC (zC d) kn:=λp q=>by unfold zC;rw[h p q]
def xP(B:OkB C):∃at_,t5 CA gA gQ cS (a7 C)=bx at_/\AtD C at_:=by
 obtain⟨q,L2,e,ok⟩:=SR B;exact⟨_,e,q,L2,rfl,ok⟩
def X0(B:OkB C)(J:U.length<=8)(hd:fV [Hd]=bx (.dK d))(q:size g<=16)(w:WI C U kn g d (zC d) k):nV [a7 C,Hd,pt g,.int k,.int<|cU C g (zC d) k]=bx (rd g):=by
 obtain⟨at_,z,A⟩:=xP B;have F:=yY C 16 (pa g) (by rw[cT];exact q) (by rw[cT];lia);have G:k7 [at_,dX C<|pa g,.dK d,.int k,.int<|cU C g (zC d) k]=bx (rd g):=O5 B J A 17 g kn d (zC d) k (by lia) q w;have N:=(w.num B).1;rw[fZ];refine aL ?_;unfold OW;generalize dX C (pa g)=nd at *;generalize rd g=rg at *;generalize cU C g (zC d) k=n at *;have h0:¬ n<0:=by lia
 simp_all[aH,eNew,z,F,G,hd,h0]
def BF(B:OkB C)(hU:U.length<=8)(hd:fV [Hd]=bx (.dK d))(q:psz p<=16)(w:PI' C U p d e k):tG [a7 C,Hd,bJ p]=bx (.lst<|(zas C.kinds.length).map λ(j:Nat)=>.int<|nI<|aU C p e (j:Int)):=by
 obtain⟨at_,W,A⟩:=xP B;have k6:=B.k6;have e2:=yY C 16 p q (by lia);have e3:∀i:Int,0<=i->i<(C.kinds.length:Int)->b9 [at_,dX C p,.dK d,.int i]=bx (memD<|aU C p e i):=λi J G=>BV B hU A 16 p d e i q q ⟨w.ok,J,G,w.hd,w.he,w.dl⟩
 generalize dX C p=nd at *;have ed:=jT (K:=C.kinds.length) (f:=aR cK<|aC (aR b9<|aC (aD 1)<|aC (aD 2)<|aC (aR fV<|aC (aD 3) aY)<|aC (aD 0) aY) aY) (rest:=[bx at_,bx nd,bx Hd]) (F:=λi=>.int<|nI<|aU C p e i) (λi J G=>by
  have n:=fK<|aU C p e i;simp_all[hd,e3 i J G,n]) (zas C.kinds.length) cb λk Y=>List.mem_range.mp Y
 have er:aQ 0 1 C.kinds.length=(zas C.kinds.length).map λ(k:Nat)=>D.int (k:Int):=by
  rw[fP,zav];rfl
 have N:bY [.int (C.kinds.length:Int)]=bx (aQ 0 1 C.kinds.length):=cF (by lia);have z:aZ C.kinds.length=cf:=decide_eq_true (by lia);rw[er]at N;have rf:∀ {n:Nat} {f:Sv} {ds:List D} {d:D},f (aH n ds)=bx (.rt d)->P6 n f ds=bx d:=λ{n f ds d} h=>by unfold P6;rw[h];rfl
 have sn:∀ {f g:Sv} {ρ ρ':cA},f ρ=bx (.nx ρ')->P5 f g ρ=g ρ':=λ{f g ρ ρ'} h=>by unfold P5;rw[h];rfl
 refine rf ?_;unfold zY;rw[sn<|aM (d:=at_)<|by simp_all[aH,eNew,W]];rw[sn<|aM (d:=nd)<|by simp_all[aH,eNew,e2]];simp_all[-zav,aH,B3,N,hW,z,ed]
def VG{g2:Xv}{f:Sv}{ρ ρ':cA}(h:f ρ=bx (.nx ρ')):EW qj f g2 ρ=g2 ρ':=by unfold EW qj;rw[h];rfl
def ZL{f:Lv}{g:Gv}{b:Sv}{g2:Xv}{ρ:cA}{items:List D}{out:Option Str}(q:f ρ=bx items)(I:Nat->cA->Prop)(h0:I 0 ρ)(hs:∀i x ρ,items[i]?=bx x->I i ρ->∃ρ',turn g b x ρ=bx (.nx ρ')/\I (i+1) ρ')(k:∀ρ',I items.length ρ'->g2 ρ'=out):EW qj (y9 f g b) g2 ρ=out:=by
 obtain⟨ρ',e,h⟩:=t6 (g:=g) (b:=b) I h0 hs;rw[VG<|by rw[q_for,q];exact e];exact k ρ' h
def w6{C:Bk}(B:OkB C){U:List Str}(W:U.length<=8){at_:D}(A:AtD C at_){p:Pa}{d:List (Key×D)}{e:gU}{k n:Int}(ps:psz p<=16)(I:PI' C U p d e k)(G:nI (aU C p e k)<=n):nO [at_,dX C p,.dK d,.int k,.int n]=bx ("NoReading" : Str):=by
 have wc:=nQ B p;have hb:=A.book;have np:=kF C p;have J:∀c∈bP C p,eS [at_,dX C p,.dK d,.int k,c]=bx (memD<|vC C p d e k c):=λc q=>DZ B A I q ps λs _ N hz=>BV B W A 16 s.1 s.2.1 s.2.2.1 s.2.2.2 (by lia) (by lia) N
 rw[<- GY C p d e k]at G;have nn:=EA C p d e k;generalize vC C p d e k=f at *;generalize bP C p=chs at *;generalize dX C p=nd at *;unfold nO K5;unfold vL;rw[VG<|aM (d:=.int n) rfl];have Y:fM (aR dW<|aC (dH CA "book"<|aD 0)<|aC (dH CN "part"<|aD 1) aY) ((aH 8 [at_,nd,.dK d,.int k,.int n]).set 5<|bx<|.int n)=bx chs:=by ac_rfl
 refine ZL (items:=chs) Y (λi ρ=>∃z F,ρ=[bx at_,bx nd,bx<|.dK d,bx<|.int k,bx<|.int n,bx<|.int<|n-b6 chs f i,z,F]) ⟨cb,cb,by rw[show b6 chs f 0=0 from rfl,Int.sub_zero];rfl⟩ ?_ λ_ _=>rfl
 .rintro i c ρ q ⟨z,F,rfl⟩
  have ec:=J c<|zax q;have en:=fK<|f c;have s:=mR (f:=f) q;have m:=sN nn (l:=chs) (i:=i+1) (j:=chs.length) (by have:=(List.getElem?_eq_some_iff.mp q).1;lia);have lt:¬ n-b6 chs f i<nI (f c):=by lia
  refine⟨[bx at_,bx nd,bx<|.dK d,bx<|.int k,bx<|.int n,bx<|.int<|n-b6 chs f (i+1),bx c,bx<|.int<|nI<|f c],?_,_,_,rfl⟩;rw[s,show n-(b6 chs f i+nI (f c))=n-b6 chs f i-nI (f c) by lia];generalize n-b6 chs f i=x at lt ⊢
  ac_rfl
def KG{C:Bk}(B:OkB C){U:List Str}(N:U.length<=8){Hd:D}{d:List (Key×D)}(hd:fV [Hd]=bx (.dK d)){p:Pa}{e:gU}{k n:Int}(q:psz p<=16)(I:PI' C U p d e k)(F:n<0\/nI (aU C p e k)<=n):yT [a7 C,Hd,bJ p,.int k,.int n]=bx ("NoReading" : Str):=by
 obtain⟨at_,z,A⟩:=xP B;have G:=yY C 16 p q (by lia);unfold yT K5;unfold N4;by_cases h0:n<0
 .simp_all[aH,EW,xIf,xIs,h0]
 .have J:=w6 B N A q I (F.resolve_left h0)
  generalize dX C p=nd at *;simp_all[aH,EW,xIf,xIs,qj,VV,eNew,h0,z,G,J,hd]
def u5{a b c d e:D}(h:yT [a,b,c,d,e]=bx ("NoReading" : Str)):gO [a,b,c,d,e]=bx (.bl cf):=by
 refine aL ?_;unfold kN;simp_all[aH,VI,h,BX];rfl
def FG{l:List D}(o:i5 (.lst l)=cf):kI (.lst l) (.lst l)=bx (.bl cf):=by
 unfold kI IG;rw[ck<|.inr ⟨rfl,rfl,o,o⟩];simp_all
def TZ{l:List D}(o:i5 (.lst l)=cf):wX (.lst l) (.lst l)=bx (.bl ci):=by
 unfold wX IG;rw[ck<|.inr ⟨rfl,rfl,o,o⟩];simp_all
def VS(l:List<|Str×Int):i5 (.lst<|l.map bQ)=cf:=
 (eqN.lst (n:=1) (l:=l.map bQ) λd hd => by
  obtain⟨p,_,rfl⟩:=List.mem_map.mp hd;exact eqN.tup (n:=0)<|qb4 .str<|all1 .int).ok (by decide)
def SU(n:Int):oJ [.int n]=bx (.bl cf):=aL<|by ac_rfl
def WI.si(B:OkB C)(w:WI C U kn g d e k):SI C U kn (pa g) d e k:=⟨w.pi B,paw w.wf w.nf,λx hx=>by
 obtain⟨j,q⟩:=D3 w.wf x hx;rw[w.ec _ q];exact q⟩
def MV(B:OkB C)(w:WI C U kn g d e k0)(q:0<=k/\k<(C.kinds.length:Int))(F:0<=n)(z:n<nI (aU C (pa g) e k)):∃g',pa g'=pa g/\size g'=size g/\WI C U kn g' d e k/\cU C g' e k=n:=by
 have s:=w.si B;obtain⟨g',h1,h2,G⟩:=qbh B (psz<|pa g) (pa g) kn d e k n (zaj _) ⟨⟨s.pi.ok,q.1,q.2,s.pi.hd,s.pi.he,s.pi.dl⟩,s.pw,s.nk⟩ F z;have sz:size g'=size g:=by rw[<- cT,h1,cT]
 exact⟨g',h1,sz,⟨h2,PaW.nf (by rw[h1];exact s.pw),w.ok,w.ec,w.cd,w.un,by rw[sz];exact w.dl⟩,G⟩
def LD{n:Nat}{F:Int->D}{k:Int}(k0:0<=k)(k1:k<(n:Int)):gC ((zas n).map λ(j:Nat)=>F (j:Int)) k=bx (F k):=by
 have q:((k.toNat:Nat):Int)=k:=by lia
 have:((zas n).map λ(j:Nat)=>F (j:Int))[k.toNat]?=bx (F k):=by
  rw[zaD,zdf<|by lia,zac,q]
 have:=bS this
 rwa [q]at this
def qay(ns:List Int)(hn:ns.length<=63):bE 15 P4 [.lst<|ns.map .int]=bx (.bl cf):=by
 obtain⟨C,hC,B⟩:=DR ns;obtain⟨nms,h8,ad,en⟩:=names8 ns;obtain⟨ps,ep,P,hp,J⟩:=zP (ns:=ns) B h8;obtain⟨g,k,r,eg,G⟩:=zN hn B h8 ad P hp J;obtain⟨v,ev,v0⟩:=wY ns;have k6:=B.k6;have k1:=B.k1;have gs:=G.sz;have ae:=G.k0;have ab:=G.k1;have r8:bY [.int 8]=bx (aQ 0 1 8):=cF (n:=8) (by decide);have z8:aZ 8=cf:=rfl;have ap:(ps.map (·.1)).Nodup:=by rw[J];exact(zdC ..).nodup ad
 obtain⟨d,dl,dt,cd,ld⟩:=C3 ap (by lia);have w:WI C nms ps g d (zC d) k:=⟨G.wf,G.nf,P,qac cd,cd,λp hp=>(zdC ..).subset<|J ▸ List.mem_map.mpr ⟨p,hp,rfl⟩,by lia⟩;have hU:nms.length<=8:=by lia
 have pz:psz (pa g)<=16:=by rw[cT];lia
 have Y:=w.pi B;have ct:=BF B hU dl pz Y;have aq:=BF B hU dt pz Y;have nn:=w.num B;have tk:∀i n,(0<=i/\i<(C.kinds.length:Int))->0<=n->n<nI (aU C (pa g) (zC d) i)->∃l,nV [a7 C,.lst<|ps.map bQ,pt g,.int i,.int n]=bx (.tup l):=λi n hi n0 n1=>by
  obtain⟨g',a,b,c,e⟩:=MV B w hi n0 n1;have t:=X0 B hU dl (by lia) c;rw[e,fZ,a,<- fZ]at t;obtain⟨l,hl⟩:∃l,rd g'=.tup l:=by cases g' <;> exact⟨_,rfl⟩
  exact⟨l,hl ▸ t⟩
 have rf:∀i n,(0<=i/\i<(C.kinds.length:Int))->(n<0\/nI (aU C (pa g) (zC d) i)<=n)->gO [a7 C,.lst<|ps.map bQ,pt g,.int i,.int n]=bx (.bl cf):=λi n hi h=>by
  rw[fZ];exact u5<|KG B hU dl pz ⟨Y.ok,hi.1,hi.2,Y.hd,Y.he,Y.dl⟩ h
 rw[<- fZ]at ct aq;have s0:∀i:Int,0<=nI (aU C (pa g) (zC d) i):=λi=>(nB B _ (pa g) (zaj _) _ _).1
 have ac:∀i:Int,0<=i->i<(C.kinds.length:Int)->gC ((zas C.kinds.length).map λ(j:Nat)=>D.int<|nI<|aU C (pa g) (zC d) (j:Int)) i=bx (.int<|nI<|aU C (pa g) (zC d) i):=λi i0 i1=>LD (F:=λi=>.int<|nI<|aU C (pa g) (zC d) i) i0 i1
 have cl:((zas C.kinds.length).map λ(j:Nat)=>D.int<|nI<|aU C (pa g) (zC d) (j:Int)).length=C.kinds.length:=by simp_all
 have ec:=FG ((eqN.lst (n:=1) (l:=(zas C.kinds.length).map λ(j:Nat)=>D.int<|nI<|aU C (pa g) (zC d) (j:Int)) λd hd=>by
  obtain⟨p,_,rfl⟩:=List.mem_map.mp hd;exact eqN.int).ok<|by decide)
 generalize ((zas C.kinds.length).map λ(j:Nat)=>D.int<|nI<|aU C (pa g) (zC d) (j:Int))=CL at *;generalize aU C (pa g) (zC d)=S at *;have nk:=TZ<|VS ps;have qk:=FG<|VS ps;have ml:gB [.lst<|C.kinds.map D.str]=bx (.int (C.kinds.length:Int)):=by simp_all
 refine aL ?_;unfold P4;rw[aE<|aM (d:=a7 C)<|by ac_rfl];rw[aE<|aM (d:=.lst<|nms.map .str)<|by ac_rfl];rw[aE<|aM (d:=.lst<|ps.map bQ)<|by ac_rfl];rw[aE<|aM (d:=bC C g k r)<|by ac_rfl];generalize ps.map bQ=pl at *;rw[aE<|aM (d:=pt g)<|by ac_rfl];have bi:=B4 (C:=C) (g:=g) (k:=k) (r:=r);generalize bC C g k r=sd at *;generalize pt g=pg at *;rw[aE<|aM (d:=.int (C.kinds.length:Int))<|by simp_all[aH,B3]];rw[aE<|aM (d:=.lst pl)<|by ac_rfl];rw[aE (ρ':=[bx<|.lst<|ns.map .int,bx<|a7 C,bx<|.lst<|nms.map .str,bx<|.lst pl,bx sd,bx pg,bx<|.int (C.kinds.length:Int),bx<|.lst pl,bx<|.lst CL,cb,cb,cb,cb,cb,cb])<|by ac_rfl];have ce:wX (.int (CL.length:Int)) (.int (C.kinds.length:Int))=bx (.bl ci):=by simp_all[cl]
 rw[aE<|QK (f:=B5<|eC<|.bl ci) (g:=LA) (c:=_)<|by ac_rfl];have rk:bY [.int (C.kinds.length:Int)]=bx (aQ 0 1 C.kinds.length):=cF (by lia);refine iP (items:=aQ 0 1 C.kinds.length) (by ac_rfl) (λi ρ=>∃W,ρ=[bx<|.lst<|ns.map .int,bx<|a7 C,bx<|.lst<|nms.map .str,bx<|.lst pl,bx sd,bx pg,bx<|.int (C.kinds.length:Int),bx<|.lst pl,bx<|.lst CL,W,cb,cb,cb,cb,cb]) ⟨cb,rfl⟩ ?_ ?_
 .rintro i x ρ hx ⟨W,rfl⟩
  obtain⟨bf,rfl⟩:=bV hx;rw[show(0:Int)+(i:Int)*1=(i:Int) by lia];have a1:=ac (i:Int) (by lia) (by lia);have s1:=s0 (i:Int);generalize nI (S (i:Int))=y at a1 s1;refine⟨[bx<|.lst<|ns.map .int,bx<|a7 C,bx<|.lst<|nms.map .str,bx<|.lst pl,bx sd,bx pg,bx<|.int (C.kinds.length:Int),bx<|.lst pl,bx<|.lst CL,bx<|.int (i:Int),cb,cb,cb,cb,cb],?_,_,rfl⟩;have wh:=SU y;have d3:dLt (.int y) (.int 0)=bx (.bl ci):=by simp_all[show ¬ y<0 by lia]
  ac_rfl
 .rintro ρ ⟨W,rfl⟩
  have a1:=ac k ae ab;have d1:kI (.int<|nI<|S k) (.int 0)=bx (.bl ci):=by simp_all[show ¬ nI (S k)=0 by lia]
  rw[aE<|QK (f:=B5<|eC<|.bl ci) (g:=LA) (c:=_)<|by ac_rfl];clear a1 d1 nn;rw[aE<|aM (d:=.int v)<|by ac_rfl];have kp:(0:Int)<(C.kinds.length:Int):=by lia
  have dk:dI (.int v) (.int (C.kinds.length:Int))=bx (.int<|v%(C.kinds.length:Int)):=bO kp;have m0:0<=v%(C.kinds.length:Int):=zat _ (by lia);have m1:v%(C.kinds.length:Int)<(C.kinds.length:Int):=zau _ kp;have d7:HM (.int v) (.int 7)=bx (.int<|v/7):=EK (by decide) (by decide +kernel);have d2:dI (.int<|v/7) (.int 2)=bx (.int<|v/7%2):=bO (by decide);generalize v%(C.kinds.length:Int)=kd at dk m0 m1;obtain⟨q,N,ek⟩:∃q:Int,(0<=q/\q<(C.kinds.length:Int))/\aJ (.lst [.int k,.int kd]) (.int<|v/7%2)=bx (.int q):=by
   rcases(by lia:v/7%2=0\/v/7%2=1)with h|h <;> rw[h]
   .exact⟨k,⟨ae,ab⟩,rfl⟩
   .exact⟨kd,⟨m0,m1⟩,rfl⟩
  rw[aE<|aM (d:=.int q)<|by ac_rfl];have a3:=ac q N.1 N.2;have s3:=s0 q;have U:=λn=>tk q n N
  have r1:=rf q (nI<|S q) N<|.inr<|zdp _;have r2:=rf q (nI (S q)+v) N (.inr<|by lia);have r3:=rf q (-1) N (.inl<|by decide);have r4:=rf q (-1-v) N (.inl<|by lia);clear rf tk ac s0 d7 d2 ek dk;generalize nI (S q)=sz at *;rw[aE<|aM (d:=.int sz)<|by ac_rfl];have ak:HM (.int v) (.int 14)=bx (.int<|v/14):=EK (by decide) (by decide +kernel);have t1:0<sz->∃l,nV [a7 C,.lst pl,pg,.int q,.int<|v/14%sz]=bx (.tup l):=λh=>U _ (zat _<|by lia)<|zau _ h
  have t2:0<sz->∃l,nV [a7 C,.lst pl,pg,.int q,.int<|sz-1]=bx (.tup l):=λh=>U _ (by lia)<|by lia
  rw[aE<|QK (f:=B5<|eC<|.bl ci) (g:=LA) (c:=_) (by
   by_cases z:0<sz
   .obtain⟨l,t1⟩:=t1 z
    have d1:uR (.int sz) (.int 0)=bx (.bl cf):=by simp_all[z]
    have dm:dI (.int<|v/14) (.int sz)=bx (.int<|v/14%sz):=bO z;simp_all[ak,dm,t1,z]
   .have d1:uR (.int sz) (.int 0)=bx (.bl ci):=by simp_all[z]
    ac_rfl)]
  rw[aE<|QK (f:=B5<|eC<|.bl ci) (g:=LA) (c:=_) (by
   by_cases z:0<sz
   .obtain⟨l,t2⟩:=t2 z
    simp_all[t2,z]
   .have d1:uR (.int sz) (.int 0)=bx (.bl ci):=by simp_all[z]
    ac_rfl)]
  clear t1 t2 U;rw[aE (ρ':=[bx<|.lst<|ns.map .int,bx<|a7 C,bx<|.lst<|nms.map .str,bx<|.lst pl,bx sd,bx pg,bx<|.int (C.kinds.length:Int),bx<|.lst pl,bx<|.lst CL,W,bx<|.int v,bx<|.int q,bx<|.int sz,bx<|.int<|-1-v,cb])<|by ac_rfl];rw[aE (ρ':=[bx<|.lst<|ns.map .int,bx<|a7 C,bx<|.lst<|nms.map .str,bx<|.lst pl,bx sd,bx pg,bx<|.int (C.kinds.length:Int),bx<|.lst pl,bx<|.lst CL,W,bx<|.int v,bx<|.int q,bx<|.int sz,bx<|.int<|-1-v,bx<|.lst CL])<|by simp_all];have zl:aZ CL.length=cf:=decide_eq_true (by lia);rw[aE (ρ':=[bx<|.lst<|ns.map .int,bx<|a7 C,bx<|.lst<|nms.map .str,bx<|.lst pl,bx sd,bx pg,bx<|.int (C.kinds.length:Int),bx<|.lst pl,bx<|.lst<|CL++[.int 0],W,bx<|.int v,bx<|.int q,bx<|.int sz,bx<|.int<|-1-v,bx<|.lst CL])<|by ac_rfl];have pp:kJ (.lst<|CL++[D.int 0]) (.int 0) (.int<|-1)=bx (.lst<|(CL++[D.int 0]).set 0<|.int<|-1):=by
   have:K8 (CL++[D.int 0]).length 0=bx 0:=by
    unfold K8;simp_all
   show(K8 (CL++[D.int 0]).length 0).map _=_;rw[this];rfl
  generalize (CL++[D.int 0]).set 0 (.int<|-1)=X8 at pp;rw[aE (ρ':=[bx<|.lst<|ns.map .int,bx<|a7 C,bx<|.lst<|nms.map .str,bx<|.lst pl,bx sd,bx pg,bx<|.int (C.kinds.length:Int),bx<|.lst pl,bx<|.lst X8,W,bx<|.int v,bx<|.int q,bx<|.int sz,bx<|.int<|-1-v,bx<|.lst CL])<|by ac_rfl]
  ac_rfl
def qcy:Bds top tab:=by
 unfold tab
 repeat (refine Bds.cons ?_ ?_;· (repeat intro _);rfl)
 exact Bds.nil
def XW{l:zez}{w:World}{K:zae}{h:Heap}{mg:Str->Option Value}{fa:Addr}{k:Nat}(X:K.In h)(G:h.Ns zaK mg)(ai:mg "law" = bx (.ref fa))(D:Des K top tab)(B:Nos K blt)(J:Gis K gis)
  {f0:Addr} {ag aa:Option Addr} {af:Array (Option Value)} {aj ad ab ae Y ac:Value} (a0:zbK K zaK "law" = bx (bx<|.ref f0)) (l0:K.lookup f0=bx ⟨aj,ag,.func<|zbl "law" "law" (eA s_law) (bF s_law) (aF s_law) .none ad ab ae aa Y ac,af⟩) (c0:zcr K Y "law" = cf) (k0:zbC K (.ref f0)=cf)
  {z U F N q:Addr} (cl:My.Ces K [("ChiefError",z),("NoForm",U),("NoHead",F),("NoKind",N),("NoReading",q)])
  (exNoReading:My.Exq K q) (ybNoReading:za3 K (.ref z) (.type "BaseException")=bx cf) (syNoReading:za3 K (.ref q) (.ref z)=bx cf) (suNoReading:My.Sus K q [("NoForm",U),("NoHead",F),("NoKind",N)])
  (oqNode:ObQ K "Node" "Node.__init__" (inClass (top 19) 0) CN ["part", "below", "names", "found"])
  (oqAtlas:ObQ K "Atlas" "Atlas.__init__" (inClass (top 21) 0) CA ["book", "routes", "spans"])
  (ok:∀base:Heap,K.In base->base.Ns zaK mg->Txt K mg->My.BodyOk l.prog w K mg base "law" s_law ["script", "tome", "names", "pairs", "state", "part", "many", "handed", "found", "k", "n", "kind", "size", "wrong", "kept"] k (My.BU K)) :
  ∃fd:zbd,(∀(s:zab) (v:Value),BindsTo s fd ⟨[v],[]⟩ [("script",v)])/\∀base:Heap,K.In base->base.Ns zaK mg->FnOk l.prog w K mg base uS (k+1) fa fd ["script"] (My.BU K):=by
 have e:=ai.symm.trans<|zcz X G a0;cases e;have F0:=D6 (st:=s_law) l0 c0 k0;have T:Txt K mg:=⟨Des.d X G D qcy,λx hx=>PySem.W.mg_none_of X G<|B x hx,Gis.d X G J,My.XJ X G cl exNoReading ybNoReading syNoReading suNoReading (by simp) (by simp)<|by simp,oqNode.t X G λ_ _ _ _ _ _ _ _=>rfl,oqAtlas.t X G λ_ _ _ _ _ _ _ _=>rfl⟩;refine⟨zbl "law" "law" (eA s_law) (bF s_law) (aF s_law) .none ad ab ae aa Y ac,λs v=>.of_eq rfl,λbase kb nb=>?_⟩;exact(ok base kb nb T).fn F0 sc_law λvs H Q E h=>by obtain⟨a,ns,e,_⟩:=h;rw[e];rfl
end Law
set_option genInjectivity false in
structure PySem.W.Fast:Prop where(tw14604988752844931256 tw11782480379965497832 tw11666807452300205331 tw11737970000544069627 tw9392921777059853636 tw11976605142355315372 tw7278462100558402664 tw6459609701065838922 tw310495995257422348 tw1059108762937996175 tw14127505583659897992 tw5991466338427192024 tw7217294103016469066 tw15825027100791286754 tw7742430042265595812 tw15917631933315447592 tw10735117842333757344 tw7265755266945492692 tw8011601052118738112 tw10885316021014068941 tw9366720336341361296 tw12319512199047891083 tw7319328790411773448 tw11449105358948395489 tw17254696524778784925 tw18434159144803793100 tw10059579215048321953 tw10177660883795401308 tw10904862157829786051 tw891941328620593555 tw12494769675643577770 tw1153687345798459581 tw14155261219225462942 tw2194269653840127615 tw11439360437736966591 tw6652707650713420791 tw3037873749102955590 tw11248098323185555251 tw16497480538437686615 tw2549002684140779836 tw18022475650811333899 tw1683457679702193431 tw42288823994264669 tw5487583650397721003 tw5342867999613224413 tw17938386664607801940 tw18213888964766943233 tw8548130145789564533 tw9042573414314250863 tw11562712268162883029 tw14971179031247315916 tw6665102831957498057 tw2636489861213466765 tw7343681752627104003 tw5151132840687625007 tw8145525431459600962 tw5229204587167269108 tw11269184754588329224 tw6195505598914965290 tw3335941277544735869 tw12172894410742901700 tw8991867681615995408 tw17740019235144650382 tw12007667424770826954 tw12715093519776874511 tw16158889691365556362 tw17207138792672690173 tw8033390043252728557 tw2341971677995720105 tw16472378955946678228 tw2794892394202327432 tw13410484765729831824 tw14885299585535859862 tw16070369849346306811 tw13734263555550224747 tw8956531953756527692 tw14370145150227820560 tw16138636153602461536 tw13715724943269244424 tw94178616776226392 tw1058111924035526124 tw18372080475660048464 tw359312691511515985 tw1032351850719288746 tw15716153869145593661 tw15924835915949848588 tw10752742630091291736 tw17237238157529397056 tw5633137458398416838 tw15447110210064751098 tw10768948816518878839 tw6390494566689786056 tw3342076113922937628 tw15575527616501274248 tw18218893508478659608 tw1572611804598659466 tw2207850181199858291 tw15045705810766871569 tw12345976843619157987 tw9602628457659765668 tw4183135374444003362 tw17079482289684020322 tw10914977090824917592 tw6965625139254632896 tw10304286405523949804 tw8055598653718028814 tw18112299631451441782 tw8809656280547242521 tw17207550989570066140 tw8343044692942868993 tw4210330197030361931 tw987614286799639177 tw10062201744389294382 tw12257877785437516520 tw10818955567394402625 tw1080192493059095985 tw1338627928748581001 tw9995092717602763215 tw15178811826755481213 tw7178141961215318398 tw3210831400408004404 tw9663833092363166611 tw34660993333262960 tw868056269510441848 tw17783955120541187288 tw8896057180475102775 tw5060773775131247585 tw18073134657439593631 tw14460856422632101347 tw5332893157427735569 tw7853912826878808180 tw16705089612204309007 tw17066897551639356857 tw15661365583724193417 tw8512909483876675940 tw12538943843749071430 tw11072734837753418793 tw3228096497991627790 tw649809558367602276 tw15026604142977416463 tw17432979077122114008 tw16905535749276806575 tw14450016598960206960 tw16940230554523499761 tw1163086968355884523 tw3060979726320747054 tw12850996042504443358 tw15469804511092087446 tw14215604086090377884 tw7724652257750777180 tw290086339928188051 tw13197611386167147412 tw17009507045402791585 tw6186544427160149250 tw1806052795545400505 tw4054874719346484885 tw10645028850846646736 tw7973686511470017201 tw15246523554010628930 tw7540691097041889330 tw2227973689351682226 tw9803988877874013547 tw12136304055197643352 tw10734123960415014066 tw9372367016616579589 tw8130376862791843964 tw14359285560077801311 tw9682875792335252928 tw17021858524707968672 tw5452454403604549728 tw11520111538859681545 tw494247550236783236 tw6725152541439411667 tw2202297080374331079 tw3198023964270571948 tw12761742921783372681 tw2366359575755451304 tw15824952341935158217 tw8507495180191032330 tw4405429688837333065 tw6830158867553676273 tw2889728993020921177 tw10032866820163486815 tw1619816500265724490 tw7054667578633142676 tw18094295808224544296 tw14307841928699552708 tw15726957613956413927 tw9494792243407975545 tw17829489572158381731 tw3295195313676831369 tw4138683809875298030 tw5386324368981857284 tw13867373549491866819 tw17918239381240254967 tw16901611978590450214 tw15640866616649052197 tw5910381598108697595 tw3484917834383444566 tw7613045999362009375 tw17233313678128857102 tw11243195241721095949 tw220733522364210111 tw144607110034542873 tw9874405026823765661 tw1333186734423882989 tw16991993321387720366 tw15182626562778431474 tw2912557756246503061 tw14031464265065798351 tw5076939521651649830 tw14148703663005740569 tw5595989659003290917 tw14748573907803184042 tw17521140166475715092 tw7328984632159551991 tw14457726286900323324 tw4990646655800935513 tw8922521346366583088 tw16623617995402439061 tw5951724642893658070 tw7293274211351354953 tw14062158831221073173 tw1866263363412813944 tw16315776309480573222 tw11918442327634221586 tw10588141691247156919 tw10967536301074530315 tw14277298315033351487 tw14975713943971099346 tw18146371018218790122 tw17862543801421094087 tw6498155497981357103 tw486462206907763232 tw3645649061448013650 tw17057080884670905953 tw17285583076942389646 tw4547957133451317219 tw8048706833958559984 tw10988291337088837077 tw2677138427163231521 tw9210177939041305200 tw14671707248876238436 tw5639114920699703239 tw8257424380403668748 tw5526536357917623779 tw10282686234470296504 tw15669945273262597340 tw17154819700560699625 tw4977999928538041048 tw2817916922332411924 tw17108519117081382382 tw3563645394177837110 tw7659436125606907956 tw2963255987414348795 tw13785541446828797050 tw678097260667856663 tw8517872975549097220 tw10516922483709208308 tw16941267028196745575 tw6976504164002790565 tw8575260862775318536 tw3670448740228147793 tw15848327449114659383 tw3164124842550818153 tw1708364114985294121 tw9368906173223589750 tw17769402622328424515 tw4463245304304353138 tw1936520206695873871 tw7469569042848836331 tw7527057761190091697 tw15789045823977048953 tw15713002895167333673 tw11999873863840391387 tw11061756263204833640 tw13652067903212883610 tw15554171335992830567 tw8398426161595591693 tw2306538164431645822 tw4834522164003540408 tw537598927298021922 tw7336113752042150235 tw3854690459293693147 tw11591759625783912828 tw4635098797298222414 tw8502963777783258964 tw10520687016666812704 tw15894944406326359039 tw18033329036435987754 tw16894007755998142096 tw9091614028465692209 tw747097434866906367 tw16820454978434799912:True)
open PySem PySem.W PyProof.Rows
set_option maxRecDepth 100000 in
set_option maxHeartbeats 0 in
theorem PySem.Challenge.cw_chiefway_k44_counts_holds : PySem.Challenge.rw_chiefway_k44_counts.Holds := by
 w_on;o_law;k_head;(case hw=>w_witness2)
 k_fill
 refine My.walk (l:=PySem.Challenge.rw_chiefway_k44_counts) (k:=75) (by decide) rfl rfl (λw h Y=>PySem.W.kIn_of Y) ?F
 case F=>
  intro w mg N h KX G q;refine' Law.XW (k:=74) KX G q ?D ?B ?J ?a0 ?l0 ?c0 ?k0 ?cl ?exNoReading ?ybNoReading ?syNoReading ?suNoReading ?oqNode ?oqAtlas ?ok
  (case D=>unfold Law.tab;(repeat (apply P.Des.cons;(case a=>k_is);(case l=>k_is);(case c=>k_is);(case k=>k_is)));exact P.Des.nil)
  (case B=>unfold Law.blt;(repeat (apply P.Nos.cons;(case a=>k_is)));exact P.Nos.nil)
  (case J=>unfold Law.gis;(repeat (apply P.Gis.cons;(case a=>k_is)));exact P.Gis.nil)
  (case oqNode=>refine' P.obq ?a ?m1 ?m2 ?m3 ?m4 ?m5 ?m6 ?m7 ?m8 ?l ?c ?k ?n;(case a=>k_is);(case m1=>k_is);(case m2=>k_is);(case m3=>k_is);(case m4=>k_is);(case m5=>k_is);(case m6=>k_is);(case m7=>k_is);(case m8=>k_is);(case l=>k_is);(case c=>k_is);(case k=>k_is);(case n=>(repeat (apply P.Fas.cons;(case a=>k_is)));exact P.Fas.nil))
  (case oqAtlas=>refine' P.obq ?a ?m1 ?m2 ?m3 ?m4 ?m5 ?m6 ?m7 ?m8 ?l ?c ?k ?n;(case a=>k_is);(case m1=>k_is);(case m2=>k_is);(case m3=>k_is);(case m4=>k_is);(case m5=>k_is);(case m6=>k_is);(case m7=>k_is);(case m8=>k_is);(case l=>k_is);(case c=>k_is);(case k=>k_is);(case n=>(repeat (apply P.Fas.cons;(case a=>k_is)));exact P.Fas.nil))
  (case a0=>k_is)
  (case l0=>k_is)
  (case c0=>k_is)
  (case k0=>k_is)
  (case cl=>(repeat (apply My.Ces.cons;(case a=>k_is);(case c=>k_is);(case t=>k_is)));exact My.Ces.nil)
  (case exNoReading=>refine' My.Exq.mk ?e ?ga ?gt ?cl ?ob ?be ?gg ?tk ?sv;(case e=>k_exc);(case ga=>k_is);(case gt=>k_is);(case cl=>k_is);(case ob=>k_is);(case be=>k_is);(case gg=>k_is);(case tk=>k_is);(case sv=>k_is))
  (case ybNoReading=>k_is)
  (case syNoReading=>k_is)
  (case suNoReading=>(repeat (apply My.Sus.cons;(case b=>k_is);(case n=>rfl)));exact My.Sus.nil)
  (case ok=>exact λbase kb nb T=>P.WX (f:=Law.P4) (O':=[]) rfl (λN z A outer s H E U=>Law.VN.2 T N z A outer s H E U) Law.qay)
