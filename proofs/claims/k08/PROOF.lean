import PyProof.Rows.All
import Wide.All
import OpenK.AllK
import Wide.FinOn
import Lean
import PyProof.EqAt
import PyProof.EqKinds
import PyProof.TupleCall
import PySem.Challenge.RW_chiefway_k08_forms_put_in
set_option Elab.async false
set_option linter.all false
set_option maxRecDepth 100000
open PySem renaming wpAny_bind → zaa, wpAny_pure → zab, Program → zai, sizeLine → zal, starEach → zap, mainGlobals → zas, bootBuiltins → zaJ, compareOp → zaL, binaryOp → zaQ, wpAny_field → zaX, tupleKind → zaZ, wpAny_mono → za0, sysModules → za9, wpAny_holding → zba, wpAny_call_entry → zbd, wpAny_newObj_type → zbe, wpAny_rule → zbh, assignEach → zbl, DictEntry → zbo, wpAny_setField_rec → zbv, wpAny_seqItems → zbx, sizeLine_eq → zbz, sliceBounds → zbD, plainId_quiet → zbE, wpAny_callSpecial?_slot → zbJ, wpAny_dictEntries → zbM, codeAny_builtin → zbW, wpAny_pyIter_list → zb5, wpAny_dictEpoch → zb7, wpAny_updateSeq → zb9, wpAny_pyIter_tuple → zca, wpAny_typeNameOfWhole_keyiter → zcu, wpAny_typeNameOfWhole_itemiter → zcx
open PyProof.Rows renaming wpS_bind → zac, wpS_pure → zak, pendingOf → zaB, failedOf → zaR, wpS_mono → zaT, IntsAre → zaV, wpS_forRange → za8, wpS_modify → zbk, callWith_type1 → zcr, slot_tuple_getitem → zcs
open PySem.W renaming Frag → zad, nsIn → zaE, fnOf → zaG, keepIn → zaH, codeIn → zaM, mg_of → zaS, kia_one → zbn, mg_none_of → zbH
open Nat renaming le_refl → zae, zero_le → zau, ne_of_lt → zaA, ne_of_gt → zaO, lt_of_lt_of_le → zaP, lt_irrefl → zaU, le_trans → za6, zero_add → zbF, lt_of_le_of_lt → zbL, lt_trans → zbQ
open List renaming map_cons → zaf, length_map → zaq, size_toArray → zat, mem_cons_self → zav, mem_cons_of_mem → zaw, getElem?_map → zaz, getElem?_eq_getElem → zaC, map_map → zaD, length_cons → zaW, mem_of_getElem? → za4, range → zbc, find?_cons → zbf, append_assoc → zbi, take_length → zbq, mem_append_right → zbt, take_add_one → zbw, length_append → zbA, map_nil → zbB, length → zbI, getElem_inj → zbO, mem_cons → zbR, not_mem_nil → zbS, mem_append → zbY, perm_append_comm → zb0, filterMap_cons → zb4, extract_eq_drop_take → zce, take_append_drop → zcf, getElem?_append_left → zcj, pairwise_singleton → zco, drop_eq_getElem_cons → zcp
open PySem.Heap renaming lt_size → zag, get?_push_of_some → zah, get?_push_size → zay, SameBut → za3, get?_update_other → zbC, get?_update_self → zbK, size_push → zbV
open PySem.Value renaming ref → zaj, none → zar
open Option renaming map_some → zam, bind_some → zan
open Sum renaming inl → zao
open Bool renaming false_ne_true → zax, and_eq_true → zaY, false_eq_true → zbj
open Option.some renaming inj → zaF
open PySem.Obj renaming mapSeq → zaI
open Ne renaming symm → zaK
open Array renaming length_toList → zaN, toList_push → za7, toList_append → zbp, getElem?_toList → zb1, getD_eq_getD_getElem? → zcc, toList_extract → zcd
open PyProof.Rows.SortSt renaming mk' → za1
open PySem.PassesOwn renaming never → za2
open PySem.Str renaming ofString → za5
open Int renaming emod_nonneg → zbb, emod_lt_of_pos → zbg, mul_one → zbm, le_refl → zby, mul_assoc → zbG, pow_succ → zbU, toNat_natCast → zb8, toNat_of_nonneg → zci, emod_eq_zero_of_dvd → zcq
open PySem.Paired renaming length → zbr
open False renaming elim → zbs
open True renaming intro → zbu
open PySem.Heap.SameBut renaming update → zbN
open PySem.Builtin.Range renaming rangeSize → zbP, small → zcb
open PySem.NameKind renaming free → zbT
open PySem.Around renaming under_plainId → zbX
open List.Perm renaming append_left → zbZ
open PySem.Builtin.SmallTypes renaming nextOf → zb2, ownedTupleIsFree → zcz
open Classical renaming propDecidable → zb3, byContradiction → zcg
open ForInStep renaming yield → zb6
open PySem.F renaming plain_max_loop → zch, plain_extend_loop → zcm, slot_dict_keyiterator_next → zct, slot_dict_itemiterator_next → zcw
open PySem.Builtin.Dict renaming showsAll → zck
open PySem.Builtin.Dict_items renaming ownsTuple → zcl, pairFromOwner → zcv, ownedTupleIsFree → zcy
open PySem.Builtin.List renaming listExtendWith → zcn
namespace L2
open PySem PySem.Spec PyProof.Rows
noncomputable abbrev Key:=Sum Int Str
noncomputable def qhI:Key->Value->Bool
 | .inl k,v=>Value.isInt k v
 | .inr x,v=>Value.isStrOf x v
noncomputable def keyH(w:World):Key->Int
 | .inl k=>hashInt k
 | .inr x=>hashStr w x
theorem qah:∀ {k:Key} {v:Value},qhI k v=true->(∃ i t,k=zao i/\v=Value.int i t)\/(∃ x t,k=Sum.inr x/\v=Value.str x t)
 | .inl i,v,h=>by
  obtain⟨t,e⟩:=Value.isInt_shape (k:=i) (v:=v) h
  exact .inl ⟨i,t,rfl,e⟩
 | .inr x,v,h=>by
  obtain⟨t,e⟩:=Value.isStrOf_shape (x:=x) (v:=v) h
  exact .inr ⟨x,t,rfl,e⟩
theorem qiT(i:Int)(t:Tok):qhI (.inl i) (.int i t)=true:=by simp[qhI,Value.isInt]
theorem qjd(x:Str)(t:Tok):qhI (.inr x) (.str x t)=true:=by simp[qhI,Value.isStrOf]
theorem qmU(a b:Int):decide ((zao a:Key)=zao b)=(a == b):=by
 by_cases e:a=b
 ·subst e; simp
 ·have h:¬ (zao a:Key)=zao b:=fun q=>e (Sum.inl.inj q)
  rw[decide_eq_false h]
  exact(beq_eq_false_iff_ne.mpr e).symm
theorem qod(a b:Str):decide ((Sum.inr a:Key)=Sum.inr b)=decide (a=b):=by
 by_cases e:a=b
 ·subst e; simp
 ·have h:¬ (Sum.inr a:Key)=Sum.inr b:=fun q=>e (Sum.inr.inj q)
  rw[decide_eq_false h,decide_eq_false e]
theorem qmZ(a:Int)(b:Str):decide ((zao a:Key)=Sum.inr b)=false:=decide_eq_false (fun q=>nomatch q)
theorem qog(a:Str)(b:Int):decide ((Sum.inr a:Key)=zao b)=false:=decide_eq_false (fun q=>nomatch q)
noncomputable def qK(prog:zai)(w:World):PySem.KeyKind prog w Key where
 is:=qhI
 hash:=keyH w
 inj:=fun v a b ha hb=>by
  rcases qah ha with⟨i,t,rfl,rfl⟩ | ⟨x,t,rfl,rfl⟩
  ·rcases qah hb with⟨j,u,rfl,e⟩ | ⟨y,u,rfl,e⟩
   ·injection e with e1 _; rw[e1]
   ·exact nomatch e
  ·rcases qah hb with⟨j,u,rfl,e⟩ | ⟨y,u,rfl,e⟩
   ·exact nomatch e
   ·injection e with e1 _; rw[e1]
 byValue:=fun k v h=>by
  rcases qah h with⟨i,t,rfl,rfl⟩ | ⟨x,t,rfl,rfl⟩ <;> rfl
 pyHash:=fun hv h=>by
  rcases qah hv with⟨i,t,rfl,rfl⟩ | ⟨x,t,rfl,rfl⟩
  ·exact wpAny_pyHash_int h
  ·exact wpAny_pyHash_str h
 eqBool:=fun hu hv h=>by
  rcases qah hu with⟨i,t,rfl,rfl⟩ | ⟨x,t,rfl,rfl⟩
  ·rcases qah hv with⟨j,u,rfl,rfl⟩ | ⟨y,u,rfl,rfl⟩
   ·rw[qmU] at h; exact wpAny_eqBool_int h
   ·rw[qmZ] at h; exact SeqAt.EqAt.int_str i t y u _ _ _ _ h
  ·rcases qah hv with⟨j,u,rfl,rfl⟩ | ⟨y,u,rfl,rfl⟩
   ·rw[qog] at h; exact SeqAt.EqAt.str_int x t j u _ _ _ _ h
   ·rw[qod] at h; exact wpAny_eqBool_str h
 «strs»:=fun k x t v h=>by
  rcases qah h with⟨i,u,rfl,e⟩ | ⟨y,u,rfl,e⟩
  ·exact nomatch e
  ·injection e with e1 _
   subst e1
   cases v <;> rfl
theorem qfF(prog:zai)(w:World)(i:Int)(t:Tok):(qK prog w).is (.inl i) (.int i t)=true:=qiT i t
theorem qfE(prog:zai)(w:World)(x:Str)(t:Tok):(qK prog w).is (.inr x) (.str x t)=true:=qjd x t
inductive V where
 | non | bl (b:Bool) | int (i:Int) | str (x:Str) | byt (b:Array UInt8) | flt (b:UInt64) | ref (a:Addr) | ty (n:String)
 deriving DecidableEq
noncomputable def RelV:V->Value->Prop
 | .non,u=>u=zar
 | .bl b,u=>u=Value.bool b
 | .int i,u=>∃ t,u=Value.int i t
 | .str x,u=>∃ t,u=Value.str x t
 | .byt b,u=>∃ t,u=Value.bytes b t
 | .flt b,u=>∃ t,u=Value.float b t
 | .ref a,u=>u=zaj a
 | .ty n,u=>u=Value.type n
noncomputable abbrev Vals:List V->List Value->Prop:=Paired RelV
theorem Vals.length{xs:List V}{us:List Value}(r:Vals xs us):xs.length=us.length:=zbr r
theorem Vals.get:∀ {xs:List V} {us:List Value} {i:Nat} {x:V},Vals xs us->xs[i]?=some x->∃ u,us[i]?=some u/\RelV x u
 | _,_,_,_,.nil,e=>by simp at e
 | _,_,0,_,.cons r _,e=>by simp at e; subst e; exact⟨_,rfl,r⟩
 | _,_,i + 1,x,.cons _ t,e=>by
  obtain⟨u,h1,h2⟩:=Vals.get (i:=i) (x:=x) t (by simpa using e)
  exact⟨u,by simpa using h1,h2⟩
theorem Vals.set{x:V}{u:Value}(r:RelV x u):∀ {xs:List V} {us:List Value} (i:Nat),Vals xs us->Vals (xs.set i x) (us.set i u)
 | _,_,_,.nil=>.nil
 | _,_,0,.cons _ t=>.cons r t
 | _,_,i + 1,.cons q t=>.cons q (Vals.set r i t)
theorem Vals.append:∀ {xs ys:List V} {us ws:List Value},Vals xs us->Vals ys ws->Vals (xs ++ ys) (us ++ ws)
 | _,_,_,_,.nil,s=>s
 | _,_,_,_,.cons r t,s=>.cons r (Vals.append t s)
theorem Vals.take:∀ {xs:List V} {us:List Value} (n:Nat),Vals xs us->Vals (xs.take n) (us.take n)
 | _,_,0,_=>.nil
 | _,_,_ + 1,.nil=>.nil
 | _,_,n + 1,.cons r t=>.cons r (Vals.take n t)
theorem Vals.drop:∀ {xs:List V} {us:List Value} (n:Nat),Vals xs us->Vals (xs.drop n) (us.drop n)
 | _,_,0,r=>r
 | _,_,_ + 1,.nil=>.nil
 | _,_,n + 1,.cons _ t=>Vals.drop n t
theorem Vals.none_of:∀ {xs:List V} {us:List Value} {i:Nat},Vals xs us->xs[i]?=none->us[i]?=none:=fun {xs us i} r e=>by
 have h1:=r.length
 have h2:xs.length<=i:=List.getElem?_eq_none_iff.mp e
 exact List.getElem?_eq_none_iff.mpr (by omega)
noncomputable def RelO:Option V->Option Value->Prop
 | some v,some u=>RelV v u
 | none,none=>True
 | _,_=>False
noncomputable def KV{κ:Type}:List (κ × V)->List (κ × Value)->Prop:=Paired fun (p:κ × V) (q:κ × Value)=>p.1=q.1/\RelV p.2 q.2
noncomputable def kV:Key->V
 | .inl i=>.int i
 | .inr x=>.str x
inductive HO where
 /-- a list -/
 | lst (xs:List V)
 /-- a tuple (never changes) -/
 | tup (xs:List V)
 /-- a dict whose keys are ints and texts; one whose keys are tuples of ints and texts (the empty one is both) -/
 | dK (kvs:List (Key × V)) | dT (kvs:List (List Key × V))
 /-- a set of ints: its members, its size -/
 | set (S:Int->Bool) (n:Nat)
 /-- an instance of the class at C, its dict at dx, its attributes -/
 | ins (C dx:Addr) (fs:List (Str × V))
 /-- the dict of the instance at x -/
 | own (x:Addr)
 /-- the dict of an exception -/
 | xd (fs:List (Str × V))
 /-- a bound method, f of x -/
 | met (f x:Addr)
 /-- a range object lo, lo + 1, .. below hi -/
 | rng (lo hi:Int)
 /-- a thing that is known to the object (the script; a dict while a loop walks it): read, never written while it is so -/
 | frz (o:Obj) (u:HO)
 /-- a code object's table -/
 | tbl (ps:Array Value)
 /-- any other thing, by what is true of its one object (a def of one's own: SetO a S n := HO.ext fun h => ..) -/
 | ext (φ:Heap->Prop)
noncomputable abbrev Hp:=Addr->Option HO
noncomputable def upd(H:Hp)(a:Addr)(o:HO):Hp:=fun b=>if b=a then some o else H b
theorem qw{H:Hp}{a:Addr}{o:HO}:upd H a o a=some o:=by unfold upd; rw[if_pos rfl]
theorem qt{H:Hp}{a b:Addr}{o:HO}(h:b≠a):upd H a o b=H b:=by unfold upd; rw[if_neg h]
theorem qkj{H:Hp}{a b:Addr}{o u:HO}(h:H a=some o)(h':H b=some u)(d:o≠u):a≠b:=by
 intro e; subst e; rw[h] at h'; exact d (zaF h')
theorem qQ{H:Hp}{a b:Addr}{o:HO}(h:H a=some o)(h':H b=none):a≠b:=by
 intro e; subst e; rw[h] at h'; cases h'
section
variable (P:zai)(w:World)
noncomputable def IsTupN(h:Heap)(a:Addr)(items:Array Value):Prop:=∃ o,h.get? a=some o/\o.cls=.type "tuple" /\ ∃ n,o.data=.seq items n/\o.dict=none
theorem IsTupN.tup{h:Heap}{a:Addr}{items:Array Value}(x:IsTupN h a items):IsTup h a items:=let ⟨o,e,c,n,d,_⟩:=x; ⟨o,e,c,n,d⟩
theorem IsTupN.lt{h:Heap}{a:Addr}{items:Array Value}(x:IsTupN h a items):a < h.objs.size:=x.tup.lt
theorem IsTupN.new(h:Heap)(items:Array Value):IsTupN (h.push { cls:=.type "tuple",data:=.seq items }) h.objs.size items:=⟨_,zay _ rfl,rfl,_,rfl,rfl⟩
noncomputable def ObjOk(H:Hp)(h:Heap)(a:Addr):HO->Prop
 | .lst xs=>xs.length<=zal/\∃ (its:List Value) (n:Nat),Vals xs its/\h.get? a=some { cls:=.type "list",data:=.seq its.toArray n }
 | .tup xs=>xs.length<=zal/\∃ its:List Value,Vals xs its/\IsTupN h a its.toArray
 | .dK kvs=>kvs.length<=zal/\(a == za9)=false/\∃ vs,KV kvs vs/\h.DictOf (qK P w) a vs
 | .dT kvs=>kvs.length<=zal/\(a == za9)=false/\∃ xs:List (List Key × Addr × Value),
   Paired (fun (p:List Key × V) (q:List Key × Addr × Value)=>p.1=q.1/\H q.2.1=some (.tup (p.1.map kV))/\RelV p.2 q.2.2) kvs xs /\
   ∃ o es ep,h.get? a=some o/\o.ExactDict/\o.data=.dict es ep/\es.toList=xs.map (entryOfKey (zaZ (qK P w)))/\(xs.map (·.1)).Nodup
 | .set S n=>h.SetOf (intKind P w) a S n
 | .ins C dx fs=>H dx=some (.own a)/\fs.length<=1000/\dx≠a/\h.get? a=some (PySem.W.instObj C dx) /\
   ∃ mA,h.Ns1 dx mA/\(∀ f,RelO (fs.lookup f) (mA f))/\PySem.Within mA (fs.map (·.1))
 | .own _=>∃ o,h.get? a=some o
 | .xd fs=>∃ mA,h.Ns1 a mA/\∀ f,RelO (fs.lookup f) (mA f)
 | .rng lo hi=>∃ t u v,h.get? a=some { cls:=.type "range",data:=.fields #[.int lo t,.int hi u,.int 1 v] }
 | .frz o u=>h.get? a=some o/\ObjOk H h a u
 | .tbl ps=>h.get? a=some { cls:=.none,data:=.fields ps }
 | .met f x=>h.get? a=some (PySem.W.methodObj (.ref f) (.ref x))
 | .ext φ=>φ h/\(∃ o,h.get? a=some o)/\∀ h1 h2:Heap,φ h1->(∀ o,h1.get? a=some o->h2.get? a=some o)->φ h2
noncomputable def HOk(H:Hp)(h:Heap):Prop:=∀ a o,H a=some o->ObjOk P w H h a o
end
section
variable {P:zai}{w:World}{H H':Hp}{h h':Heap}{a:Addr}{o:HO}
theorem ObjOk.lt(x:ObjOk P w H h a o):a < h.objs.size:=by
 cases o with
 | lst xs=>obtain⟨_,_,_,_,e⟩:=x; exact zag e
 | tup xs=>obtain⟨_,_,_,p⟩:=x; exact p.lt
 | dK kvs=>obtain⟨_,_,_,_,o,_,_,e,_⟩:=x; exact zag e
 | dT kvs=>obtain⟨_,_,_,_,o,_,_,e,_⟩:=x; exact zag e
 | set S n=>obtain⟨o,_,_,_,e,_⟩:=x; exact zag e
 | ins C dx fs=>obtain⟨_,_,_,e,_⟩:=x; exact zag e
 | own y=>obtain⟨_,e⟩:=x; exact zag e
 | xd fs=>obtain⟨_,⟨_,_,_,e,_⟩,_⟩:=x; exact zag e
 | rng lo hi=>obtain⟨_,_,_,e⟩:=x; exact zag e
 | frz ob u=>obtain⟨e,_⟩:=x; exact zag e
 | tbl ps=>exact zag (show h.get? a=some _ from x)
 | met f y=>exact zag (show h.get? a=some _ from x)
 | ext φ=>obtain⟨_,⟨_,e⟩,_⟩:=x; exact zag e
theorem Paired.mapP{α β:Type}{F G:α->β->Prop}:∀ {l₁:List α} {l₂:List β},Paired F l₁ l₂->(∀ a b,F a b->G a b)->Paired G l₁ l₂
 | _,_,.nil,_=>.nil
 | _,_,.cons r t,f=>.cons (f _ _ r) (Paired.mapP t f)
theorem ObjOk.stay(x:ObjOk P w H h a o)(k:∀ b u,(b=a\/H b=some (.own a))->h.get? b=some u->h'.get? b=some u)
  (ho:∀ b,H b=some (.own a)->H' b=some (.own a)) (ht:∀ b xs,H b=some (.tup xs)->H' b=some (.tup xs)):ObjOk P w H' h' a o:=by
 induction o with
 | lst xs=>obtain⟨z,its,n,r,e⟩:=x; exact⟨z,its,n,r,k _ _ (.inl rfl) e⟩
 | tup xs=>obtain⟨z,its,r,ob,e,c⟩:=x; exact⟨z,its,r,ob,k _ _ (.inl rfl) e,c⟩
 | dK kvs=>obtain⟨z,y,vs,r,ob,es,ep,e,c⟩:=x; exact⟨z,y,vs,r,ob,es,ep,k _ _ (.inl rfl) e,c⟩
 | dT kvs=>
  obtain⟨z,y,xs,r,ob,es,ep,e,c⟩:=x
  exact⟨z,y,xs,Paired.mapP r fun p q z=>⟨z.1,ht _ _ z.2.1,z.2.2⟩,ob,es,ep,k _ _ (.inl rfl) e,c⟩
 | set S n=>obtain⟨ob,es,ep,t,e,c⟩:=x; exact⟨ob,es,ep,t,k _ _ (.inl rfl) e,c⟩
 | ins C dx fs=>
  obtain⟨d,z,ne,e,mA,⟨od,es,ep,e2,c⟩,r⟩:=x
  exact⟨ho _ d,z,ne,k _ _ (.inl rfl) e,mA,⟨od,es,ep,k _ _ (.inr d) e2,c⟩,r⟩
 | own y=>obtain⟨ob,e⟩:=x; exact⟨ob,k _ _ (.inl rfl) e⟩
 | xd fs=>obtain⟨mA,⟨od,es,ep,e,c⟩,r⟩:=x; exact⟨mA,⟨od,es,ep,k _ _ (.inl rfl) e,c⟩,r⟩
 | rng lo hi=>obtain⟨t,u,v,e⟩:=x; exact⟨t,u,v,k _ _ (.inl rfl) e⟩
 | frz ob u ih=>obtain⟨e,q⟩:=x; exact⟨k _ _ (.inl rfl) e,ih q⟩
 | tbl ps=>
  have e:h.get? a=some { cls:=.none,data:=.fields ps }:=x
  show h'.get? a=some { cls:=.none,data:=.fields ps }
  exact k a _ (.inl rfl) e
 | met f y=>
  have e:h.get? a=some (PySem.W.methodObj (.ref f) (.ref y)):=x
  show h'.get? a=some (PySem.W.methodObj (.ref f) (.ref y))
  exact k a _ (.inl rfl) e
 | ext φ=>obtain⟨p,⟨o,e⟩,st⟩:=x; exact⟨st _ _ p fun o q=>k _ _ (.inl rfl) q,⟨o,k _ _ (.inl rfl) e⟩,st⟩
theorem HOk.lt(x:HOk P w H h)(e:H a=some o):a < h.objs.size:=(x a o e).lt
theorem HOk.fresh(x:HOk P w H h)(e:h.objs.size<=a):H a=none:=by
 cases q:H a with
 | none=>rfl
 | some u=>exact absurd (zaP (x.lt q) e) (zaU _)
theorem HOk.kept(x:HOk P w H h)(k:∀ b u,h.get? b=some u->h'.get? b=some u):HOk P w H h':=fun a o e=>
 (x a o e).stay (fun b u _ q=>k b u q) (fun _ q=>q) fun _ _ q=>q
theorem HOk.laid(x:HOk P w H h)(k:∀ b u,h.get? b=some u->h'.get? b=some u)(hp:h.objs.size<=a)(new:ObjOk P w (upd H a o) h' a o):HOk P w (upd H a o) h':=fun b u e=>by
 have hn:=x.fresh hp
 by_cases hb:b=a
 ·subst hb; rw[qw] at e; cases e; exact new
 ·rw[qt hb] at e
  exact(x b u e).stay (fun c v _ q=>k c v q) (fun c q=>by rw[qt (qQ q hn)]; exact q) fun c xs q=>by rw[qt (qQ q hn)]; exact q
end
noncomputable def Rd(H:Hp)(a:Addr)(u:HO):Prop:=H a=some u\/∃ o,H a=some (.frz o u)
theorem Rd.of{H:Hp}{a:Addr}{u:HO}(h:H a=some u):Rd H a u:=.inl h
theorem Rd.ok{P:zai}{w:World}{H:Hp}{h:Heap}{a:Addr}{u:HO}(r:Rd H a u)(x:HOk P w H h):ObjOk P w H h a u:=by
 rcases r with r | ⟨o,r⟩
 ·exact x a u r
 ·obtain⟨_,q⟩:=x a _ r
  exact q
noncomputable def Mut:Option HO->Prop
 | some (.lst _)=>True
 | some (.dK _)=>True
 | some (.dT _)=>True
 | some (.set _ _)=>True
 | some (.ins _ _ _)=>True
 | some (.ext _)=>True
 | _=>False
section
variable {P:zai}{w:World}{H:Hp}{h h':Heap}{x e:Addr}{o':HO}
theorem HOk.write(ok:HOk P w H h)(mu:Mut (H x))(he:e=x\/H e=some (.own x))(k:∀ b u,b≠e->h.get? b=some u->h'.get? b=some u)(heo:∃ u,h'.get? e=some u)
  (new:ObjOk P w (upd H x o') h' x o'):HOk P w (upd H x o') h':=fun b u q=>by
 have nown:∀ c y,H c=some (.own y)->c≠x:=fun c y r z=>by subst z; rw[r] at mu; exact mu
 have ntup:∀ c xs,H c=some (.tup xs)->c≠x:=fun c xs r z=>by subst z; rw[r] at mu; exact mu
 by_cases hb:b=x
 ·subst hb; rw[qw] at q; cases q; exact new
 ·rw[qt hb] at q
  by_cases hbe:b=e
  ·have q':H b=some (.own x):=by
    rcases he with z | z
    ·exact absurd (hbe.trans z) hb
    ·rw[hbe]; exact z
   rw[q] at q'; cases q'
   obtain⟨v,hv⟩:=heo
   exact⟨v,by rw[hbe]; exact hv⟩
  ·refine(ok b u q).stay (fun c v hc r=>k c v ?_ r) (fun c r=>by rw[qt (nown c b r)]; exact r) fun c xs r=>by rw[qt (ntup c xs r)]; exact r
   rcases hc with rfl | hc
   ·exact hbe
   ·rintro rfl
    rcases he with z | z
    ·exact nown c b hc z
    ·rw[hc] at z; cases z; exact hb rfl
end
structure Un(fs ex:List Addr)(H H':Hp)(h h':Heap):Prop where
 keep:∀ b o,h.get? b=some o->H b=none->b ∉ fs->b ∉ ex->h'.get? b=some o
 slot:∀ b o,h.get? b=some o->H b=none->b∈fs->b ∉ ex->∃ sl,h'.get? b=some { o with slots:=sl }
 free:∀ b o,h.get? b=some o->H b=none->b ∉ ex->H' b=none
 there:∀ b o,h.get? b=some o->b ∉ ex->∃ o',h'.get? b=some o'
 tups:∀ b xs,H b=some (.tup xs)->H' b=some (.tup xs)
 frzs:∀ b o u,H b=some (.frz o u)->H' b=some (.frz o u)
 tbls:∀ b ps,H b=some (.tbl ps)->∃ more,H' b=some (.tbl (ps ++ more))
section
variable {fs fs' ex ex':List Addr}{H H1 H2:Hp}{h h1 h2 h':Heap}{a x e:Addr}{o:HO}
theorem Un.any(u:Un fs ex H H1 h h1){b:Addr}{ob:Obj}(q:h.get? b=some ob)(n:H b=none)(hx:b ∉ ex):∃ sl,h1.get? b=some { ob with slots:=sl }:=by
 by_cases hb:b∈fs
 ·exact u.slot b ob q n hb hx
 ·exact⟨ob.slots,u.keep b ob q n hb hx⟩
theorem Un.trans(a:Un fs ex H H1 h h1)(b:Un fs ex H1 H2 h1 h2):Un fs ex H H2 h h2 where
 keep:=fun c ob q n hc hx=>b.keep c ob (a.keep c ob q n hc hx) (a.free c ob q n hx) hc hx
 slot:=fun c ob q n hc hx=>by
  obtain⟨sl,e1⟩:=a.slot c ob q n hc hx
  obtain⟨sl',e2⟩:=b.slot c _ e1 (a.free c ob q n hx) hc hx
  exact⟨sl',e2⟩
 free:=fun c ob q n hx=>by
  obtain⟨o',e1⟩:=a.there c ob q hx
  exact b.free c o' e1 (a.free c ob q n hx) hx
 there:=fun c ob q hx=>by
  obtain⟨o',e1⟩:=a.there c ob q hx
  exact b.there c o' e1 hx
 tups:=fun c xs q=>b.tups c xs (a.tups c xs q)
 frzs:=fun c ob xs q=>b.frzs c ob xs (a.frzs c ob xs q)
 tbls:=fun c ps q=>by
  obtain⟨m1,e1⟩:=a.tbls c ps q
  obtain⟨m2,e2⟩:=b.tbls c _ e1
  exact⟨m1 ++ m2,by rw[e2,Array.append_assoc]⟩
theorem Un.kept(k:∀ b u,h.get? b=some u->h'.get? b=some u):Un fs ex H H h h':=
 ⟨fun b ob q _ _ _=>k b ob q,fun b ob q _ _ _=>⟨ob.slots,k b ob q⟩,fun _ _ _ n _=>n,fun b ob q _=>⟨ob,k b ob q⟩,fun _ _ q=>q,fun _ _ _ q=>q,fun _ ps q=>⟨#[],by rw[q]; simp⟩⟩
theorem Un.refl:Un fs ex H H h h:=Un.kept fun _ _ q=>q
theorem Un.laid(k:∀ b u,h.get? b=some u->h'.get? b=some u)(hp:h.objs.size<=a)(hn:H a=none):Un fs ex H (upd H a o) h h' where
 keep:=fun b u q _ _ _=>k b u q
 slot:=fun b u q _ _ _=>⟨u.slots,k b u q⟩
 free:=fun b u q n _=>by rw[qt (zaA (zaP (zag q) hp))]; exact n
 there:=fun b u q _=>⟨u,k b u q⟩
 tups:=fun b xs q=>by rw[qt (qQ q hn)]; exact q
 frzs:=fun b u xs q=>by rw[qt (qQ q hn)]; exact q
 tbls:=fun b ps q=>⟨#[],by rw[qt (qQ q hn),q]; simp⟩
theorem Un.write(mu:Mut (H x))(he:e=x\/H e=some (.own x))(k:∀ b u,b≠e->h.get? b=some u->h'.get? b=some u)(heo:∃ u,h'.get? e=some u):Un fs ex H (upd H x o) h h':=by
 have hx:∀ b,H b=none->b≠x:=fun b n z=>by subst z; rw[n] at mu; exact mu
 have hb:∀ b,H b=none->b≠e:=fun b n z=>by
  subst z
  rcases he with r | r
  ·exact hx b n r
  ·rw[n] at r; cases r
 have hm:∀ b u,H b=some u->¬ Mut (some u)->b≠x:=fun b u q nm z=>by subst z; rw[q] at mu; exact nm mu
 refine⟨fun b u q n _ _=>k b u (hb b n) q,fun b u q n _ _=>⟨u.slots,k b u (hb b n) q⟩,fun b u q n _=>by rw[qt (hx b n)]; exact n,fun b u q _=>?_,
  fun b xs q=>by rw[qt (hm b _ q fun z=>z)]; exact q,fun b u xs q=>by rw[qt (hm b _ q fun z=>z)]; exact q,fun b ps q=>⟨#[],by rw[qt (hm b _ q fun z=>z),q]; simp⟩⟩
 by_cases hbe:b=e
 ·subst hbe; exact heo
 ·exact⟨u,k b u hbe q⟩
theorem Un.mono(u:Un fs ex H H1 h h1)(hs:∀ b∈fs,b∈fs')(hx:∀ b∈ex,b∈ex'):Un fs' ex' H H1 h h1:=
 ⟨fun b ob q n hb he=>u.keep b ob q n (fun z=>hb (hs b z)) fun z=>he (hx b z),fun _ _ q n _ he=>u.any q n fun z=>he (hx _ z),fun b ob q n he=>u.free b ob q n fun z=>he (hx b z),fun b ob q he=>u.there b ob q fun z=>he (hx b z),u.tups,u.frzs,u.tbls⟩
end
noncomputable def trk(h:Heap)(H:Hp):List Addr:=(zbc h.objs.size).filter fun a=>(H a).isSome
noncomputable def hidT(h:Heap)(H:Hp):Heap:=PySem.W.hideAll h (trk h H)
theorem qjs(h:Heap)(H:Hp):(hidT h H).objs.size=h.objs.size:=PySem.W.hideAll_size _ _
theorem qkG{h:Heap}{H:Hp}{b:Addr}{o:Obj}(e:h.get? b=some o)(n:H b=none):(hidT h H).get? b=some o:=
 PySem.W.hideAll_get _ e fun hm=>by
  have q:(H b).isSome=true:=(List.mem_filter.mp hm).2
  rw[n] at q; simp at q
theorem qlw{h:Heap}{H:Hp}{b:Addr}{o:Obj}(e:(hidT h H).get? b=some o):h.get? b=some o/\H b=none:=by
 have e':h.get? b=some o:=PySem.W.of_hideAll (trk h H) e
 refine⟨e',?_⟩
 cases q:H b with
 | none=>rfl
 | some x=>
  have hm:b∈trk h H:=List.mem_filter.mpr ⟨List.mem_range.mpr (zag e'),by simp[q]⟩
  have z:(hidT h H).get? b=none:=PySem.W.hideAll_none (trk h H) hm
  rw[z] at e; cases e
noncomputable def qmL(g h:Heap)(L:Addr):List (Addr × Obj):=(zbc h.objs.size).filterMap fun a=>if a=L\/(g.get? a).isSome=true then none else (h.get? a).map fun o=>(a,o)
noncomputable def rest(g h:Heap)(L d:Addr):List (Addr × Obj):=(qmL g h L).filter fun p=>decide (p.1≠d)
structure Mod(K:zad)(mg:Str->Option Value)(base:Heap):Prop where
 kin:K.In base
 glob:base.Ns zas mg
 blt:∃ mb,base.Ns builtinsNs mb/\∀ x:Str,x ≠ "__name__" -> mb x=zaJ x
 nolimit:base.NoLimit
structure Cx where
 prog:zai
 w:World
 K:zad
 mg:Str->Option Value
 base:Heap
 A:Around
 N:List Str
 s₀:Shared
 H₀:Hp
 env:Env
 outer:List Env
 stack:List Env
 ex:List Addr
 fn:Str->Bool
 calm:Bool
 pn:List (Addr × Obj)
 xe:Value->Shared->Prop
noncomputable def frs(l:List Env):List Addr:=l.filterMap (·.frame)
noncomputable abbrev Cx.fs(X:Cx):List Addr:=frs X.outer
noncomputable def Vis(sc:Scope)(x:Str):Prop:=sc.names.lookup x=some .local\/sc.names.lookup x=some .cell\/sc.names.lookup x=some .free
noncomputable def Loc(sc:Scope)(x:Str):Prop:=sc.names.lookup x=some .local\/sc.names.lookup x=some .cell
noncomputable def Look(env:Env)(h:Heap)(m:Str->Option Value)(x:Str)(u:Value):Prop:=
 (env.kindOf x=some .local/\m x=some u)\/((env.kindOf x=some .cell\/env.kindOf x=some .free)/\∃ c,env.cells.lookup x=some c/\h.IsCell c (some u))
structure Cx.Ok(X:Cx):Prop where
 mod:Mod X.K X.mg X.base
 kind:X.env.scope.kind=.function
 glob:X.env.globals=zas
 blt:X.env.builtins=builtinsNs
 above:X.s₀.heap.objs.size<=X.env.locals
 inj:∀ x y c,X.env.cells.lookup x=some c->X.env.cells.lookup y=some c->x=y
 has:∀ x,(X.env.kindOf x=some .cell\/X.env.kindOf x=some .free)->∃ c,X.env.cells.lookup x=some c
 cab:∀ x c,X.fn x=true->X.env.cells.lookup x=some c->X.s₀.heap.objs.size<=c
 hd:X.calm=true->X.A.handled=none
 frames:X.A.frames=some X.stack
 stk:X.stack=X.outer\/(X.stack=X.env :: X.outer/\X.env.frame=some X.env.locals)
 exf:∀ b∈X.ex,b≠X.env.locals/\∀ x c,X.env.cells.lookup x=some c->c≠b
 bs:∀ b o,X.base.get? b=some o->X.s₀.heap.get? b=some o/\X.H₀ b=none
 bsz:X.base.objs.size<=X.s₀.heap.objs.size
 noex:∀ b o,X.base.get? b=some o->b ∉ X.ex
 exfs:∀ b∈X.ex,b ∉ X.fs
 funs:X.s₀.heap.FunFrames X.base X.outer
 frf:∀ b∈X.fs,X.H₀ b=none
structure Inv(X:Cx)(pins:List (Addr × Obj))(σ:List (Option V))(H:Hp)(s:Shared):Prop where
 ok:X.Ok
 os:s.os=X.s₀.os
 bare:AllBare s.gens
 base:Un X.fs X.ex X.H₀ H X.s₀.heap s.heap
 loc:∃ m,s.heap.Ns X.env.locals m/\∀ (i:Nat) (x:Str) (v:V),X.N[i]?=some x->σ[i]?=some (some v)->Vis X.env.scope x->∃ u,RelV v u/\Look X.env s.heap m x u
 cell:∀ x c,X.env.cells.lookup x=some c->∃ v,s.heap.IsCell c v
 free:H X.env.locals=none
 freeC:∀ x c,X.env.cells.lookup x=some c->H c=none
 pin:∀ p∈X.pn ++ pins,s.heap.get? p.1=some p.2/\H p.1=none/\p.1≠X.env.locals/\p.1 ∉ X.fs/\∀ v,p.2.data≠.cell v
 hok:HOk X.prog X.w H s.heap
 len:σ.length=X.N.length
section
variable {X:Cx}{pins:List (Addr × Obj)}{σ:List (Option V)}{H H':Hp}{s:Shared}{h':Heap}
theorem Cx.Ok.nofr(ok:X.Ok){b:Addr}{o:Obj}(e:X.base.get? b=some o):b ∉ X.fs:=fun hb=>by
 have:=(ok.funs.mem hb).1
 rw[e] at this; cases this
theorem Inv.bs(I:Inv X pins σ H s):∀ b o,X.base.get? b=some o->s.heap.get? b=some o/\H b=none:=fun b o e=>
 ⟨I.base.keep b o (I.ok.bs b o e).1 (I.ok.bs b o e).2 (I.ok.nofr e) (I.ok.noex b o e),I.base.free b o (I.ok.bs b o e).1 (I.ok.bs b o e).2 (I.ok.noex b o e)⟩
theorem Inv.bk(I:Inv X pins σ H s):∀ b o,X.base.get? b=some o->s.heap.get? b=some o:=fun b o e=>(I.bs b o e).1
theorem Inv.mod(I:Inv X pins σ H s):Mod X.K X.mg X.base:=I.ok.mod
theorem Inv.kIn(I:Inv X pins σ H s):X.K.In s.heap:=I.ok.mod.kin.keeps I.bk
theorem Inv.nolimit(I:Inv X pins σ H s):s.heap.NoLimit:=I.ok.mod.nolimit.keeps I.bk
theorem Inv.lt(I:Inv X pins σ H s):X.env.locals < s.heap.objs.size:=let ⟨_,hn,_⟩:=I.loc; hn.lt
theorem Inv.sz(I:Inv X pins σ H s):X.s₀.heap.objs.size<=s.heap.objs.size:=za6 I.ok.above (Nat.le_of_lt I.lt)
theorem Inv.nofs(I:Inv X pins σ H s){a:Addr}(h:s.heap.objs.size<=a):a ∉ X.fs:=fun hb=>by
 obtain⟨_,o,ho,_⟩:=I.ok.funs.mem hb
 exact absurd (zaP (zag ho) (za6 I.sz h)) (zaU _)
theorem Inv.cne(I:Inv X pins σ H s):∀ x c,X.env.cells.lookup x=some c->c≠X.env.locals:=fun x c e z=>by
 obtain⟨v,o,ho,hd⟩:=I.cell x c e
 obtain⟨m,⟨o',es,ep,ho',hd',_⟩,_⟩:=I.loc
 rw[z,ho'] at ho; cases ho; rw[hd'] at hd; cases hd
theorem Inv.funs(I:Inv X pins σ H s):s.heap.FunFrames X.base X.outer:=by
 have all:∀ (l:List Env),(∀ b∈frs l,b∈X.fs)->X.s₀.heap.FunFrames X.base l->s.heap.FunFrames X.base l:=by
  intro l
  induction l with
  | nil=>intro _ _; trivial
  | cons env r ih=>
   intro hs hl
   obtain⟨hk,⟨L,o,hf,hn,ho,hd⟩,hr⟩:=hl
   have hL:L∈X.fs:=hs L (by unfold frs; rw[zb4,hf]; exact zav)
   obtain⟨sl,e⟩:=I.base.slot L o ho (I.ok.frf L hL) hL fun z=>I.ok.exfs L z hL
   exact⟨hk,⟨L,_,hf,hn,e,hd⟩,ih (fun b hb=>hs b (by unfold frs; rw[zb4,hf]; exact zaw _ hb)) hr⟩
 exact all X.outer (fun _ hb=>hb) I.ok.funs
theorem Inv.stack(I:Inv X pins σ H s):s.heap.FunFrames X.base X.stack:=by
 rcases I.ok.stk with e | ⟨e,hf⟩
 ·rw[e]; exact I.funs
 ·rw[e]
  obtain⟨m,hn,_⟩:=I.loc
  refine .cons (by rw[I.ok.kind]; decide) hf hn ?_ I.funs
  exact Heap.get?_none_of_le (za6 I.ok.bsz I.ok.above)
theorem Inv.stkSub(I:Inv X pins σ H s):∀ b∈frs X.stack,b∈X.env.locals :: X.fs:=fun b hb=>by
 rcases I.ok.stk with e | ⟨e,hf⟩
 ·rw[e] at hb; exact zaw _ hb
 ·rw[e] at hb
  unfold frs at hb
  rw[zb4,hf] at hb
  exact hb
theorem Inv.stkFree(I:Inv X pins σ H s):∀ b∈frs X.stack,H b=none:=fun b hb=>by
 rcases List.mem_cons.mp (I.stkSub b hb) with e | hb
 ·rw[e]; exact I.free
 ·obtain⟨_,o,ho,_⟩:=I.ok.funs.mem hb
  exact I.base.free b o ho (I.ok.frf b hb) fun z=>I.ok.exfs b z hb
theorem Inv.step{g':Array GenState}{t':Nat}{d':Drawn}{ch:List Addr}(I:Inv X pins σ H s)
  (hch:∀ b∈ch,(b∈X.ex\/X.s₀.heap.objs.size<=b)/\b≠X.env.locals/\(∀ x c,X.env.cells.lookup x=some c->c≠b)/\∀ p∈X.pn ++ pins,p.1≠b)
  (keep:∀ b o,b≠X.env.locals->b ∉ X.fs->b ∉ ch->s.heap.get? b=some o->H b=none->h'.get? b=some o)
  (slot:∀ b o,b≠X.env.locals->b∈X.fs->b ∉ ch->s.heap.get? b=some o->H b=none->∃ sl,h'.get? b=some { o with slots:=sl }) (free:∀ b o,b ∉ ch->s.heap.get? b=some o->H b=none->H' b=none)
  (there:∀ b o,b ∉ ch->s.heap.get? b=some o->∃ o',h'.get? b=some o')
  (tups:∀ b xs,H b=some (.tup xs)->H' b=some (.tup xs)) (frzs:∀ b o u,H b=some (.frz o u)->H' b=some (.frz o u)) (tbls:∀ b ps,H b=some (.tbl ps)->∃ more,H' b=some (.tbl (ps ++ more)))
  (ns:∀ m,s.heap.Ns X.env.locals m->h'.Ns X.env.locals m) (hok:HOk X.prog X.w H' h') (hg:AllBare g') :
  Inv X pins σ H' { s with heap:=h',gens:=g',drawn:=d',toks:=t' }:=by
 have neL:∀ b o,X.s₀.heap.get? b=some o->b≠X.env.locals:=fun b o e=>zaA (zaP (zag e) I.ok.above)
 have neC:∀ b o,X.s₀.heap.get? b=some o->b ∉ X.ex->b ∉ ch:=fun b o e hx hb=>by
  rcases(hch b hb).1 with z | z
  ·exact hx z
  ·exact absurd (zaP (zag e) z) (zaU _)
 have cellK:∀ x c,X.env.cells.lookup x=some c->∀ v,s.heap.IsCell c v->h'.IsCell c v:=by
  rintro x c e v ⟨o,ho,hd⟩
  have nch:c ∉ ch:=fun z=>(hch c z).2.2.1 x c e rfl
  by_cases hc:c∈X.fs
  ·obtain⟨sl,q⟩:=slot c o (I.cne x c e) hc nch ho (I.freeC x c e)
   exact⟨_,q,hd⟩
  ·exact⟨o,keep c o (I.cne x c e) hc nch ho (I.freeC x c e),hd⟩
 refine⟨I.ok,I.os,hg,⟨fun b o e n hb hx=>?_,fun b o e n hb hx=>?_,fun b o e n hx=>?_,fun b o e hx=>?_,fun b xs e=>tups b xs (I.base.tups b xs e),fun b o xs e=>frzs b o xs (I.base.frzs b o xs e),fun b ps e=>?_⟩,?_,fun x c e=>?_,?_,fun x c e=>?_,fun p hp=>?_,hok,I.len⟩
 ·exact keep b o (neL b o e) hb (neC b o e hx) (I.base.keep b o e n hb hx) (I.base.free b o e n hx)
 ·obtain⟨sl,e1⟩:=I.base.slot b o e n hb hx
  obtain⟨sl',e2⟩:=slot b _ (neL b o e) hb (neC b o e hx) e1 (I.base.free b o e n hx)
  exact⟨sl',e2⟩
 ·obtain⟨o',e1⟩:=I.base.there b o e hx
  exact free b o' (neC b o e hx) e1 (I.base.free b o e n hx)
 ·obtain⟨o',e1⟩:=I.base.there b o e hx
  exact there b o' (neC b o e hx) e1
 ·obtain⟨m1,e1⟩:=I.base.tbls b ps e
  obtain⟨m2,e2⟩:=tbls b _ e1
  exact⟨m1 ++ m2,by rw[e2,Array.append_assoc]⟩
 ·obtain⟨m,hn,hl⟩:=I.loc
  refine⟨m,ns m hn,fun i x v e1 e2 e3=>?_⟩
  obtain⟨u,r,l⟩:=hl i x v e1 e2 e3
  refine⟨u,r,?_⟩
  rcases l with l | ⟨k,c,e,z⟩
  ·exact .inl l
  ·exact .inr ⟨k,c,e,cellK x c e _ z⟩
 ·obtain⟨v,z⟩:=I.cell x c e
  exact⟨v,cellK x c e v z⟩
 ·obtain⟨m,⟨o,_,_,ho,_⟩,_⟩:=I.loc
  exact free _ o (fun z=>(hch _ z).2.1 rfl) ho I.free
 ·obtain⟨v,o,ho,hd⟩:=I.cell x c e
  exact free c o (fun z=>(hch c z).2.2.1 x c e rfl) ho (I.freeC x c e)
 ·obtain⟨e,n,ne,nf,d⟩:=I.pin p hp
  have nch:p.1 ∉ ch:=fun z=>(hch p.1 z).2.2.2 p hp rfl
  exact⟨keep p.1 p.2 ne nf nch e n,free p.1 p.2 nch e n,ne,nf,d⟩
theorem Inv.un{t':Nat}(I:Inv X pins σ H s)(u:Un X.fs [] H H' s.heap h')(hok:HOk X.prog X.w H' h'):Inv X pins σ H' { s with heap:=h',toks:=t' }:=by
 obtain⟨m,⟨o,es,ep,ho,r⟩,_⟩:=id I.loc
 obtain⟨sl,hL⟩:=u.any ho I.free (by simp)
 exact I.step (g':=s.gens) (d':=s.drawn) (ch:=[]) (fun _ z=>nomatch z) (fun b o _ hb _ e n=>u.keep b o e n hb (by simp)) (fun b o _ hb _ e n=>u.slot b o e n hb (by simp)) (fun b o _ e n=>u.free b o e n (by simp)) (fun b o _ e=>u.there b o e (by simp)) u.tups u.frzs u.tbls (fun m' hm=>by
  obtain⟨o',es',ep',ho',r'⟩:=hm
  rw[ho] at ho'; cases ho'
  exact⟨_,es',ep',hL,r'⟩) hok I.bare
theorem Inv.call{g':Array GenState}{t':Nat}{d':Drawn}{ch:List Addr}(I:Inv X pins σ H s)(u:Un (frs X.stack) ch H H' s.heap h')(hok:HOk X.prog X.w H' h')(hg:AllBare g')
  (hch:∀ b∈ch,(b∈X.ex\/X.s₀.heap.objs.size<=b)/\b≠X.env.locals/\(∀ x c,X.env.cells.lookup x=some c->c≠b)/\∀ p∈X.pn ++ pins,p.1≠b) :
  Inv X pins σ H' { s with heap:=h',gens:=g',drawn:=d',toks:=t' }:=by
 obtain⟨m,⟨o,es,ep,ho,r⟩,_⟩:=id I.loc
 obtain⟨sl,hL⟩:=u.any ho I.free fun z=>(hch _ z).2.1 rfl
 exact I.step (ch:=ch) hch (fun b o hL hb hc e n=>u.keep b o e n (fun z=>(List.mem_cons.mp (I.stkSub b z)).elim hL hb) hc) (fun b o _ _ hc e n=>u.any e n hc) (fun b o hc e n=>u.free b o e n hc) (fun b o hc e=>u.there b o e hc) u.tups u.frzs u.tbls (fun m' hm=>by
  obtain⟨o',es',ep',ho',r'⟩:=hm
  rw[ho] at ho'; cases ho'
  exact⟨_,es',ep',hL,r'⟩) hok hg
theorem Inv.turned{t':Nat}{it:Addr}(I:Inv X pins σ H s)(k:∀ b o,b≠it->s.heap.get? b=some o->h'.get? b=some o)(hn:H it=none)(hL:it≠X.env.locals)
  (h1:it∈X.ex\/X.s₀.heap.objs.size<=it) (h2:∀ x c,X.env.cells.lookup x=some c->c≠it) (h3:∀ p∈X.pn ++ pins,p.1≠it):Inv X pins σ H { s with heap:=h',toks:=t' }:=by
 have nit:∀ b u,H b=some u->b≠it:=fun b u e z=>by rw[z,hn] at e; cases e
 refine I.step (g':=s.gens) (d':=s.drawn) (ch:=[it]) (fun b hb=>?_) (fun b o _ _ hc e _=>k b o (fun z=>hc (by simp[z])) e) (fun b o _ _ hc e _=>⟨o.slots,k b o (fun z=>hc (by simp[z])) e⟩) (fun _ _ _ _ n=>n)
  (fun b o hc e=>⟨o,k b o (fun z=>hc (by simp[z])) e⟩) (fun _ _ e=>e) (fun _ _ _ e=>e) (fun b ps e=>⟨#[],by rw[e]; simp⟩) (fun m hm=>?_) (fun b u e=>?_) I.bare
 ·have e:b=it:=by simpa using hb
  subst e
  exact⟨h1,hL,h2,h3⟩
 ·obtain⟨o,es,ep,ho,r⟩:=hm
  exact⟨o,es,ep,k _ o (zaK hL) ho,r⟩
 ·refine(I.hok b u e).stay (fun c v hc q=>k c v ?_ q) (fun _ q=>q) fun _ _ q=>q
  rcases hc with z | z
  ·rw[z]; exact nit b u e
  ·exact nit c _ z
theorem Inv.tok(I:Inv X pins σ H s)(t:Nat):Inv X pins σ H { s with toks:=t }:=I.un (h':=s.heap) (t':=t) Un.refl I.hok
theorem Inv.kept{t':Nat}(I:Inv X pins σ H s)(k:∀ b u,s.heap.get? b=some u->h'.get? b=some u):Inv X pins σ H { s with heap:=h',toks:=t' }:=I.un (Un.kept k) (I.hok.kept k)
theorem Inv.laid{a:Addr}{o:HO}{t':Nat}(I:Inv X pins σ H s)(k:∀ b u,s.heap.get? b=some u->h'.get? b=some u)(hp:s.heap.objs.size<=a)(new:ObjOk X.prog X.w (upd H a o) h' a o) :
  Inv X pins σ (upd H a o) { s with heap:=h',toks:=t' }:=I.un (Un.laid k hp (I.hok.fresh hp)) (I.hok.laid k hp new)
theorem Inv.write{x e:Addr}{o:HO}{t':Nat}(I:Inv X pins σ H s)(mu:Mut (H x))(he:e=x\/H e=some (.own x))(k:∀ b u,b≠e->s.heap.get? b=some u->h'.get? b=some u)(heo:∃ u,h'.get? e=some u)
  (new:ObjOk X.prog X.w (upd H x o) h' x o):Inv X pins σ (upd H x o) { s with heap:=h',toks:=t' }:=I.un (Un.write mu he k heo) (I.hok.write mu he k heo new)
theorem Inv.pins_of{pins':List (Addr × Obj)}(I:Inv X pins σ H s)(h:∀ p∈pins',s.heap.get? p.1=some p.2/\H p.1=none/\p.1≠X.env.locals/\p.1 ∉ X.fs/\∀ v,p.2.data≠.cell v):Inv X pins' σ H s:=
 ⟨I.ok,I.os,I.bare,I.base,I.loc,I.cell,I.free,I.freeC,fun p hp=>(List.mem_append.mp hp).elim (fun z=>I.pin p (List.mem_append_left _ z)) (h p),I.hok,I.len⟩
theorem qg9{N:List Str}(hN:N.Nodup){i j:Nat}{x:Str}(a:N[i]?=some x)(b:N[j]?=some x):i=j:=by
 obtain⟨h1,e1⟩:=List.getElem?_eq_some_iff.mp a
 obtain⟨h2,e2⟩:=List.getElem?_eq_some_iff.mp b
 exact(zbO hN).mp (e1.trans e2.symm)
theorem qe8{M:Model}{A:Around}{E:Value->Shared->Prop}{i:Nat}{x:Str}{v:V}{u:Value}{Q:Unit->Shared->Prop}(I:Inv X pins σ H s)(hN:X.N.Nodup)(hi:X.N[i]?=some x)(hx:Loc X.env.scope x)(r:RelV v u)
  (h:∀ s',Inv X pins (σ.set i (some v)) H s'->(∃ a,za3 a s.heap s'.heap/\(a=X.env.locals\/X.env.cells.lookup x=some a))->Q () s') (hf:X.fn x=true\/X.env.scope.names.lookup x=some .local:=by first | exact .inl rfl | exact .inr rfl | assumption):wpAny M A (storeName X.env x u) Q E s:=by
 obtain⟨m,hn,hl⟩:=id I.loc
 have hcls:(X.env.scope.kind == .class || (X.env.scope.kind == .module && X.env.locals != X.env.globals))=false:=by rw[I.ok.kind]; rfl
 have hiσ:i < σ.length:=by rw[I.len]; exact(List.getElem?_eq_some_iff.mp hi).1
 have cne:=I.cne
 have tracked:∀ {a:Addr} {h':Heap},(∃ o,s.heap.get? a=some o/\H a=none)->za3 a s.heap h'->HOk X.prog X.w H h':=fun {a h'} ha hs b ob e=>by
  obtain⟨_,_,hfree⟩:=ha
  refine(I.hok b ob e).stay (fun c w' hc q=>(hs.2 c ?_).trans q) (fun _ q=>q) fun _ _ q=>q
  rintro rfl
  rcases hc with rfl | hc
  ·rw[hfree] at e; cases e
  ·rw[hfree] at hc; cases hc
 rcases hx with hk | hk
 ·refine wpAny_storeName_local hk hn (fun h' hn' hs=>?_) hcls
  obtain⟨oL,_,_,hoL,_⟩:=id hn
  refine h _ ⟨I.ok,I.os,I.bare,⟨fun b o e n hb hx=>?_,fun b o e n hb hx=>?_,I.base.free,fun b o e hx=>?_,I.base.tups,I.base.frzs,I.base.tbls⟩,⟨_,hn',fun j y v' e1 e2 e3=>?_⟩,fun y c e=>?_,I.free,I.freeC,fun p hp=>?_,tracked ⟨oL,hoL,I.free⟩ hs,by simpa using I.len⟩ ⟨_,hs,.inl rfl⟩
  ·exact(hs.2 b (zaA (zaP (zag e) I.ok.above))).trans (I.base.keep b o e n hb hx)
  ·obtain⟨sl,e1⟩:=I.base.slot b o e n hb hx
   exact⟨sl,(hs.2 b (zaA (zaP (zag e) I.ok.above))).trans e1⟩
  ·obtain⟨o',e1⟩:=I.base.there b o e hx
   exact⟨o',(hs.2 b (zaA (zaP (zag e) I.ok.above))).trans e1⟩
  ·by_cases hj:j=i
   ·subst hj
    rw[hi] at e1; cases e1
    rw[List.getElem?_set_self hiσ] at e2
    cases e2
    exact⟨u,r,.inl ⟨hk,by simp⟩⟩
   ·rw[List.getElem?_set_ne (zaK hj)] at e2
    obtain⟨u',r',q⟩:=hl j y v' e1 e2 e3
    refine⟨u',r',?_⟩
    rcases q with⟨k,e⟩ | ⟨k,c,e,z⟩
    ·refine .inl ⟨k,?_⟩
     have:y≠x:=fun e=>hj (qg9 hN e1 (e ▸ hi))
     simp[this,e]
    ·exact .inr ⟨k,c,e,z.sameBut hs (cne y c e)⟩
  ·obtain⟨w',z⟩:=I.cell y c e
   exact⟨w',z.sameBut hs (cne y c e)⟩
  ·obtain⟨e,n,ne,nf,d⟩:=I.pin p hp
   exact⟨(hs.2 p.1 ne).trans e,n,ne,nf,d⟩
 ·have hfn:X.fn x=true:=by
   rcases hf with z | z
   ·exact z
   ·rw[z] at hk; cases hk
  obtain⟨c,hc⟩:=I.ok.has x (.inl hk)
  obtain⟨w',z⟩:=I.cell x c hc
  refine wpAny_storeName_cell I.ok.kind hk hc z (fun h' hc' hs=>?_)
  obtain⟨oc,hoc,hocd⟩:=id z
  refine h { s with heap:=h' } ⟨I.ok,I.os,I.bare,⟨fun b o e n hb hx=>?_,fun b o e n hb hx=>?_,I.base.free,fun b o e hx=>?_,I.base.tups,I.base.frzs,I.base.tbls⟩,⟨m,hn.sameBut hs (zaK (cne x c hc)),fun j y v' e1 e2 e3=>?_⟩,fun y c' e=>?_,I.free,I.freeC,fun p hp=>?_,tracked ⟨oc,hoc,I.freeC x c hc⟩ hs,by simpa using I.len⟩ ⟨c,hs,.inr hc⟩
  ·exact(hs.2 b (zaA (zaP (zag e) (I.ok.cab x c hfn hc)))).trans (I.base.keep b o e n hb hx)
  ·obtain⟨sl,e1⟩:=I.base.slot b o e n hb hx
   exact⟨sl,(hs.2 b (zaA (zaP (zag e) (I.ok.cab x c hfn hc)))).trans e1⟩
  ·obtain⟨o',e1⟩:=I.base.there b o e hx
   exact⟨o',(hs.2 b (zaA (zaP (zag e) (I.ok.cab x c hfn hc)))).trans e1⟩
  ·by_cases hj:j=i
   ·subst hj
    rw[hi] at e1; cases e1
    rw[List.getElem?_set_self hiσ] at e2
    cases e2
    exact⟨u,r,.inr ⟨.inl hk,c,hc,hc'⟩⟩
   ·rw[List.getElem?_set_ne (zaK hj)] at e2
    obtain⟨u',r',q⟩:=hl j y v' e1 e2 e3
    refine⟨u',r',?_⟩
    rcases q with q | ⟨k,c',e,z'⟩
    ·exact .inl q
    ·refine .inr ⟨k,c',e,z'.sameBut hs ?_⟩
     rintro rfl
     exact hj (qg9 hN e1 (I.ok.inj _ _ _ e hc ▸ hi))
  ·by_cases hcc:c'=c
   ·subst hcc; exact⟨_,hc'⟩
   ·obtain⟨w2,z2⟩:=I.cell y c' e
    exact⟨w2,z2.sameBut hs hcc⟩
  ·obtain⟨e,n,ne,nf,d⟩:=I.pin p hp
   refine⟨(hs.2 p.1 ?_).trans e,n,ne,nf,d⟩
   intro q
   rw[q,hoc] at e
   have q':oc=p.2:=zaF e
   exact d w' (by rw[<- q']; exact hocd)
theorem qgw{M:Model}{A:Around}{E:Value->Shared->Prop}{i:Nat}{x:Str}{v:V}{u:Value}{Q:Unit->Shared->Prop}(I:Inv X pins σ H s)(hN:X.N.Nodup)(hi:X.N[i]?=some x)(hx:Loc X.env.scope x)(r:RelV v u)
  (h:∀ s',Inv X pins (σ.set i (some v)) H s'->Q () s') (hf:X.fn x=true\/X.env.scope.names.lookup x=some .local:=by first | exact .inl rfl | exact .inr rfl | assumption):wpAny M A (storeName X.env x u) Q E s:=
 qe8 I hN hi hx r (fun s' I' _=>h s' I') hf
theorem Inv.call'{s':Shared}{ch:List Addr}(I:Inv X pins σ H s)(ho:s'.os=s.os)(u:Un (frs X.stack) ch H H' s.heap s'.heap)(hok:HOk X.prog X.w H' s'.heap)(hg:AllBare s'.gens)
  (hch:∀ b∈ch,(b∈X.ex\/X.s₀.heap.objs.size<=b)/\b≠X.env.locals/\(∀ x c,X.env.cells.lookup x=some c->c≠b)/\∀ p∈X.pn ++ pins,p.1≠b):Inv X pins σ H' s':=by
 obtain⟨h',g',d',t',o'⟩:=s'
 have e:o'=s.os:=ho
 subst e
 exact I.call (g':=g') (t':=t') (d':=d') u hok hg hch
end
noncomputable abbrev XK:=Value->Option Addr->Hp->Prop
noncomputable abbrev St:=List (Option V)
noncomputable abbrev VK:=V->Hp->Prop
noncomputable abbrev TE:=St->Hp->VK->Prop
noncomputable abbrev TT:=St->Hp->(Bool->Hp->Prop)->Prop
noncomputable abbrev TA:=St->Hp->(List V->Hp->Prop)->Prop
structure Ends where
 nx:St->Hp->Prop
 rt:VK
 bk:St->Hp->Prop:=fun _ _=>False
 ct:St->Hp->Prop:=fun _ _=>False
noncomputable abbrev TS:=Ends->St->Hp->Prop
inductive EP(X:Cx)(pins:List (Addr × Obj))(σ:St)(Q:VK)(u:Value)(s':Shared):Prop
 | mk (v:V) (H':Hp) (i:Inv X pins σ H' s') (r:RelV v u) (q:Q v H'):EP X pins σ Q u s'
inductive TP(X:Cx)(pins:List (Addr × Obj))(σ:St)(Q:Bool->Hp->Prop)(b:Bool)(s':Shared):Prop
 | mk (H':Hp) (i:Inv X pins σ H' s') (q:Q b H'):TP X pins σ Q b s'
inductive AP(X:Cx)(pins:List (Addr × Obj))(σ:St)(Q:List V->Hp->Prop)(us:List Value)(s':Shared):Prop
 | mk (vs:List V) (H':Hp) (i:Inv X pins σ H' s') (r:Vals vs us) (q:Q vs H'):AP X pins σ Q us s'
noncomputable def SP(X:Cx)(pins:List (Addr × Obj))(D:Ends)(f:Flow)(s':Shared):Prop:=
 match f with
 | .next=>∃ σ' H',Inv X pins σ' H' s'/\D.nx σ' H'
 | .brk=>∃ σ' H',Inv X pins σ' H' s'/\D.bk σ' H'
 | .cont=>∃ σ' H',Inv X pins σ' H' s'/\D.ct σ' H'
 | .ret u=>∃ v σ' H',Inv X pins σ' H' s'/\RelV v u/\D.rt v H'
noncomputable def PE(X:Cx)(e:Expr)(t:TE):Prop:=
 ∀ (pins:List (Addr × Obj)) (s:Shared) (σ:St) (H:Hp) (Q:VK),Inv X pins σ H s->t σ H Q->wpAny (model X.prog X.w) X.A (eval e X.env) (EP X pins σ Q) X.xe s
noncomputable def PT(X:Cx)(e:Expr)(t:TT):Prop:=
 ∀ (pins:List (Addr × Obj)) (s:Shared) (σ:St) (H:Hp) (Q:Bool->Hp->Prop),Inv X pins σ H s->t σ H Q->wpAny (model X.prog X.w) X.A (isTrue e X.env (eval e X.env)) (TP X pins σ Q) X.xe s
noncomputable def PW(X:Cx)(e:Expr)(t:TT):Prop:=
 ∀ (whole:Sem Value) (pins:List (Addr × Obj)) (s:Shared) (σ:St) (H:Hp) (Q:Bool->Hp->Prop),Inv X pins σ H s->t σ H Q->wpAny (model X.prog X.w) X.A (isTrue e X.env whole) (TP X pins σ Q) X.xe s
theorem PW.pt{X:Cx}{e:Expr}{t:TT}(h:PW X e t):PT X e t:=h _
noncomputable def PA(X:Cx)(es:List Expr)(t:TA):Prop:=
 ∀ (pos:Pos) (pins:List (Addr × Obj)) (s:Shared) (σ:St) (H:Hp) (Q:List V->Hp->Prop),Inv X pins σ H s->t σ H Q->wpAny (model X.prog X.w) X.A (spliced (backTo pos (zap es X.env))) (AP X pins σ Q) X.xe s
noncomputable def PS(X:Cx)(st:Stmt)(t:TS):Prop:=
 ∀ (pins:List (Addr × Obj)) (s:Shared) (σ:St) (H:Hp) (D:Ends),Inv X pins σ H s->t D σ H->wpAny (model X.prog X.w) X.A (exec st X.env) (SP X pins D) X.xe s
noncomputable def PSs(X:Cx)(st:List Stmt)(t:TS):Prop:=
 ∀ (pins:List (Addr × Obj)) (s:Shared) (σ:St) (H:Hp) (D:Ends),Inv X pins σ H s->t D σ H->wpAny (model X.prog X.w) X.A (execs st X.env) (SP X pins D) X.xe s
theorem thn{α:Type}{t:Sem α}{Q Q':α->Shared->Prop}{M:Model}{A:Around}{E:Value->Shared->Prop}{s:Shared}(h:wpAny M A t Q E s)(hQ:∀ a s,Q a s->Q' a s):wpAny M A t Q' E s:=za0 h hQ fun _ _ x=>x
section
variable {X:Cx}
noncomputable def tVar(i:Nat):TE:=fun σ H Q=>∃ v,σ[i]?=some (some v)/\Q v H
noncomputable def tC(v:V):TE:=fun _ H Q=>Q v H
theorem qoj{i:Nat}{x:Str}{pos:Pos}(hN:X.N[i]?=some x)(hv:Vis X.env.scope x)(hd:(x == ("__debug__" : Str))=false:=by decide)(hcd:(x == ("__classdict__" : Str))=false:=by decide):PE X (.Name x pos) (tVar i):=by
 intro pins s σ H Q I h
 obtain⟨v,e,h⟩:=h
 obtain⟨m,hn,hl⟩:=I.loc
 obtain⟨u,r,l⟩:=hl i x v hN e hv
 have fin:EP X pins σ Q u s:=⟨v,H,I,r,h⟩
 rcases l with⟨hk,hm⟩ | ⟨hk,c,hc,hcell⟩
 ·exact wpAny_Name (wpAny_loadName_local I.ok.kind hk hn hm fin) hd
 ·rcases hk with hk | hk
  ·exact wpAny_Name (wpAny_loadName_cell I.ok.kind hk hc hcell fin) hd
  ·exact wpAny_Name (wpAny_loadName_free I.ok.kind hk hc hcell fin hcd) hd
theorem qou{i j pos}:PE X (.Constant (.int i) j pos) (tC (.int i)):=fun _ _ _ H _ I h=>wpAny_Constant_int ⟨.int i,H,I.tok _,⟨_,rfl⟩,h⟩
theorem qoN{b j pos}:PE X (.Constant (.bool b) j pos) (tC (.bl b)):=fun _ _ _ H _ I h=>Constant_bool ⟨.bl b,H,I,rfl,h⟩
theorem qnD{j pos}:PE X (.Constant .none j pos) (tC .non):=fun _ _ _ H _ I h=>Constant_none ⟨.non,H,I,rfl,h⟩
noncomputable def Gl(X:Cx)(x:Str):Prop:=X.env.kindOf x=some .globalImplicit
theorem qlG{E:Value->Shared->Prop}{pins:List (Addr × Obj)}{s:Shared}{σ:St}{H:Hp}{x:Str}{u:Value}{pos:Pos}{Q:Value->Shared->Prop}(I:Inv X pins σ H s)(hg:Gl X x)(hm:X.mg x=some u)(h:Q u s)
  (hd:(x == ("__debug__" : Str))=false:=by decide):wpAny (model X.prog X.w) X.A (eval (.Name x pos) X.env) Q E s:=
 Calls.Name_function_global I.ok.kind hg (Calls.loadGlobal_global (by rw[I.ok.glob]; exact I.mod.glob.keeps I.bk) hm h) hd
theorem qdp{E:Value->Shared->Prop}{pins:List (Addr × Obj)}{s:Shared}{σ:St}{H:Hp}{x:Str}{u:Value}{pos:Pos}{Q:Value->Shared->Prop}(I:Inv X pins σ H s)(hg:Gl X x)(hm:X.mg x=none)(hv:zaJ x=some u)(h:Q u s)
  (hn:x ≠ "__name__" := by decide) (hd:(x == ("__debug__" : Str))=false:=by decide):wpAny (model X.prog X.w) X.A (eval (.Name x pos) X.env) Q E s:=by
 obtain⟨mb,h1,h2⟩:=I.mod.blt
 exact Calls.Name_function_global I.ok.kind hg (Calls.loadGlobal_builtin (by rw[I.ok.glob]; exact I.mod.glob.keeps I.bk) hm (by rw[I.ok.blt]; exact h1.keeps I.bk) ((h2 x hn).trans hv) h) hd
theorem qlA{x:Str}{v:V}{u:Value}{pos:Pos}(hg:Gl X x)(hm:X.mg x=none)(hv:zaJ x=some u)(r:RelV v u)(hn:x ≠ "__name__" := by decide)(hd:(x == ("__debug__" : Str))=false:=by decide):PE X (.Name x pos) (tC v):=
 fun _ _ _ H _ I h=>qdp I hg hm hv ⟨v,H,I,r,h⟩ hn hd
variable {a b:Expr}{ta tb:TE}{pos:Pos}
noncomputable def tB(t:TE):TT:=fun σ H Q=>t σ H fun x H1=>∃ c,x=.bl c/\Q c H1
theorem qoh{e:Expr}{t:TE}(h:PE X e t)(he:∀ whole,isTrue e X.env whole=(do let v <- whole; standAt e.pos; holding [v] (truthy v)):=by intro _; rfl):PT X e (tB t):=by
 intro pins s σ H Q I hw
 refine isTrue_plain (thn (h pins s σ H _ I hw) fun v s1 ⟨x,H1,I1,r1,q1⟩=>?_) (he _)
 obtain⟨d,rfl,q⟩:=q1
 cases r1
 exact wpAny_truthy_bool ⟨H1,I1,q⟩
variable {tA tB':TT}{rest:List Expr}
noncomputable def tAnd(t u:TT):TT:=fun σ H Q=>t σ H fun c H1=>if c=true then u σ H1 Q else Q false H1
noncomputable def tOr(t u:TT):TT:=fun σ H Q=>t σ H fun c H1=>if c=true then Q true H1 else u σ H1 Q
noncomputable def tNot(t:TT):TT:=fun σ H Q=>t σ H fun c H1=>Q (!c) H1
theorem ql7(ha:PT X a tA):PW X (.BoolOp .And [a] pos) tA:=by
 intro wh pins s σ H Q I h
 refine isTrue_and (thn (ha pins s σ H Q I h) fun c s1 e=>?_)
 cases c with
 | true=>exact isTrue_and_nil e
 | false=>exact e
theorem qnu(ha:PT X a tA):PW X (.BoolOp .Or [a] pos) tA:=by
 intro wh pins s σ H Q I h
 refine isTrue_or (thn (ha pins s σ H Q I h) fun c s1 e=>?_)
 cases c with
 | false=>exact isTrue_or_nil e
 | true=>exact e
theorem qob(ha:PT X a tA)(hb:PW X (.BoolOp .And (b :: rest) pos) tB'):PW X (.BoolOp .And (a :: b :: rest) pos) (tAnd tA tB'):=by
 intro wh pins s σ H Q I h
 refine isTrue_and (thn (ha pins s σ H _ I h) fun c s1 ⟨H1,I1,q1⟩=>?_)
 cases c with
 | true=>exact hb wh pins s1 σ H1 Q I1 q1
 | false=>exact⟨H1,I1,q1⟩
theorem qoK(ha:PT X a tA)(hb:PW X (.BoolOp .Or (b :: rest) pos) tB'):PW X (.BoolOp .Or (a :: b :: rest) pos) (tOr tA tB'):=by
 intro wh pins s σ H Q I h
 refine isTrue_or (thn (ha pins s σ H _ I h) fun c s1 ⟨H1,I1,q1⟩=>?_)
 cases c with
 | true=>exact⟨H1,I1,q1⟩
 | false=>exact hb wh pins s1 σ H1 Q I1 q1
theorem qny(ha:PT X a tA):PT X (.UnaryOp .Not a pos) (tNot tA):=by
 intro pins s σ H Q I h
 exact isTrue_not (thn (ha pins s σ H (fun c H1=>Q (!c) H1) I h) fun _ _ ⟨H',i,q⟩=>⟨H',i,q⟩)
noncomputable def qoy(ta tb:TE):TE:=fun σ H Q=>ta σ H fun x H1=>∃ c,x=.bl c/\if c=true then tb σ H1 Q else Q (.bl false) H1
noncomputable def qoG(ta:TE):TE:=fun σ H Q=>ta σ H fun x H1=>∃ c,x=.bl c/\Q (.bl (!c)) H1
theorem qm3{op}{t:TE}(h:PE X a t):PE X (.BoolOp op [a] pos) t:=fun pins s σ H Q I hw=>BoolOp_one (h pins s σ H Q I hw)
theorem qoa(ha:PE X a ta)(hb:PE X (.BoolOp .And (b :: rest) pos) tb):PE X (.BoolOp .And (a :: b :: rest) pos) (qoy ta tb):=by
 intro pins s σ H Q I h
 refine BoolOp_and (thn (ha pins s σ H _ I h) fun v s1 ⟨x,H1,I1,r1,q1⟩=>?_)
 obtain⟨c,rfl,q1⟩:=q1
 cases r1
 refine wpAny_truthy_bool ?_
 cases c with
 | true=>exact hb pins s1 σ H1 Q I1 q1
 | false=>exact⟨.bl false,H1,I1,rfl,q1⟩
theorem qop(ha:PE X a ta):PE X (.UnaryOp .Not a pos) (qoG ta):=by
 intro pins s σ H Q I h
 refine UnaryOp_ (thn (ha pins s σ H _ I h) fun v s1 ⟨x,H1,I1,r1,q1⟩=>?_)
 obtain⟨c,rfl,q1⟩:=q1
 cases r1
 exact not_of (wpAny_truthy_bool ⟨.bl (!c),H1,I1,rfl,q1⟩)
end
noncomputable def SqL(K:zad)(H:Hp)(a:Addr)(xs:List V):Prop:=
 Rd H a (.lst xs) \/
  ∃ (o:Obj) (its:Array Value) (n:Nat),K.lookup a=some o/\o.cls=.type "list" /\ o.dict=none/\o.data=.seq its n/\its.size<=zal/\Vals xs its.toList
noncomputable def SqT(K:zad)(H:Hp)(a:Addr)(xs:List V):Prop:=
 Rd H a (.tup xs) \/
  ∃ (o:Obj) (its:Array Value) (n:Nat),K.lookup a=some o/\o.cls=.type "tuple" /\ o.data=.seq its n/\its.size<=zal/\Vals xs its.toList
noncomputable def absV:Value->Option V
 | .none=>some .non
 | .bool b=>some (.bl b)
 | .int i _=>some (.int i)
 | .str x _=>some (.str x)
 | .bytes b _=>some (.byt b)
 | .float b _=>some (.flt b)
 | .ref a=>some (.ref a)
 | .type n=>some (.ty n)
 | _=>none
theorem RelV.abs{x:V}{u:Value}(r:RelV x u):absV u=some x:=by
 cases x with
 | non=>cases r; rfl
 | bl _=>cases r; rfl
 | int _=>obtain⟨t,rfl⟩:=r; rfl
 | str _=>obtain⟨t,rfl⟩:=r; rfl
 | byt _=>obtain⟨t,rfl⟩:=r; rfl
 | flt _=>obtain⟨t,rfl⟩:=r; rfl
 | ref _=>cases r; rfl
 | ty _=>cases r; rfl
theorem RelV.inj{x y:V}{u:Value}(r:RelV x u)(q:RelV y u):x=y:=zaF (r.abs.symm.trans q.abs)
theorem Vals.inj:∀ {xs ys:List V} {us:List Value},Vals xs us->Vals ys us->xs=ys
 | _,_,_,.nil,.nil=>rfl
 | _,_,_,.cons r t,.cons r' t'=>by rw[r.inj r',Vals.inj t t']
section
variable {X:Cx}{pins:List (Addr × Obj)}{σ:St}{H:Hp}{s:Shared}{a:Addr}{xs ys:List V}
theorem SqL.of{K:zad}(h:H a=some (.lst xs)):SqL K H a xs:=.inl (.inl h)
theorem SqT.of{K:zad}(h:H a=some (.tup xs)):SqT K H a xs:=.inl (.inl h)
theorem Inv.list(I:Inv X pins σ H s)(h:SqL X.K H a xs):∃ its:List Value,Vals xs its/\PlainL s.heap a its.toArray/\xs.length<=zal:=by
 rcases h with h | ⟨o,its,n,hk,hc,hd,hs,hz,r⟩
 ·obtain⟨z,its,n,r,e⟩:=h.ok I.hok
  exact⟨its,r,⟨_,n,e,rfl,rfl,rfl⟩,z⟩
 ·refine⟨its.toList,r,⟨o,n,I.kIn a o hk,hc,hd,by simpa using hs⟩,?_⟩
  have e:=r.length
  simp only[zaN] at e
  omega
theorem Inv.tuple(I:Inv X pins σ H s)(h:SqT X.K H a xs):∃ its:List Value,Vals xs its/\IsTup s.heap a its.toArray/\xs.length<=zal:=by
 rcases h with h | ⟨o,its,n,hk,hc,hs,hz,r⟩
 ·obtain⟨z,its,r,p⟩:=h.ok I.hok
  exact⟨its,r,p.tup,z⟩
 ·refine⟨its.toList,r,⟨o,I.kIn a o hk,hc,n,by simpa using hs⟩,?_⟩
  have e:=r.length
  simp only[zaN] at e
  omega
theorem Inv.list_inj(I:Inv X pins σ H s)(h:SqL X.K H a xs)(h':SqL X.K H a ys):xs=ys:=by
 obtain⟨its,r,⟨o,n,e,_,_,d⟩,_⟩:=I.list h
 obtain⟨its',r',⟨o',n',e',_,_,d'⟩,_⟩:=I.list h'
 rw[e] at e'; cases e'
 rw[d] at d'
 injection d' with d1 _
 have:its=its':=by simpa using congrArg Array.toList d1
 subst this
 exact r.inj r'
theorem Inv.tuple_inj(I:Inv X pins σ H s)(h:SqT X.K H a xs)(h':SqT X.K H a ys):xs=ys:=by
 obtain⟨its,r,⟨o,e,_,n,d⟩,_⟩:=I.tuple h
 obtain⟨its',r',⟨o',e',_,n',d'⟩,_⟩:=I.tuple h'
 rw[e] at e'; cases e'
 rw[d] at d'
 injection d' with d1 _
 have:its=its':=by simpa using congrArg Array.toList d1
 subst this
 exact r.inj r'
end
noncomputable abbrev Cx.wish(X:Cx)(E:Value->Shared->Prop):Cx:={ X with xe:=E }
noncomputable abbrev Cx.nox(X:Cx):Cx:=X.wish fun _ _=>False
theorem Cx.Ok.wish{X:Cx}(ok:X.Ok)(E:Value->Shared->Prop):(X.wish E).Ok:=
 ⟨ok.mod,ok.kind,ok.glob,ok.blt,ok.above,ok.inj,ok.has,ok.cab,ok.hd,ok.frames,ok.stk,ok.exf,ok.bs,ok.bsz,ok.noex,ok.exfs,ok.funs,ok.frf⟩
theorem Cx.Ok.unwish{X:Cx}{E:Value->Shared->Prop}(ok:(X.wish E).Ok):X.Ok:=
 ⟨ok.mod,ok.kind,ok.glob,ok.blt,ok.above,ok.inj,ok.has,ok.cab,ok.hd,ok.frames,ok.stk,ok.exf,ok.bs,ok.bsz,ok.noex,ok.exfs,ok.funs,ok.frf⟩
section
variable {X:Cx}{pins:List (Addr × Obj)}{σ:St}{H:Hp}{s:Shared}{E:Value->Shared->Prop}
theorem Inv.wish(I:Inv X pins σ H s)(E:Value->Shared->Prop):Inv (X.wish E) pins σ H s:=⟨I.ok.wish E,I.os,I.bare,I.base,I.loc,I.cell,I.free,I.freeC,I.pin,I.hok,I.len⟩
theorem Inv.unwish(I:Inv (X.wish E) pins σ H s):Inv X pins σ H s:=⟨I.ok.unwish,I.os,I.bare,I.base,I.loc,I.cell,I.free,I.freeC,I.pin,I.hok,I.len⟩
theorem SP.unwish{D:Ends}{f:Flow}{s':Shared}(h:SP (X.wish E) pins D f s'):SP X pins D f s':=by
 cases f with
 | next=>obtain⟨σ',H',I,q⟩:=h; exact⟨σ',H',I.unwish,q⟩
 | brk=>obtain⟨σ',H',I,q⟩:=h; exact⟨σ',H',I.unwish,q⟩
 | cont=>obtain⟨σ',H',I,q⟩:=h; exact⟨σ',H',I.unwish,q⟩
 | ret u=>obtain⟨v,σ',H',I,r,q⟩:=h; exact⟨v,σ',H',I.unwish,r,q⟩
theorem PE.nox{e:Expr}{t:TE}(h:PE X.nox e t):PE X e t:=fun pins s σ H Q I hw=>
 za0 (h pins s σ H Q (I.wish _) hw) (fun _ _ ⟨v,H',I',r,q⟩=>⟨v,H',I'.unwish,r,q⟩) fun _ _ z=>zbs z
theorem PT.nox{e:Expr}{t:TT}(h:PT X.nox e t):PT X e t:=fun pins s σ H Q I hw=>
 za0 (h pins s σ H Q (I.wish _) hw) (fun _ _ ⟨H',I',q⟩=>⟨H',I'.unwish,q⟩) fun _ _ z=>zbs z
theorem PSs.nox{st:List Stmt}{t:TS}(h:PSs X.nox st t):PSs X st t:=fun pins s σ H D I hw=>
 za0 (h pins s σ H D (I.wish _) hw) (fun _ _ q=>q.unwish) fun _ _ z=>zbs z
end
section
variable {X:Cx}{st:Stmt}{rest:List Stmt}{t u:TS}{e:Expr}{te:TE}{pos:Pos}
noncomputable def qoH:TS:=fun D σ H=>D.nx σ H
noncomputable def tSeq(t u:TS):TS:=fun D σ H=>t { D with nx:=u D } σ H
theorem qmq:PSs X [] qoH:=fun _ _ σ H _ I h=>wpAny_execs_nil ⟨σ,H,I,h⟩
theorem qjA(h1:PS X st t)(h2:PSs X rest u):PSs X (st :: rest) (tSeq t u):=by
 intro pins s σ H D I h
 refine wpAny_execs_cons (thn (h1 pins s σ H { D with nx:=u D } I h) fun f s1 q=>?_)
 cases f with
 | next=>
  obtain⟨σ',H',I',q⟩:=q
  exact h2 pins s1 σ' H' D I' q
 | ret v=>exact q
 | brk=>exact q
 | cont=>exact q
theorem qmJ(h1:PS X st t):PSs X [st] t:=by
 intro pins s σ H D I h
 refine wpAny_execs_cons (thn (h1 pins s σ H D I h) fun f s1 q=>?_)
 cases f with
 | next=>exact wpAny_execs_nil q
 | ret v=>exact q
 | brk=>exact q
 | cont=>exact q
theorem Inv.quiet{pins:List (Addr × Obj)}{σ:St}{H:Hp}{s:Shared}(I:Inv X pins σ H s):interactive X.env=false:=by simp[interactive,I.ok.kind]
noncomputable def qo2(te:TE):TS:=fun D σ H=>te σ H fun _ H1=>D.nx σ H1
theorem qlQ(he:PE X e te)(hs:swapsWith e none pos.line X.env=pure false:=by rfl):PS X (.Expr e pos) (qo2 te):=by
 intro pins s σ H D I h
 exact wpAny_Expr_any (thn (he pins s σ H _ I h) fun v s1 ⟨x,H1,I1,r1,q1⟩=>⟨σ,H1,I1,q1⟩) I.quiet hs
noncomputable def tRet(te:TE):TS:=fun D σ H=>te σ H D.rt
theorem qm5(he:PE X e te):PS X (.Return (some e) pos) (tRet te):=by
 intro pins s σ H D I h
 exact wpAny_Return_some (thn (he pins s σ H _ I h) fun v s1 ⟨x,H1,I1,r1,q1⟩=>⟨x,σ,H1,I1,r1,q1⟩)
noncomputable def tIfS(c:TT)(t u:TS):TS:=fun D σ H=>c σ H fun b H1=>if b=true then t D σ H1 else u D σ H1
theorem qoX{c:Expr}{a b:List Stmt}{tc:TT}(hc:PT X c tc)(ha:PSs X a t)(hb:PSs X b u):PS X (.If c a b pos) (tIfS tc t u):=by
 intro pins s σ H D I h
 refine wpAny_If (thn (hc pins s σ H _ I h) fun d s1 ⟨H1,I1,q1⟩=>?_)
 cases d with
 | true=>exact ha pins s1 σ H1 D I1 q1
 | false=>exact hb pins s1 σ H1 D I1 q1
end
noncomputable abbrev TG:=V->St->Hp->(St->Hp->Prop)->Prop
noncomputable abbrev TGs:=List V->St->Hp->(St->Hp->Prop)->Prop
noncomputable def PG(X:Cx)(target:Expr)(t:TG):Prop:=
 ∀ (pins:List (Addr × Obj)) (s:Shared) (σ:St) (H:Hp) (v:V) (u:Value) (Q:St->Hp->Prop),Inv X pins σ H s->RelV v u->t v σ H Q->
  wpAny (model X.prog X.w) X.A (assign target X.env u) (fun _ s'=>∃ σ' H',Inv X pins σ' H' s'/\Q σ' H') X.xe s
noncomputable def PGs(X:Cx)(ts:List Expr)(t:TGs):Prop:=
 ∀ (pins:List (Addr × Obj)) (s:Shared) (σ:St) (H:Hp) (vs:List V) (us:List Value) (Q:St->Hp->Prop),Inv X pins σ H s->Vals vs us->t vs σ H Q->
  wpAny (model X.prog X.w) X.A (assignInOrder ((zbl ts X.env).map (·.2)) us) (fun _ s'=>∃ σ' H',Inv X pins σ' H' s'/\Q σ' H') X.xe s
noncomputable abbrev TSet:=V->V->V->Hp->(Hp->Prop)->Prop
noncomputable def PSet(X:Cx)(t:TSet):Prop:=
 ∀ (pins:List (Addr × Obj)) (s:Shared) (σ:St) (H:Hp) (o i v:V) (ov iv u:Value) (Q:Hp->Prop),Inv X pins σ H s->RelV o ov->RelV i iv->RelV v u->t o i v H Q->
  wpAny (model X.prog X.w) X.A (setItem ov iv u) (fun _ s'=>∃ H',Inv X pins σ H' s'/\Q H') X.xe s
section
variable {X:Cx}{pos:Pos}
noncomputable def qhl(i:Nat):TG:=fun v σ H Q=>Q (σ.set i (some v)) H
theorem qF{i:Nat}{x:Str}(hN:X.N.Nodup)(hi:X.N[i]?=some x)(hx:Loc X.env.scope x)(hf:X.fn x=true\/X.env.scope.names.lookup x=some .local:=by first | exact .inl rfl | exact .inr rfl | assumption):PG X (.Name x pos) (qhl i):=by
 intro pins s σ H v u Q I r h
 exact wpAny_assign_Name (qgw I hN hi hx r (fun s' I'=>⟨_,H,I',h⟩) hf)
noncomputable def gNil:TGs:=fun vs σ H Q=>vs=[]/\Q σ H
noncomputable def qmW(t:TG)(u:TGs):TGs:=fun vs σ H Q=>∃ v r,vs=v :: r/\t v σ H fun σ' H'=>u r σ' H' Q
theorem qlU:PGs X [] gNil:=by
 intro pins s σ H vs us Q I r h
 obtain⟨e,h⟩:=h
 subst e
 cases r
 exact assignInOrder_nil ⟨σ,H,I,h⟩
theorem qI{e:Expr}{es:List Expr}{t:TG}{u:TGs}(h1:PG X e t)(h2:PGs X es u)
  (hs:(zbl (e :: es) X.env).map (·.2)=assign e X.env :: (zbl es X.env).map (·.2):=by rfl):PGs X (e :: es) (qmW t u):=by
 intro pins s σ H vs us Q I r h
 obtain⟨v,vr,e1,h⟩:=h
 subst e1
 cases r with
 | cons r rr=>
  rw[hs]
  refine assignInOrder_cons (thn (h1 pins s σ H _ _ _ I r h) fun _ s1 ⟨σ1,H1,I1,q1⟩=>?_)
  exact h2 pins s1 σ1 H1 _ _ Q I1 rr q1
noncomputable def gTup(K:zad)(n:Nat)(t:TGs):TG:=fun v σ H Q=>∃ a xs,v=.ref a/\SqT K H a xs/\xs.length=n/\t xs σ H Q
theorem qbe{es:List Expr}{k:Nat}{t:TGs}{n:Nat}(hc:X.calm=true)(h:PGs X es t)
  (hn:(zbl es X.env).length=n:=by rfl) (hst:(zbl es X.env).findIdx? (·.1)=none:=by rfl):PG X (.Tuple es k pos) (gTup X.K n t):=by
 intro pins s σ H v u Q I r hw
 obtain⟨a,xs,e1,hq,hl,hw⟩:=hw
 subst e1
 cases r
 obtain⟨its,rv,ht,hz⟩:=I.tuple hq
 refine assign_Tuple_tuple (I.ok.hd hc) ht (by simp[hn,<- hl,rv.length]) hst fun h' hx=>?_
 have I1:Inv X pins σ H { s with heap:=h' }:=I.kept (t':=s.toks) fun b o e=>hx b o (zaA (zag e)) e
 exact h pins _ σ H xs _ Q I1 (by simpa using rv) hw
noncomputable def gSub(to ti:TE)(t:TSet):TG:=fun v σ H Q=>to σ H fun o H1=>ti σ H1 fun i H2=>t o i v H2 fun H3=>Q σ H3
theorem qoe{o i:Expr}{to ti:TE}{t:TSet}(ho:PE X o to)(hi:PE X i ti)(hs:PSet X t)
  (ha : ∀ v, assign (.Subscript o i pos) X.env v = (do
   let ov <- holding [v] (eval o X.env)
   let iv <- holding [v,ov] (eval i X.env)
   standAt pos
   holding [v,ov,iv] (setItem ov iv v)
   release [v,ov,iv] []):=by intro _; rfl):PG X (.Subscript o i pos) (gSub to ti t):=by
 intro pins s σ H v u Q I r h
 rw[ha]
 refine zaa (zba (thn (ho pins s σ H _ I h) fun ov s1 ⟨x,H1,I1,r1,q1⟩=>?_))
 refine zaa (zba (thn (hi pins s1 σ H1 _ I1 q1) fun iv s2 ⟨y,H2,I2,r2,q2⟩=>?_))
 refine zaa (wpAny_standAt (zaa (zba (thn (hs pins s2 σ H2 x y v ov iv u _ I2 r1 r2 r q2) fun _ s3 ⟨H3,I3,q3⟩=>?_))))
 exact wpAny_release ⟨σ,H3,I3,q3⟩
noncomputable def tAsg(te:TE)(g:TG):TS:=fun D σ H=>te σ H fun x H1=>g x σ H1 D.nx
theorem qkR{tg e:Expr}{te:TE}{g:TG}(he:PE X e te)(hg:PG X tg g)(hs:swapsWithSole [tg] e pos.line X.env=pure false:=by rfl)(hw:swappedStores [tg] e X.env=pure none:=by rfl)
  (h1:(zbl [tg] X.env).map (·.2)=[assign tg X.env]:=by rfl):PS X (.Assign [tg] e pos) (tAsg te g):=by
 intro pins s σ H D I h
 refine wpAny_Assign_stores (thn (he pins s σ H _ I h) fun v s1 ⟨x,H1,I1,r1,q1⟩=>?_) hs hw
 rw[h1]
 exact thn (hg pins s1 σ H1 x v _ I1 r1 q1) fun _ s2 q=>q
theorem qlg{i:Nat}{x:Str}{e:Expr}{te:TE}{pos':Pos}(hN:X.N.Nodup)(hi:X.N[i]?=some x)(hx:Loc X.env.scope x)(he:PE X e te)(hs:swapsWith e (some (.Name x pos')) pos.line X.env=pure false:=by rfl)(hf:X.fn x=true\/X.env.scope.names.lookup x=some .local:=by first | exact .inl rfl | exact .inr rfl | assumption) :
  PS X (.Assign [.Name x pos'] e pos) (tAsg te (qhl i)):=by
 intro pins s σ H D I h
 refine wpAny_Assign_Name (thn (he pins s σ H _ I h) fun v s1 ⟨y,H1,I1,r1,q1⟩=>?_) hs
 exact qgw I1 hN hi hx r1 (fun s2 I2=>⟨_,H1,I2,q1⟩) hf
end
section
variable {X:Cx}{pos:Pos}
end
structure It where
 go:Nat->Hp->Prop
 yld:Nat->Hp->V->Hp->Prop
 stop:Nat->Hp->Prop
noncomputable def FpOk(X:Cx)(pins:List (Addr × Obj))(H:Hp)(b:Addr):Prop:=
 H b=none/\b≠X.env.locals/\b ∉ X.fs/\(b∈X.ex\/X.s₀.heap.objs.size<=b)/\(∀ x c,X.env.cells.lookup x=some c->c≠b)/\∀ p∈X.pn ++ pins,p.1≠b
theorem Inv.fpOk{X:Cx}{pins:List (Addr × Obj)}{σ:St}{H H':Hp}{s:Shared}{b:Addr}(I:Inv X pins σ H s)(hb:s.heap.objs.size<=b)(hn:H' b=none):FpOk X pins H' b:=by
 refine⟨hn,zaO (zaP I.lt hb),I.nofs hb,.inr (za6 I.sz hb),fun x c e z=>?_,fun p hp z=>?_⟩
 ·obtain⟨v,q⟩:=I.cell x c e
  exact absurd (zaP q.lt (by rw[z]; exact hb)) (zaU _)
 ·exact absurd (zaP (zag (I.pin p hp).1) (by rw[z]; exact hb)) (zaU _)
structure Turn(P:zai)(w:World)(K:zad)(tg:Expr)(J:It)(fp:List Addr)(it:Addr)(tn:Nat->Heap->Prop):Prop where
 mem:it∈fp
 obj:∀ i h,tn i h->∀ b∈fp,∃ o,h.get? b=some o/\∀ v,o.data≠.cell v
 keep:∀ i h h',tn i h->(∀ b∈fp,∀ o,h.get? b=some o->h'.get? b=some o)->tn i h'
 item:∀ (X:Cx),X.prog=P->X.w=w->X.K=K->X.calm=true->∀ (i:Nat) (pins:List (Addr × Obj)) (s:Shared) (σ:St) (H:Hp) (E:Value->Shared->Prop),Inv X pins σ H s->(∀ b∈fp,FpOk X pins H b)->tn i s.heap->J.go i H->
  wpAny (model P w) X.A (pyNext (.ref it)) (fun r s1=>∃ u,r=some u /\
   wpAny (model P w) X.A (letOwnedTupleGo tg (.ref it) u) (fun _ s2=>∃ x H',Inv X pins σ H' s2/\RelV x u/\J.yld i H x H'/\tn (i + 1) s2.heap/\∀ b∈fp,H' b=none) E s1) E s
 done:∀ (X:Cx),X.prog=P->X.w=w->X.K=K->X.calm=true->∀ (i:Nat) (pins:List (Addr × Obj)) (s:Shared) (σ:St) (H:Hp) (E:Value->Shared->Prop),Inv X pins σ H s->(∀ b∈fp,FpOk X pins H b)->tn i s.heap->J.stop i H->
  wpAny (model P w) X.A (pyNext (.ref it)) (fun r s1=>r=none/\Inv X pins σ H s1) E s
 self:∀ (A:Around) (i:Nat) (s:Shared) (Q:Value->Shared->Prop) (E:Value->Shared->Prop),tn i s.heap->Q (.ref it) s->wpAny (model P w) A (pyIter (.ref it)) Q E s
noncomputable abbrev TI:=St->Hp->(It->Hp->Prop)->Prop
noncomputable def PIE(X:Cx)(pins:List (Addr × Obj))(σ:St)(tg:Expr)(R:It->Hp->Prop)(itv:Value)(s2:Shared):Prop:=
 ∃ (it:Addr) (fp:List Addr) (tn:Nat->Heap->Prop) (J:It) (H':Hp),itv=.ref it/\Inv X pins σ H' s2/\Turn X.prog X.w X.K tg J fp it tn/\tn 0 s2.heap/\(∀ b∈fp,FpOk X pins H' b)/\R J H'
noncomputable def PI(X:Cx)(tg iter:Expr)(wi:TI):Prop:=
 ∀ (pins:List (Addr × Obj)) (s:Shared) (σ:St) (H:Hp) (R:It->Hp->Prop),Inv X pins σ H s->wi σ H R->
  wpAny (model X.prog X.w) X.A (eval iter X.env) (fun v s1=>wpAny (model X.prog X.w) X.A (pyIter v) (PIE X pins σ tg R) X.xe s1) X.xe s
theorem qfH{M:Model}{A:Around}{E:Value->Shared->Prop}{s:Shared}{tg:Expr}{it:Addr}{u:Value}{o:Obj}{n:String}{vs:Array Value}{Q:Unit->Shared->Prop}(ho:s.heap.get? it=some o)(hc:o.cls=.type n)(hd:o.data=.fields vs)
    (hn:["enumerate", "zip", "dict_itemiterator", "dict_reverseitemiterator", "odict_iterator", "itertools.zip_longest", "itertools.pairwise"].contains n=false) (hQ:Q () s):wpAny M A (letOwnedTupleGo tg (.ref it) u) Q E s:=by
  unfold letOwnedTupleGo
  cases tg <;> first
    | exact zab hQ
    | (cases u <;> first
        | exact zab hQ
        | (refine zaa (wpAny_load ho ?_)
           rw[hc,hd]
           show wpAny M A (if (["enumerate", "zip", "dict_itemiterator", "dict_reverseitemiterator", "odict_iterator", "itertools.zip_longest", "itertools.pairwise"].contains n && vs[0]? == some (rawInt _))=true then _ else _) Q E s
           rw[if_neg (by intro h; rw[hn,Bool.false_and] at h; cases h)]
           exact zab hQ))
noncomputable def Itl(K:zad)(a:Addr):It:=
 ⟨fun i H=>∃ xs x,SqL K H a xs/\xs[i]?=some x,fun i H x H'=>H'=H/\∀ xs,SqL K H a xs->xs[i]?=some x,fun i H=>∃ xs,SqL K H a xs/\xs.length<=i⟩
noncomputable def Itt(K:zad)(a:Addr):It:=
 ⟨fun i H=>∃ xs x,SqT K H a xs/\xs[i]?=some x,fun i H x H'=>H'=H/\∀ xs,SqT K H a xs->xs[i]?=some x,fun i H=>∃ xs,SqT K H a xs/\xs.length<=i⟩
noncomputable def Itr(lo:Int)(n:Nat):It:=⟨fun i _=>i < n,fun i H x H'=>H'=H/\x=.int (lo + i),fun i _=>n<=i⟩
theorem qi8{P:zai}{w:World}{K:zad}{tg:Expr}(a it:Addr):Turn P w K tg (Itl K a) [it] it (fun i h=>h.IsListIter it a i) where
 mem:=by simp
 obj:=fun i h st b hb=>by
  have e:b=it:=by simpa using hb
  subst e
  obtain⟨o,e,c,d⟩:=st
  exact⟨o,e,fun v z=>by rw[d] at z; cases z⟩
 keep:=fun i h h' st k=>st.at fun o e=>k it (by simp) o e
 item:=by
  intro X hP hw hK hc i pins s σ H E I hf st hg
  subst hP hw hK
  obtain⟨xs,x,hq,hx⟩:=hg
  obtain⟨its,rv,p,hz⟩:=I.list hq
  obtain⟨u,hu,ru⟩:=rv.get hx
  obtain⟨f0,f1,f2,f3,f4,f5⟩:=hf it (by simp)
  refine wpAny_pyNext_list_item st p.isList (x:=u) (by simpa using hu) fun h' st' sb=>?_
  have I1:Inv X pins σ H { s with heap:=h' }:=I.turned (t':=s.toks) (fun b o hb e=>(sb.2 b hb).trans e) f0 f1 f3 f4 f5
  obtain⟨o,e,c,d⟩:=id st'
  exact⟨u,rfl,qfH (s:={ s with heap:=h' }) e c d (by decide) ⟨x,H,I1,ru,⟨rfl,fun ys hy=>by rw[I.list_inj hy hq]; exact hx⟩,st',fun b hb=>(hf b hb).1⟩⟩
 done:=by
  intro X hP hw hK hc i pins s σ H E I hf st hg
  subst hP hw hK
  obtain⟨xs,hq,hx⟩:=hg
  obtain⟨its,rv,p,hz⟩:=I.list hq
  obtain⟨f0,f1,f2,f3,f4,f5⟩:=hf it (by simp)
  have hl:=rv.length
  exact wpAny_pyNext_list_end (I.ok.hd hc) st p.isList (by simp; omega) fun h' eb=>⟨rfl,I.turned (t':=s.toks) (fun b o hb e=>eb b o hb e) f0 f1 f3 f4 f5⟩
 self:=fun _ _ _ _ _ st h=>wpAny_pyIter_listiter st h
theorem qhs{P:zai}{w:World}{K:zad}{tg:Expr}(a it:Addr):Turn P w K tg (Itt K a) [it] it (fun i h=>h.IsTupleIter it a i) where
 mem:=by simp
 obj:=fun i h st b hb=>by
  have e:b=it:=by simpa using hb
  subst e
  obtain⟨o,e,c,d⟩:=st
  exact⟨o,e,fun v z=>by rw[d] at z; cases z⟩
 keep:=fun i h h' st k=>st.at fun o e=>k it (by simp) o e
 item:=by
  intro X hP hw hK hc i pins s σ H E I hf st hg
  subst hP hw hK
  obtain⟨xs,x,hq,hx⟩:=hg
  obtain⟨its,rv,p,hz⟩:=I.tuple hq
  obtain⟨u,hu,ru⟩:=rv.get hx
  obtain⟨f0,f1,f2,f3,f4,f5⟩:=hf it (by simp)
  refine wpAny_pyNext_tuple_item st (show s.heap.IsTuple a its.toArray from p) (x:=u) (by simpa using hu) fun h' st' sb=>?_
  have I1:Inv X pins σ H { s with heap:=h' }:=I.turned (t':=s.toks) (fun b o hb e=>(sb.2 b hb).trans e) f0 f1 f3 f4 f5
  obtain⟨o,e,c,d⟩:=id st'
  exact⟨u,rfl,qfH (s:={ s with heap:=h' }) e c d (by decide) ⟨x,H,I1,ru,⟨rfl,fun ys hy=>by rw[I.tuple_inj hy hq]; exact hx⟩,st',fun b hb=>(hf b hb).1⟩⟩
 done:=by
  intro X hP hw hK hc i pins s σ H E I hf st hg
  subst hP hw hK
  obtain⟨xs,hq,hx⟩:=hg
  obtain⟨its,rv,p,hz⟩:=I.tuple hq
  obtain⟨f0,f1,f2,f3,f4,f5⟩:=hf it (by simp)
  have hl:=rv.length
  exact wpAny_pyNext_tuple_end (I.ok.hd hc) st (show s.heap.IsTuple a its.toArray from p) (by simp; omega) fun h' eb=>⟨rfl,I.turned (t':=s.toks) (fun b o hb e=>eb b o hb e) f0 f1 f3 f4 f5⟩
 self:=fun _ _ _ _ _ st h=>wpAny_pyIter_tupleiter st h
theorem qhq{P:zai}{w:World}{K:zad}{tg:Expr}(it:Addr)(lo:Int)(n:Nat):Turn P w K tg (Itr lo n) [it] it (fun i h=>IsRangeIter h it (lo + (i:Nat) * 1) ((n:Int) - (i:Nat)) 1) where
 mem:=by simp
 obj:=fun i h st b hb=>by
  have e:b=it:=by simpa using hb
  subst e
  exact⟨_,st,fun v z=>by
   have z':Data.fields _=Data.cell v:=z
   cases z'⟩
 keep:=fun i h h' st k=>k it (by simp) _ st
 item:=by
  intro X hP hw hK hc i pins s σ H E I hf st hg
  subst hP hw hK
  obtain⟨f0,f1,f2,f3,f4,f5⟩:=hf it (by simp)
  have W:=Walks.range (prog:=X.prog) (w:=X.w) (I.ok.hd hc) it lo 1 n
  refine W.item i s _ _ hg st fun v h' tk hv st' kk=>?_
  obtain⟨t,rfl⟩:=hv
  have I1:Inv X pins σ H { s with heap:=h',toks:=tk }:=I.turned (fun b o hb e=>kk b o (by simpa using hb) e) f0 f1 f3 f4 f5
  refine⟨_,rfl,qfH (s:={ s with heap:=h',toks:=tk }) (n := "range_iterator") st' rfl rfl (by decide) ⟨.int (lo + i),H,I1,⟨t,?_⟩,⟨rfl,rfl⟩,st',fun b hb=>(hf b hb).1⟩⟩
  rw[zbm]
 done:=by
  intro X hP hw hK hc i pins s σ H E I hf st hg
  subst hP hw hK
  obtain⟨f0,f1,f2,f3,f4,f5⟩:=hf it (by simp)
  exact wpAny_pyNext_range_end (I.ok.hd hc) st (by have:n<=i:=hg; omega) fun h' eb=>⟨rfl,I.turned (t':=s.toks) (fun b o hb e=>eb b o hb e) f0 f1 f3 f4 f5⟩
 self:=fun _ _ _ _ _ st h=>wpAny_pyIter_rangeiter st h
section
variable {X:Cx}{tg:Expr}
noncomputable def qo7(K:zad)(tl:TE):TI:=fun σ H R=>tl σ H fun x H1=>∃ a,x=.ref a/\(∃ xs,SqL K H1 a xs)/\R (Itl K a) H1
noncomputable def iTup(K:zad)(tl:TE):TI:=fun σ H R=>tl σ H fun x H1=>∃ a,x=.ref a/\(∃ xs,SqT K H1 a xs)/\R (Itt K a) H1
theorem qlP{l:Expr}{tl:TE}(hl:PE X l tl):PI X tg l (qo7 X.K tl):=by
 intro pins s σ H R I h
 refine thn (hl pins s σ H _ I h) fun v s1 ⟨x,H1,I1,r1,q1⟩=>?_
 obtain⟨a,e,⟨xs,hq⟩,q⟩:=q1
 subst e
 cases r1
 obtain⟨its,rv,p,hz⟩:=I1.list hq
 refine zb5 p.isList ?_
 refine⟨s1.heap.objs.size,[s1.heap.objs.size],_,_,H1,rfl,I1.kept (t':=s1.toks) fun b o e=>zah _ e,qi8 a _,⟨_,zay _ rfl,rfl,rfl⟩,fun b hb=>?_,q⟩
 have e:b=s1.heap.objs.size:=by simpa using hb
 subst e
 exact I1.fpOk (zae _) (I1.hok.fresh (zae _))
theorem qoo{l:Expr}{tl:TE}(hl:PE X l tl):PI X tg l (iTup X.K tl):=by
 intro pins s σ H R I h
 refine thn (hl pins s σ H _ I h) fun v s1 ⟨x,H1,I1,r1,q1⟩=>?_
 obtain⟨a,e,⟨xs,hq⟩,q⟩:=q1
 subst e
 cases r1
 obtain⟨its,rv,p,hz⟩:=I1.tuple hq
 refine zca (show s1.heap.IsTuple a its.toArray from p) ?_
 refine⟨s1.heap.objs.size,[s1.heap.objs.size],_,_,H1,rfl,I1.kept (t':=s1.toks) fun b o e=>zah _ e,qhs a _,⟨_,zay _ rfl,rfl,rfl⟩,fun b hb=>?_,q⟩
 have e:b=s1.heap.objs.size:=by simpa using hb
 subst e
 exact I1.fpOk (zae _) (I1.hok.fresh (zae _))
theorem qkF{pins:List (Addr × Obj)}{σ:St}{H:Hp}{s:Shared}{R:It->Hp->Prop}{E:Value->Shared->Prop}{lo hi:Int}{t u v:Tok}{tk:Nat}(I:Inv X pins σ H s)(h1:-(2 ^ 62)<=lo)(h2:lo < 2 ^ 62)(h3:-(2 ^ 62)<=hi)(h4:hi < 2 ^ 62)
  (q:R (Itr lo (hi - lo).toNat) H):wpAny (model X.prog X.w) X.A (pyIter (.ref s.heap.objs.size)) (PIE X pins σ tg R) E { s with heap:=s.heap.push { cls:=.type "range",data:=.fields #[.int lo t,.int hi u,.int 1 v] },toks:=tk }:=by
 refine wpAny_pyIter_range (IsRange.new ..) (small_one h1 h2 h3 h4) ?_
 have I1:Inv X pins σ H { s with heap:=s.heap.push { cls:=.type "range",data:=.fields #[.int lo t,.int hi u,.int 1 v] },toks:=tk }:=I.kept fun b o e=>zah _ e
 refine⟨(s.heap.push { cls:=.type "range",data:=.fields #[.int lo t,.int hi u,.int 1 v] }).objs.size,[(s.heap.push { cls:=.type "range",data:=.fields #[.int lo t,.int hi u,.int 1 v] }).objs.size],_,_,H,rfl,
  I1.kept (t':=tk) fun b o e=>zah _ e,qhq _ lo (hi - lo).toNat,?_,fun b hb=>?_,q⟩
 ·have e1:lo + ((0:Nat):Int) * 1=lo:=by simp
  have e2:(((hi - lo).toNat:Nat):Int) - ((0:Nat):Int)=zbP lo hi 1:=by rw[rangeSize_one]; split <;> omega
  show IsRangeIter _ _ (lo + ((0:Nat):Int) * 1) ((((hi - lo).toNat:Nat):Int) - ((0:Nat):Int)) 1
  rw[e1,e2]
  exact zay _ rfl
 ·have e:b=(s.heap.push { cls:=.type "range",data:=.fields #[.int lo t,.int hi u,.int 1 v] }).objs.size:=by simpa using hb
  subst e
  exact I1.fpOk (zae _) (I1.hok.fresh (zae _))
noncomputable def qoA(ta:TA):TI:=fun σ H R=>ta σ H fun vs H1=>∃ j:Int,vs=[.int j]/\-(2 ^ 62)<=j/\j < 2 ^ 62/\R (Itr 0 j.toNat) H1
theorem qh7{a:Expr}{ta:TA}{p pos:Pos}(hg:Gl X "range")(hm:X.mg "range" = none)(ha:PA X [a] ta)(hs:zap [a] X.env=[(false,eval a X.env)]:=by rfl):PI X tg (.Call (.Name "range" p) [a] [] pos) (qoA ta):=by
 intro pins s σ H R I h
 refine Call_ (qdp I hg hm boot_range (zcr (thn (ha pos pins s σ H _ I h) fun us s1 ⟨vs,H1,I1,r1,q1⟩=>?_) hs rfl))
 obtain⟨j,e,q1,q2,q⟩:=q1
 subst e
 cases r1 with
 | cons r rr=>
  cases rr
  obtain⟨t,rfl⟩:=r
  exact call_range_1 (qkF I1 (by omega) (by omega) q1 q2 (by simpa using q))
noncomputable def tFor(wi:TI)(g:TG)(tb:TS):TS:=fun D σ H=>wi σ H fun J H1=>∃ W:Nat->Nat->St->Hp->Prop,(∃ m,W 0 m σ H1)/\∀ i m σ H,W i m σ H->
 (J.stop i H/\D.nx σ H)\/(J.go i H/\∃ N:St->Hp->Prop,(∀ σ' H',N σ' H'->∃ m',m' < m/\W (i + 1) m' σ' H')/\∀ x H',J.yld i H x H'->g x σ H' fun σ2 H2=>tb { D with nx:=N,ct:=N,bk:=D.nx } σ2 H2)
noncomputable def qft(fp:List Addr)(h:Heap):List (Addr × Obj):=fp.filterMap fun b=>(h.get? b).map fun o=>(b,o)
theorem qbC{fp:List Addr}{h:Heap}{b:Addr}{o:Obj}(hb:b∈fp)(e:h.get? b=some o):(b,o)∈qft fp h:=List.mem_filterMap.mpr ⟨b,hb,by rw[e]; rfl⟩
theorem qji{fp:List Addr}{h:Heap}{p:Addr × Obj}(hp:p∈qft fp h):p.1∈fp/\h.get? p.1=some p.2:=by
 obtain⟨b,hb,e⟩:=List.mem_filterMap.mp hp
 cases q:h.get? b with
 | none=>rw[q] at e; cases e
 | some o=>
  rw[q] at e
  have e':(b,o)=p:=zaF e
  subst e'
  exact⟨hb,q⟩
theorem Inv.pinned{pins:List (Addr × Obj)}{σ:St}{H:Hp}{s:Shared}{fp:List Addr}(I:Inv X pins σ H s)(hf:∀ b∈fp,FpOk X pins H b)(ho:∀ b∈fp,∃ o,s.heap.get? b=some o/\∀ v,o.data≠.cell v):Inv X (pins ++ qft fp s.heap) σ H s:=
 I.pins_of fun p hp=>(List.mem_append.mp hp).elim (fun z=>I.pin p (zbt _ z)) fun z=>by
  obtain⟨hb,e⟩:=qji z
  obtain⟨f0,f1,f2,_⟩:=hf p.1 hb
  obtain⟨o,e',d⟩:=ho p.1 hb
  rw[e] at e'; cases e'
  exact⟨e,f0,f1,f2,d⟩
theorem Inv.unpinned{pins pl:List (Addr × Obj)}{σ:St}{H:Hp}{s:Shared}(I:Inv X (pins ++ pl) σ H s):Inv X pins σ H s:=I.pins_of fun p hp=>I.pin p (zbt _ (List.mem_append_left _ hp))
theorem qnA{iter:Expr}{body:List Stmt}{wi:TI}{g:TG}{tb:TS}{pos:Pos}(hp:PassesOwn (model X.prog X.w) X.A X.env X.xe)(hc:X.calm=true)(hi:PI X tg iter wi)(hg:PG X tg g)(hb:PSs X body tb)
  (hs:∀ x,foldedSetIterable iter X.env x=pure x:=by intro _; rfl):PS X (.For tg iter body [] pos) (tFor wi g tb):=by
 intro pins s σ H D I h
 refine wpAny_For (thn (hi pins s σ H _ I h) fun v s1 h1=>thn h1 fun itv s2 h2=>?_) hs
 obtain⟨it,fp,tn,J,H2,e,I2,T,st2,f2,W,⟨m0,w0⟩,turn⟩:=h2
 subst e
 -- what stays true of the iterator's objects through the loop
 have stat:∀ {H':Hp},(∀ b∈fp,H' b=none)->∀ b∈fp,FpOk X pins H' b:=fun hn b hb=>⟨hn b hb,(f2 b hb).2⟩
 refine codeAny_forLoop_any (fun n s'=>∃ i σ' H',Inv X pins σ' H' s'/\tn i s'.heap/\(∀ b∈fp,H' b=none)/\W i n σ' H') ?_ m0 ⟨0,σ,H2,I2,st2,fun b hb=>(f2 b hb).1,w0⟩
 rintro n s3 ⟨i,σ3,H3,I3,st3,fr3,w3⟩
 rcases turn i n σ3 H3 w3 with⟨stop,qn⟩ | ⟨go,N,hN,step⟩
 ·refine wpAny_passesOwn hp (thn (T.done X rfl rfl rfl hc i pins s3 σ3 H3 X.xe I3 (stat fr3) st3 stop) fun r s4 ⟨hr,I4⟩=>?_)
  subst hr
  exact wpAny_execs_nil ⟨σ3,H3,I4,qn⟩
 ·refine wpAny_passesOwn hp (thn (T.item X rfl rfl rfl hc i pins s3 σ3 H3 X.xe I3 (stat fr3) st3 go) fun r s4 ⟨u,hr,h4⟩=>?_)
  subst hr
  refine wpAny_passesOwn hp (thn h4 fun _ s5 ⟨x,H5,I5,r5,y5,st5,fr5⟩=>?_)
  have I5':=I5.pinned (stat fr5) (T.obj _ _ st5)
  refine wpAny_passesOwn hp (thn (hg _ s5 σ3 H5 x u _ I5' r5 (step x H5 y5)) fun _ s6 ⟨σ6,H6,I6,q6⟩=>?_)
  refine wpAny_passesOwn hp (thn (hb _ s6 σ6 H6 _ I6 q6) fun f s7 q7=>?_)
  have again:∀ {σ7:St} {H7:Hp},Inv X (pins ++ qft fp s5.heap) σ7 H7 s7->N σ7 H7->∃ m,m < n/\∃ i σ' H',Inv X pins σ' H' s7/\tn i s7.heap/\(∀ b∈fp,H' b=none)/\W i m σ' H':=fun {σ7 H7} I7 n7=>by
   obtain⟨m',hm,w7⟩:=hN σ7 H7 n7
   refine⟨m',hm,i + 1,σ7,H7,I7.unpinned,T.keep _ _ _ st5 fun b hb o e=>(I7.pin (b,o) (zbt _ (zbt _ (qbC hb e)))).1,fun b hb=>?_,w7⟩
   obtain⟨o,e,d⟩:=T.obj _ _ st5 b hb
   exact(I7.pin (b,o) (zbt _ (zbt _ (qbC hb e)))).2.1
  cases f with
  | next=>obtain⟨σ7,H7,I7,n7⟩:=q7; exact again I7 n7
  | cont=>obtain⟨σ7,H7,I7,n7⟩:=q7; exact again I7 n7
  | brk=>obtain⟨σ7,H7,I7,q7⟩:=q7; exact⟨σ7,H7,I7.unpinned,q7⟩
  | ret v=>obtain⟨x7,σ7,H7,I7,r7,q7⟩:=q7; exact⟨x7,σ7,H7,I7.unpinned,r7,q7⟩
end
noncomputable abbrev R2:=V->V->Hp->VK->Prop
noncomputable def OpR(X:Cx)(f:Value->Value->Sem Value)(r:R2):Prop:=
 ∀ (pins:List (Addr × Obj)) (s:Shared) (σ:St) (H:Hp) (x y:V) (v u:Value) (Q:VK),Inv X pins σ H s->RelV x v->RelV y u->r x y H Q->
  wpAny (model X.prog X.w) X.A (f v u) (EP X pins σ Q) X.xe s
noncomputable def UnR(X:Cx)(f:Value->Sem Value)(r:V->Hp->VK->Prop):Prop:=
 ∀ (pins:List (Addr × Obj)) (s:Shared) (σ:St) (H:Hp) (x:V) (v:Value) (Q:VK),Inv X pins σ H s->RelV x v->r x H Q->
  wpAny (model X.prog X.w) X.A (f v) (EP X pins σ Q) X.xe s
noncomputable def CallR(X:Cx)(f:Value)(r:List V->Hp->VK->Prop):Prop:=
 ∀ (pins:List (Addr × Obj)) (s:Shared) (σ:St) (H:Hp) (xs:List V) (us:List Value) (Q:VK),Inv X pins σ H s->Vals xs us->r xs H Q->
  wpAny (model X.prog X.w) X.A (call f us) (EP X pins σ Q) X.xe s
noncomputable def tOp(r:R2)(ta tb:TE):TE:=fun σ H Q=>ta σ H fun x H1=>tb σ H1 fun y H2=>r x y H2 Q
noncomputable def tUn(r:V->Hp->VK->Prop)(ta:TE):TE:=fun σ H Q=>ta σ H fun x H1=>r x H1 Q
noncomputable def rI(C:Int->Int->Prop)(g:Int->Int->V):R2:=fun x y H Q=>∃ i j,x=.int i/\y=.int j/\C i j/\Q (g i j) H
noncomputable def rI0(g:Int->Int->V):R2:=fun x y H Q=>∃ i j,x=.int i/\y=.int j/\Q (g i j) H
noncomputable def rU(g:Int->V):V->Hp->VK->Prop:=fun x H Q=>∃ i,x=.int i/\Q (g i) H
section
variable {X:Cx}{a b c:Expr}{ta tb tc:TE}{pos:Pos}
theorem binT(ha:PE X a ta)(hb:PE X b tb){pins:List (Addr × Obj)}{s:Shared}{σ:St}{H:Hp}{R:V->V->Hp->Prop}(I:Inv X pins σ H s)
  (h:ta σ H fun x H1=>tb σ H1 fun y H2=>R x y H2) {Q:Value->Shared->Prop} {f:Value->Value->Sem Value}
  (hf:∀ v u s2 x y H2,Inv X pins σ H2 s2->RelV x v->RelV y u->R x y H2->wpAny (model X.prog X.w) X.A (f v u) Q X.xe s2) :
  wpAny (model X.prog X.w) X.A (eval a X.env) (fun v s₁=>wpAny (model X.prog X.w) X.A (eval b X.env) (fun u s₂=>wpAny (model X.prog X.w) X.A (f v u) Q X.xe s₂) X.xe s₁) X.xe s:=by
 refine thn (ha pins s σ H _ I h) fun v s1 ⟨x,H1,I1,r1,q1⟩=>?_
 refine thn (hb pins s1 σ H1 _ I1 q1) fun u s2 ⟨y,H2,I2,r2,q2⟩=>?_
 exact hf v u s2 x y H2 I2 r1 r2 q2
theorem qoz{op:Operator}{r:R2}(ho:OpR X (zaQ op) r)(ha:PE X a ta)(hb:PE X b tb):PE X (.BinOp a op b pos) (tOp r ta tb):=by
 intro pins s σ H Q I h
 exact wpAny_BinOp (binT ha hb I h fun v u s2 x y H2 I2 rx ry q=>ho pins s2 σ H2 x y v u Q I2 rx ry q)
theorem qpa{op:UnaryOp}{r:V->Hp->VK->Prop}(ho:UnR X (unaryOp op) r)(ha:PE X a ta):PE X (.UnaryOp op a pos) (tUn r ta):=by
 intro pins s σ H Q I h
 exact UnaryOp_ (thn (ha pins s σ H _ I h) fun v s1 ⟨x,H1,I1,r1,q1⟩=>ho pins s1 σ H1 x v Q I1 r1 q1)
theorem opI{f:Value->Value->Sem Value}{C:Int->Int->Prop}{g:Int->Int->Int}
  (rule:∀ (i j:Int) (t u:Tok) (s:Shared) (Q:Value->Shared->Prop) (E:Value->Shared->Prop),C i j->Q (.int (g i j) s.toks) { s with toks:=s.toks + 1 }->wpAny (model X.prog X.w) X.A (f (.int i t) (.int j u)) Q E s) :
  OpR X f (rI C fun i j=>.int (g i j)):=by
 intro pins s σ H x y v u Q I rx ry h
 obtain⟨i,j,rfl,rfl,hc,q⟩:=h
 obtain⟨t,rfl⟩:=rx
 obtain⟨t',rfl⟩:=ry
 exact rule i j t t' s _ _ hc ⟨.int (g i j),H,I.tok _,⟨_,rfl⟩,q⟩
theorem opI0{f:Value->Value->Sem Value}{g:Int->Int->Int}
  (rule:∀ (i j:Int) (t u:Tok) (s:Shared) (Q:Value->Shared->Prop) (E:Value->Shared->Prop),Q (.int (g i j) s.toks) { s with toks:=s.toks + 1 }->wpAny (model X.prog X.w) X.A (f (.int i t) (.int j u)) Q E s) :
  OpR X f (rI0 fun i j=>.int (g i j)):=by
 intro pins s σ H x y v u Q I rx ry h
 obtain⟨i,j,rfl,rfl,q⟩:=h
 obtain⟨t,rfl⟩:=rx
 obtain⟨t',rfl⟩:=ry
 exact rule i j t t' s _ _ ⟨.int (g i j),H,I.tok _,⟨_,rfl⟩,q⟩
theorem opB0{f:Value->Value->Sem Value}{g:Int->Int->Bool}
  (rule:∀ (i j:Int) (t u:Tok) (s:Shared) (Q:Value->Shared->Prop) (E:Value->Shared->Prop),Q (.bool (g i j)) s->wpAny (model X.prog X.w) X.A (f (.int i t) (.int j u)) Q E s) :
  OpR X f (rI0 fun i j=>.bl (g i j)):=by
 intro pins s σ H x y v u Q I rx ry h
 obtain⟨i,j,rfl,rfl,q⟩:=h
 obtain⟨t,rfl⟩:=rx
 obtain⟨t',rfl⟩:=ry
 exact rule i j t t' s _ _ ⟨.bl (g i j),H,I,rfl,q⟩
noncomputable def CDiv(i j:Int):Prop:=0 < j/\j < 1073741824
noncomputable def CPow(i j:Int):Prop:=0<=j/\j<=1000000/\i.natAbs < 2 ^ 64
theorem qov:OpR X (zaQ .Add) (rI0 fun i j=>.int (i + j)):=opI0 fun _ _ _ _ _ _ _ q=>add_int q
theorem qnH:OpR X (zaQ .Sub) (rI0 fun i j=>.int (i - j)):=opI0 fun _ _ _ _ _ _ _ q=>sub_int q
theorem qlC:OpR X (zaQ .FloorDiv) (rI CDiv fun i j=>.int (i / j)):=opI fun i j _ _ _ _ _ hc q=>by
 have h1:(0:Int) < j:=hc.1
 have h2:j < 1073741824:=hc.2
 exact floordiv_int (by omega) (by rw[Int.fdiv_eq_ediv_of_nonneg i (by omega)]; exact q) (.inl (PyProof.noPylong_small (by omega)))
theorem qm8:OpR X (zaQ .Mod) (rI (fun _ j=>0 < j) fun i j=>.int (i % j)):=opI fun i j _ _ _ _ _ hc q=>by
 have h1:(0:Int) < j:=hc
 exact mod_int' (by omega) (by rw[Int.fmod_eq_emod_of_nonneg i (by omega)]; exact q)
theorem qnC:OpR X (zaQ .Pow) (rI CPow fun i j=>.int (i ^ j.toNat)):=opI fun _ _ _ _ _ _ _ hc q=>pow_int_small hc.1 hc.2.1 hc.2.2 q
theorem unI{f:Value->Sem Value}{g:Int->Int}
  (rule:∀ (i:Int) (t:Tok) (s:Shared) (Q:Value->Shared->Prop) (E:Value->Shared->Prop),Q (.int (g i) s.toks) { s with toks:=s.toks + 1 }->wpAny (model X.prog X.w) X.A (f (.int i t)) Q E s) :
  UnR X f (rU fun i=>.int (g i)):=by
 intro pins s σ H x v Q I rx h
 obtain⟨i,rfl,q⟩:=h
 obtain⟨t,rfl⟩:=rx
 exact rule i t s _ _ ⟨.int (g i),H,I.tok _,⟨_,rfl⟩,q⟩
theorem qon:UnR X (unaryOp .USub) (rU fun i=>.int (-i)):=unI fun _ _ _ _ _ q=>neg_int q
end
noncomputable def scal:V->V->Bool
 | .non,.non=>true | .non,.int _=>true | .int _,.non=>true | .non,.bl _=>true | .bl _,.non=>true | .non,.str _=>true | .str _,.non=>true
 | .int _,.int _=>true | .bl _,.bl _=>true | .str _,.str _=>true | .byt _,.byt _=>true
 | .int _,.str _=>true | .str _,.int _=>true | .bl _,.str _=>true | .str _,.bl _=>true
 | _,_=>false
noncomputable def rEq:R2:=fun x y H Q=>scal x y=true/\Q (.bl (decide (x=y))) H
noncomputable def rNe:R2:=fun x y H Q=>scal x y=true/\Q (.bl (!decide (x=y))) H
theorem qig{i j:Int}:decide (V.int i=V.int j)=(i == j):=by
 rw[Bool.eq_iff_iff]
 simp
theorem qk4{i j:Bool}:decide (V.bl i=V.bl j)=(i == j):=by
 rw[Bool.eq_iff_iff]
 simp
theorem qiC{i j:Str}:decide (V.str i=V.str j)=(i == j):=by
 rw[Bool.eq_iff_iff]
 simp
theorem qhQ{i j:Array UInt8}:decide (V.byt i=V.byt j)=(i.toList == j.toList):=by
 rw[Bool.eq_iff_iff]
 cases i
 cases j
 simp
section
variable {X:Cx}{a b c:Expr}{ta tb tc:TE}{pos:Pos}
theorem qX{pins:List (Addr × Obj)}{σ:St}{H:Hp}{s:Shared}{Q:VK}{k k':Bool}(I:Inv X pins σ H s)(q:Q (.bl k) H)(e:k=k'):EP X pins σ Q (.bool k') s:=by
 subst e
 exact⟨.bl k,H,I,rfl,q⟩
theorem qo4:OpR X (zaL .Eq) rEq:=by
 intro pins s σ H x y v u Q I rx ry h
 obtain⟨hs,q⟩:=h
 cases x with
 | non=>
  cases rx
  cases y with
  | non=>cases ry; exact PySem.EqNone.eq_none_none (qX I q (by simp))
  | bl j=>cases ry; exact PySem.EqNone.eq_none_bool (qX I q (by simp))
  | int j=>obtain⟨t',rfl⟩:=ry; exact PySem.EqNone.eq_none_int (qX I q (by simp))
  | str j=>obtain⟨t',rfl⟩:=ry; exact PySem.EqNone.eq_none_str (qX I q (by simp))
  | _=>exact absurd (show false=true from hs) zax
 | bl i=>
  cases rx
  cases y with
  | non=>cases ry; exact PySem.EqNone.eq_bool_none (qX I q (by simp))
  | bl j=>cases ry; exact eq_bool (qX I q qk4)
  | str j=>obtain⟨t',rfl⟩:=ry; exact PySem.EqMixed.eq_bool_str (qX I q (by simp))
  | _=>exact absurd (show false=true from hs) zax
 | int i=>
  obtain⟨t,rfl⟩:=rx
  cases y with
  | non=>cases ry; exact PySem.EqNone.eq_int_none (qX I q (by simp))
  | int j=>obtain⟨t',rfl⟩:=ry; exact eq_int (qX I q qig)
  | str j=>obtain⟨t',rfl⟩:=ry; exact PySem.EqMixed.eq_int_str (qX I q (by simp))
  | _=>exact absurd (show false=true from hs) zax
 | str i=>
  obtain⟨t,rfl⟩:=rx
  cases y with
  | non=>cases ry; exact PySem.EqNone.eq_str_none (qX I q (by simp))
  | bl j=>cases ry; exact PySem.EqMixed.eq_str_bool (qX I q (by simp))
  | int j=>obtain⟨t',rfl⟩:=ry; exact PySem.EqMixed.eq_str_int (qX I q (by simp))
  | str j=>obtain⟨t',rfl⟩:=ry; exact eq_str (qX I q qiC)
  | _=>exact absurd (show false=true from hs) zax
 | byt i=>
  obtain⟨t,rfl⟩:=rx
  cases y with
  | byt j=>obtain⟨t',rfl⟩:=ry; exact PySem.W.eq_bytes (qX I q qhQ)
  | _=>exact absurd (show false=true from hs) zax
 | _=>cases y <;> exact absurd (show false=true from hs) zax
theorem qoO:OpR X (zaL .NotEq) rNe:=by
 intro pins s σ H x y v u Q I rx ry h
 obtain⟨hs,q⟩:=h
 cases x with
 | non=>
  cases rx
  cases y with
  | non=>cases ry; exact PySem.EqNone.ne_none_none (qX I q (by simp))
  | bl j=>cases ry; exact PySem.EqNone.ne_none_bool (qX I q (by simp))
  | int j=>obtain⟨t',rfl⟩:=ry; exact PySem.EqNone.ne_none_int (qX I q (by simp))
  | str j=>obtain⟨t',rfl⟩:=ry; exact PySem.EqNone.ne_none_str (qX I q (by simp))
  | _=>exact absurd (show false=true from hs) zax
 | bl i=>
  cases rx
  cases y with
  | non=>cases ry; exact PySem.EqNone.ne_bool_none (qX I q (by simp))
  | bl j=>cases ry; exact ne_bool (qX I q (congrArg not qk4))
  | str j=>obtain⟨t',rfl⟩:=ry; exact PySem.EqMixed.ne_bool_str (qX I q (by simp))
  | _=>exact absurd (show false=true from hs) zax
 | int i=>
  obtain⟨t,rfl⟩:=rx
  cases y with
  | non=>cases ry; exact PySem.EqNone.ne_int_none (qX I q (by simp))
  | int j=>obtain⟨t',rfl⟩:=ry; exact ne_int (qX I q (congrArg not qig))
  | str j=>obtain⟨t',rfl⟩:=ry; exact PySem.EqMixed.ne_int_str (qX I q (by simp))
  | _=>exact absurd (show false=true from hs) zax
 | str i=>
  obtain⟨t,rfl⟩:=rx
  cases y with
  | non=>cases ry; exact PySem.EqNone.ne_str_none (qX I q (by simp))
  | bl j=>cases ry; exact PySem.EqMixed.ne_str_bool (qX I q (by simp))
  | int j=>obtain⟨t',rfl⟩:=ry; exact PySem.EqMixed.ne_str_int (qX I q (by simp))
  | str j=>obtain⟨t',rfl⟩:=ry; exact ne_str (qX I q (congrArg not qiC))
  | _=>exact absurd (show false=true from hs) zax
 | byt i=>
  obtain⟨t,rfl⟩:=rx
  cases y with
  | byt j=>obtain⟨t',rfl⟩:=ry; exact PySem.W.ne_bytes (qX I q (congrArg not qhQ))
  | _=>exact absurd (show false=true from hs) zax
 | _=>cases y <;> exact absurd (show false=true from hs) zax
theorem qoY:OpR X (zaL .Lt) (rI0 fun i j=>.bl (decide (i < j))):=opB0 fun _ _ _ _ _ _ _ q=>lt_int q
theorem qoV:OpR X (zaL .Gt) (rI0 fun i j=>.bl (decide (j < i))):=opB0 fun _ _ _ _ _ _ _ q=>gt_int q
theorem qo6:OpR X (zaL .GtE) (rI0 fun i j=>.bl (decide (j<=i))):=opB0 fun _ _ _ _ _ _ _ q=>ge_int q
theorem qmn:OpR X (zaL .IsNot) (fun x y H Q=>y=.non/\Q (.bl (!decide (x=.non))) H):=by
 intro pins s σ H x y v u Q I rx ry h
 obtain⟨rfl,q⟩:=h
 cases ry
 refine isnot_none_gen (qX I q ?_)
 cases x <;> first
  | (cases rx; rfl)
  | (obtain⟨t,rfl⟩:=rx; rfl)
theorem OpR.or{f:Value->Value->Sem Value}{r r':R2}(h:OpR X f r)(h':OpR X f r'):OpR X f (fun x y H Q=>r x y H Q\/r' x y H Q):=by
 intro pins s σ H x y v u Q I rx ry q
 rcases q with q | q
 ·exact h pins s σ H x y v u Q I rx ry q
 ·exact h' pins s σ H x y v u Q I rx ry q
theorem qaz(b:Expr){op:CmpOp}(h:op≠.In:=by decide)(h2:op≠.NotIn:=by decide):behindInMarks op b=false:=by
 have e1:(op == CmpOp.In)=false:=by cases op <;> first | rfl | exact absurd rfl h
 have e2:(op == CmpOp.NotIn)=false:=by cases op <;> first | rfl | exact absurd rfl h2
 cases b <;> simp[behindInMarks,e1,e2]
theorem qmy{op:CmpOp}{r:R2}(ho:OpR X (zaL op) r)(ha:PE X a ta)(hb:PE X b tb)(hm:behindInMarks op b=false):PE X (.Compare a [op] [b] pos) (tOp r ta tb):=by
 intro pins s σ H Q I h
 exact wpAny_Compare1 (binT ha hb I h fun v u s2 x y H2 I2 rx ry q=>ho pins s2 σ H2 x y v u Q I2 rx ry q) hm
noncomputable def qoU(t:TE):TT:=fun σ H Q=>t σ H fun x H'=>∃ k,x=.bl k/\Q k H'
theorem qlF{op:CmpOp}{r:R2}(ho:OpR X (zaL op) r)(ha:PE X a ta)(hb:PE X b tb)(hm:behindInMarks op b=false):PT X (.Compare a [op] [b] pos) (qoU (tOp r ta tb)):=by
 intro pins s σ H Q I h
 refine wpAny_isTrue_Compare1 (thn (ha pins s σ H _ I h) fun v s1 ⟨x,H1,I1,r1,q1⟩=>thn (hb pins s1 σ H1 _ I1 q1) fun u s2 ⟨y,H2,I2,r2,q2⟩=>
  thn (ho pins s2 σ H2 x y v u _ I2 r1 r2 q2) fun c s3 ⟨z,H3,I3,r3,k,e,q3⟩=>?_) hm
 subst e
 cases r3
 exact wpAny_truthy_bool ⟨H3,I3,q3⟩
theorem qfx:(zal:Nat) < 2 ^ 63:=by rw[zbz]; decide
theorem qhx:OpR X (zaQ .Add) (fun x y H Q=>∃ i j,x=.str i/\y=.str j/\i.length + j.length<=zal/\Q (.str (i ++ j)) H):=by
 intro pins s σ H x y v u Q I rx ry h
 obtain⟨i,j,rfl,rfl,hz,q⟩:=h
 obtain⟨t,rfl⟩:=rx
 obtain⟨t',rfl⟩:=ry
 exact add_str (fun t' tk=>⟨.str (i ++ j),H,I.tok _,⟨_,rfl⟩,q⟩) hz
theorem vals1{x:V}{us:List Value}(r:Vals [x] us):∃ u,us=[u]/\RelV x u:=by
 cases r with
 | cons r1 r2=>cases r2; exact⟨_,rfl,r1⟩
theorem vals2{x y:V}{us:List Value}(r:Vals [x,y] us):∃ u w',us=[u,w']/\RelV x u/\RelV y w':=by
 cases r with
 | cons r1 r2=>
  cases r2 with
  | cons r3 r4=>cases r4; exact⟨_,_,rfl,r1,r3⟩
noncomputable def LenV(K:zad)(x:V)(H:Hp)(n:Nat):Prop:=
 match x with
 | .str y=>y.length<=zal/\n=y.length
 | .byt y=>y.size<=zal/\n=y.size
 | .ref p=>(∃ xs,SqL K H p xs/\n=xs.length)\/∃ xs,SqT K H p xs/\n=xs.length
 | _=>False
theorem qeu:CallR X (.builtin "len") (fun xs H Q=>∃ x n,xs=[x]/\LenV X.K x H n/\Q (.int n) H):=by
 intro pins s σ H xs us Q I r h
 obtain⟨x,n,rfl,e,q⟩:=h
 obtain⟨u,rfl,rx⟩:=vals1 r
 have hl:=qfx
 have hs:zal=16777216:=zbz
 cases x with
 | str y=>
  obtain⟨t,rfl⟩:=rx
  obtain⟨hy,e'⟩:y.length<=zal/\n=y.length:=e
  subst e'
  exact len_str (by omega) ⟨.int _,H,I.tok _,⟨_,rfl⟩,q⟩
 | byt y=>
  obtain⟨t,rfl⟩:=rx
  obtain⟨hy,e'⟩:y.size<=zal/\n=y.size:=e
  subst e'
  exact PySem.W.len_bytes (by omega) ⟨.int _,H,I.tok _,⟨_,rfl⟩,q⟩
 | ref p=>
  cases rx
  have e':(∃ xs,SqL X.K H p xs/\n=xs.length)\/∃ xs,SqT X.K H p xs/\n=xs.length:=e
  rcases e' with⟨xs,hx,e'⟩ | ⟨xs,hx,e'⟩
  ·subst e'
   obtain⟨its,r',pl,hz⟩:=I.list hx
   have hlen:=r'.length
   exact Calls.call_len_list pl.isList (by simp only[zat]; omega) ⟨.int xs.length,H,I.tok _,⟨_,by simp only[zat]; rw[hlen]⟩,q⟩
  ·subst e'
   obtain⟨its,r',pl,hz⟩:=I.tuple hx
   have hlen:=r'.length
   exact len_tuple pl (by simp only[zat]; omega) ⟨.int xs.length,H,I.tok _,⟨_,by simp only[zat]; rw[hlen]⟩,q⟩
 | _=>exact(show False from e).elim
end
structure ObjM(h:Heap)(x dx C:Addr)(mA:Str->Option Value):Prop where
 obj:h.get? x=some (PySem.W.instObj C dx)
 ns:h.Ns1 dx mA
 ne:dx≠x
theorem qjl{h:Heap}{dx:Addr}{mA:Str->Option Value}(n:h.Ns1 dx mA):∃ od,h.get? dx=some od/\∀ name,PySem.W.lookIn name od=some (mA name):=by
 obtain⟨o,es,ep,ho,hd,hk,_,hm⟩:=n
 refine⟨o,ho,fun name=>?_⟩
 have e:=hm name
 unfold nsFind findBy at e
 rw[<- Array.find?_toList] at e
 unfold PySem.W.lookIn
 rw[hd]
 dsimp only
 split
 ·rename_i y q
  rw[q] at e
  exact congrArg some e
 ·rename_i q
  rw[q] at e
  have a:es.toList.any (·.refKey)=false:=by
   rw[List.any_eq_false]
   intro y hy
   obtain⟨z,t,hkey⟩:=hk y (Array.mem_toList_iff.mp hy)
   simp[DictEntry.refKey,hkey]
  have a':¬ es.toList.any (·.refKey)=true:=by rw[a]; exact zax
  rw[if_neg a']
  exact congrArg some e
theorem ObjM.look{h:Heap}{x dx C:Addr}{mA:Str->Option Value}(I:ObjM h x dx C mA):∃ od,PySem.W.InstAt h x (PySem.W.instObj C dx) C (some od)/\∀ name,PySem.W.lookIn name od=some (mA name):=
 let ⟨od,ho,hl⟩:=qjl I.ns
 ⟨od,⟨I.obj,rfl,rfl,ho⟩,hl⟩
section
variable {prog:zai}{w:World}{A:Around}{E:Value->Shared->Prop}{s:Shared}{K:zad}{x dx C f:Addr}{mA:Str->Option Value}{name:Str}{v:Value}
end
theorem RelO.some_of{v:V}{o:Option Value}(r:RelO (some v) o):∃ u,o=some u/\RelV v u:=by
 cases o with
 | none=>exact(show False from r).elim
 | some u=>exact⟨u,rfl,r⟩
theorem RelO.none_of{o:Option Value}(r:RelO none o):o=none:=by
 cases o with
 | none=>rfl
 | some u=>exact(show False from r).elim
section
variable {P:zai}{w:World}{H H':Hp}{h h':Heap}{a C dx:Addr}{fs fs':List (Str × V)}
theorem qmQ(hok:HOk P w H h)(e:H a=some (.ins C dx fs)):∃ mA,ObjM h a dx C mA/\(∀ f,RelO (fs.lookup f) (mA f))/\PySem.Within mA (fs.map (·.1))/\fs.length<=1000/\H dx=some (.own a):=by
 obtain⟨d,z,ne,ob,mA,n,r,q⟩:=(show ObjOk P w H h a (.ins C dx fs) from hok a _ e)
 exact⟨mA,⟨ob,n,ne⟩,r,q,z,d⟩
end
structure Cls(K:zad)(C:Addr):Prop where
 pg:PySem.W.plainGet K C Str.empty=true
 hd:PySem.W.hasDictIn K C=true
 po:PySem.W.plainOver K C=true
 sa:PySem.W.findIn K (.ref C) "__setattr__" = some (some (.builtin "object.__setattr__"))
theorem Cls.get{K:zad}{C:Addr}(c:Cls K C)(f:Str):PySem.W.plainGet K C f=true:=c.pg
section
variable {X:Cx}{pins:List (Addr × Obj)}{σ:St}{H:Hp}{s:Shared}{a C dx:Addr}{fs:List (Str × V)}{f:Str}{v:V}{A:Around}{E:Value->Shared->Prop}
end
section
variable {X:Cx}{o e value:Expr}{f:Str}{pos pos' tpos:Pos}{ta tv:TE}
end
section
variable {X:Cx}{pins:List (Addr × Obj)}{σ:St}{H:Hp}{s:Shared}{A:Around}{E:Value->Shared->Prop}{Q:Value->Shared->Prop}{c:Value}{b:Bool}
inductive TyOf(K:zad)(H:Hp):V->Value->Prop where
 | non:TyOf K H .non (.type "NoneType")
 | bl (x:Bool):TyOf K H (.bl x) (.type "bool")
 | int (i:Int):TyOf K H (.int i) (.type "int")
 | str (x:Str):TyOf K H (.str x) (.type "str")
 | flt (x:UInt64):TyOf K H (.flt x) (.type "float")
 | lst {a:Addr} {xs:List V} (e:H a=some (.lst xs)):TyOf K H (.ref a) (.type "list")
 | frz {a:Addr} {o:Obj} {xs:List V} (e:H a=some (.frz o (.lst xs))):TyOf K H (.ref a) (.type "list")
 | tup {a:Addr} {xs:List V} (e:H a=some (.tup xs)):TyOf K H (.ref a) (.type "tuple")
 | dK {a:Addr} {kvs:List (Key × V)} (e:H a=some (.dK kvs)):TyOf K H (.ref a) (.type "dict")
 | dT {a:Addr} {kvs:List (List Key × V)} (e:H a=some (.dT kvs)):TyOf K H (.ref a) (.type "dict")
 | ins {a C dx:Addr} {fs:List (Str × V)} (e:H a=some (.ins C dx fs)) (cl:Cls K C) (ha:PySem.W.findIn K (.ref C) "__class__" = some (some (.builtin "object.__class__")))
   (hn:PySem.W.specialIn K (.builtin "object.__class__") "__get__" = some (some (.builtin "getset_descriptor.__get__"))) (htk:PySem.W.takesIn K (.builtin "object.__class__")=some true)
   (hm:PySem.W.mroIn K C (.type "object")=some true):TyOf K H (.ref a) (.ref C)
theorem qib{x:V}{u t:Value}(I:Inv X pins σ H s)(rx:RelV x u)(ty:TyOf X.K H x t)(e:PySem.W.kitOne X.K t c=some b)(h:∀ tk,Q (.bool b) { s with toks:=tk }) :
  wpAny (model X.prog X.w) A (call (.builtin "isinstance") [u,c]) Q E s:=by
 cases ty with
 | non=>cases(show u=zar from rx); exact zbn PySem.W.kitx_none I.kIn zbu e (fun z=>nomatch z) h
 | bl y=>cases(show u=Value.bool y from rx); exact zbn PySem.W.kitx_bool I.kIn zbu e (fun z=>nomatch z) h
 | int i=>obtain⟨t,q⟩:=(show ∃ t,u=Value.int i t from rx); cases q; exact zbn PySem.W.kitx_int I.kIn zbu e (fun z=>nomatch z) h
 | str y=>obtain⟨t,q⟩:=(show ∃ t,u=Value.str y t from rx); cases q; exact zbn PySem.W.kitx_str I.kIn zbu e (fun z=>nomatch z) h
 | flt y=>obtain⟨t,q⟩:=(show ∃ t,u=Value.float y t from rx); cases q; exact zbn PySem.W.kitx_float I.kIn zbu e (fun z=>nomatch z) h
 | @lst a xs ea=>
  cases(show u=zaj a from rx)
  obtain⟨_,_,n,_,h1⟩:=(show ObjOk X.prog X.w H s.heap a (.lst xs) from I.hok a _ ea)
  exact zbn PySem.W.kitx_list I.kIn ⟨_,h1,rfl⟩ e (fun z=>nomatch z) h
 | @frz a ob xs ea=>
  cases(show u=zaj a from rx)
  obtain⟨_,_,_,n,_,h1⟩:=(show ObjOk X.prog X.w H s.heap a (.frz ob (.lst xs)) from I.hok a _ ea)
  exact zbn PySem.W.kitx_list I.kIn ⟨_,h1,rfl⟩ e (fun z=>nomatch z) h
 | @tup a xs ea=>
  cases(show u=zaj a from rx)
  obtain⟨_,_,_,p⟩:=(show ObjOk X.prog X.w H s.heap a (.tup xs) from I.hok a _ ea)
  obtain⟨o,h1,h2,_⟩:=p
  exact zbn PySem.W.kitx_tuple I.kIn ⟨o,h1,h2⟩ e (fun z=>nomatch z) h
 | @dK a kvs ea=>
  cases(show u=zaj a from rx)
  obtain⟨_,_,vs,_,p⟩:=(show ObjOk X.prog X.w H s.heap a (.dK kvs) from I.hok a _ ea)
  obtain⟨o,es,ep,h1,h2,_⟩:=p
  exact zbn PySem.W.kitx_dict I.kIn ⟨o,h1,h2.1⟩ e (fun z=>nomatch z) h
 | @dT a kvs ea=>
  cases(show u=zaj a from rx)
  obtain⟨_,_,xs,_,o,es,ep,h1,h2,_⟩:=(show ObjOk X.prog X.w H s.heap a (.dT kvs) from I.hok a _ ea)
  exact zbn PySem.W.kitx_dict I.kIn ⟨o,h1,h2.1⟩ e (fun z=>nomatch z) h
 | @ins a C dx fs ea cl ha hn htk hm=>
  cases(show u=zaj a from rx)
  obtain⟨mA,O,_⟩:=qmQ I.hok ea
  obtain⟨od,J,_⟩:=O.look
  exact zbn (PySem.W.kitx_own (cl.get _) cl.hd ha hn htk hm) I.kIn J e (fun z=>nomatch z) h
end
structure Room(k:Nat)(A:Around):Prop where
 hd:A.handled=none
 dp:A.depth + 3 * k + 5 < recursionLimit
 un:A.units + 16 * k + 200 < cLine
theorem Room.mono{j k:Nat}{A:Around}(r:Room k A)(h:j<=k):Room j A:=⟨r.hd,by have:=r.dp; omega,by have:=r.un; omega⟩
theorem Room.deeper{k:Nat}{A:Around}(r:Room (k + 1) A)(env:Env):Room k (A.deeper env):=
 ⟨r.hd,by have:=r.dp; show A.depth + 1 + 3 * k + 5 < _; omega,by have:=r.un; show A.units + 3 + 16 * k + 200 < _; omega⟩
theorem Room.in1{k:Nat}{A:Around}(r:Room (k + 1) A):Room k A.in1:=
 ⟨r.hd,by have:=r.dp; show A.depth + 3 * k + 5 < _; omega,by have:=r.un; show A.units + 1 + 16 * k + 200 < _; omega⟩
theorem Room.depth{k:Nat}{A:Around}(r:Room k A):A.depth < recursionLimit:=by have:=r.dp; omega
theorem Room.units{k:Nat}{A:Around}(r:Room k A):A.units + 64 < cLine:=by have:=r.un; omega
theorem Room.units0{k:Nat}{A:Around}(r:Room k A):A.units < cLine:=by have:=r.un; omega
noncomputable def tNil:TA:=fun _ H Q=>Q [] H
noncomputable def qki(ta:TE)(tr:TA):TA:=fun σ H Q=>ta σ H fun x H1=>tr σ H1 fun xs H2=>Q (x :: xs) H2
section
variable {X:Cx}{e:Expr}{es:List Expr}{te:TE}{t:TA}{pos:Pos}
theorem qdh:PA X [] tNil:=fun _ _ _ _ H Q I h=>Calls.spliced_nil ⟨[],H,I,.nil,h⟩
theorem qbA(ha:PE X e te)(hr:PA X es t)(hs:zap (e :: es) X.env=(false,eval e X.env) :: zap es X.env:=by rfl):PA X (e :: es) (qki te t):=by
 intro pos pins s σ H Q I h
 rw[hs]
 show wpAny _ _ (spliced ((false,eval e X.env) :: backTo pos (zap es X.env))) _ _ s
 refine Calls.spliced_cons (thn (ha pins s σ H _ I h) fun u s1 ⟨x,H1,I1,r1,q1⟩=>?_)
 exact thn (hr pos pins s1 σ H1 _ I1 q1) fun us s2 ⟨xs,H2,I2,r2,q2⟩=>⟨x :: xs,H2,I2,.cons r1 r2,q2⟩
noncomputable def tTup(t:TA):TE:=fun σ H Q=>t σ H fun xs H1=>xs.length<=zal/\∀ p,H1 p=none->Q (.ref p) (upd H1 p (.tup xs))
noncomputable def tLst(t:TA):TE:=fun σ H Q=>t σ H fun xs H1=>xs.length<=zal/\∀ p,H1 p=none->Q (.ref p) (upd H1 p (.lst xs))
theorem qnw{x1}(h:PA X es t):PE X (.Tuple es x1 pos) (tTup t):=by
 intro pins s σ H Q I hq
 refine wpAny_Tuple_spliced (thn (h pos pins s σ H _ I hq) fun us s1 ⟨xs,H1,I1,r,z,q⟩=>⟨by rw[<- r.length]; exact z,?_⟩)
 have hf:H1 s1.heap.objs.size=none:=I1.hok.fresh (zae _)
 refine⟨.ref s1.heap.objs.size,upd H1 s1.heap.objs.size (.tup xs),I1.laid (t':=s1.toks) (fun b u e=>zah _ e) (zae _) ?_,rfl,q _ hf⟩
 exact⟨z,us,r,⟨_,zay _ rfl,rfl,_,rfl,rfl⟩⟩
theorem qnT(h:PA X es t):PE X (.List es pos) (tLst t):=by
 intro pins s σ H Q I hq
 refine wpAny_List_spliced (thn (h pos pins s σ H _ I hq) fun us s1 ⟨xs,H1,I1,r,z,q⟩=>⟨by rw[<- r.length]; exact z,?_⟩)
 have hf:H1 s1.heap.objs.size=none:=I1.hok.fresh (zae _)
 refine⟨.ref s1.heap.objs.size,upd H1 s1.heap.objs.size (.lst xs),I1.laid (t':=s1.toks) (fun b u e=>zah _ e) (zae _) ?_,rfl,q _ hf⟩
 exact⟨z,us,0,r,zay _ rfl⟩
end
noncomputable abbrev Sp:=List V->Hp->VK->XK->Prop
noncomputable abbrev CXT:=List Env->Hp->Shared->XK->Value->Shared->Prop
structure Env0(P:zai)(w:World)(K:zad)(mg:Str->Option Value)(base:Heap)(A:Around)(outer:List Env)(s:Shared)(H:Hp):Prop where
 frames:A.frames=some outer
 mod:Mod K mg base
 bs:∀ b o,base.get? b=some o->s.heap.get? b=some o/\H b=none
 bsz:base.objs.size<=s.heap.objs.size
 funs:s.heap.FunFrames base outer
 frf:∀ b∈frs outer,H b=none
 hok:HOk P w H s.heap
 bare:AllBare s.gens
noncomputable def CE(outer:List Env)(P:zai)(w:World)(H:Hp)(s:Shared)(Q:VK)(u:Value)(s':Shared):Prop:=
 ∃ v H',s'.os=s.os/\AllBare s'.gens/\Un (frs outer) [] H H' s.heap s'.heap/\HOk P w H' s'.heap/\RelV v u/\Q v H'
noncomputable def CR(CX:CXT)(outer:List Env)(P:zai)(w:World)(H:Hp)(s:Shared)(Q:VK)(E:XK)(r:Result)(s':Shared):Prop:=
 match r with
 | .ok (.ret u)=>CE outer P w H s Q u s'
 | .ok _=>False
 | .error e=>CX outer H s E e s'
structure FnOk(P:zai)(w:World)(K:zad)(mg:Str->Option Value)(base:Heap)(CX:CXT)(k:Nat)(f:Addr)(fd:FuncData)(ps:List Str)(sp:Sp):Prop where
 len:∀ vs H Q E,sp vs H Q E->vs.length=ps.length
 run:∀ (A:Around) (outer:List Env) (s:Shared) (H:Hp) (args:Args) (us:List Value) (vs:List V) (Q:VK) (E:XK),Room k A->Env0 P w K mg base A outer s H->BindsTo s fd args (ps.zip us)->Vals vs us->sp vs H Q E->
  codeAny (model P w) A (.call (.ref f) args) (CR CX outer P w H s Q E) s
theorem FnOk.mono{P:zai}{w:World}{K:zad}{mg:Str->Option Value}{base:Heap}{CX:CXT}{j k:Nat}{f:Addr}{fd:FuncData}{ps:List Str}{sp:Sp}(F:FnOk P w K mg base CX j f fd ps sp)(h:j<=k) :
  FnOk P w K mg base CX k f fd ps sp:=⟨F.len,fun A outer s H args us vs Q E hr=>F.run A outer s H args us vs Q E (hr.mono h)⟩
theorem FnOk.imp{P:zai}{w:World}{K:zad}{mg:Str->Option Value}{base:Heap}{CX:CXT}{k:Nat}{f:Addr}{fd:FuncData}{ps:List Str}{sp sp':Sp}(F:FnOk P w K mg base CX k f fd ps sp)
  (h:∀ vs H Q E,sp' vs H Q E->sp vs H Q E):FnOk P w K mg base CX k f fd ps sp':=
 ⟨fun vs H Q E q=>F.len vs H Q E (h _ _ _ _ q),fun A outer s H args us vs Q E hr he hb hv hs=>F.run A outer s H args us vs Q E hr he hb hv (h _ _ _ _ hs)⟩
theorem Env0.in1{P:zai}{w:World}{K:zad}{mg:Str->Option Value}{base:Heap}{A:Around}{outer:List Env}{s:Shared}{H:Hp}(e:Env0 P w K mg base A outer s H) :
  Env0 P w K mg base A.in1 outer s H:=⟨e.frames,e.mod,e.bs,e.bsz,e.funs,e.frf,e.hok,e.bare⟩
section
variable {X:Cx}{pins:List (Addr × Obj)}{σ:St}{H:Hp}{s s':Shared}
theorem Inv.env0(I:Inv X pins σ H s):Env0 X.prog X.w X.K X.mg X.base X.A X.stack s H:=
 ⟨I.ok.frames,I.ok.mod,I.bs,za6 I.ok.bsz I.sz,I.stack,I.stkFree,I.hok,I.bare⟩
theorem Inv.after{Q:VK}{u:Value}(I:Inv X pins σ H s)(h:CE X.stack X.prog X.w H s Q u s'):EP X pins σ Q u s':=by
 obtain⟨v,H',os,bare,un,hok,r,q⟩:=h
 obtain⟨hh,g,d,t,os'⟩:=s'
 obtain rfl:os'=s.os:=os
 exact⟨v,H',I.call (h':=hh) (g':=g) (d':=d) (t':=t) (ch:=[]) un hok bare (fun b z=>absurd z (by simp)),r,q⟩
end
noncomputable def qoB(sp:Sp)(dvs:List V)(E:XK)(t:TA):TE:=fun σ H Q=>t σ H fun vs H1=>sp (vs ++ dvs) H1 Q E
noncomputable def Binds(K:zad)(fd:FuncData)(ps:List Str)(ds:List Value):Prop:=
 ∀ (s:Shared) (us:List Value),K.In s.heap->(us ++ ds).length=ps.length->BindsTo s fd ⟨us,[]⟩ (ps.zip (us ++ ds))
theorem Binds.all{K:zad}{fd:FuncData}{ps:List Str}(h:∀ us:List Value,us.length=ps.length->bindArgs fd ⟨us,[]⟩=pure (ps.zip us)):Binds K fd ps []:=fun s us _ hl=>by
 rw[List.append_nil] at hl ⊢
 exact .of_eq (h us hl)
noncomputable def qiS(CX:CXT)(X:Cx)(E:XK):Prop:=∀ (pins:List (Addr × Obj)) (σ:St) (H:Hp) (s:Shared) (e:Value) (s':Shared),Inv X pins σ H s->CX X.stack H s E e s'->X.xe e s'
section
variable {X:Cx}{CX:CXT}{k:Nat}{f C:Addr}{fd:FuncData}{ps:List Str}{sp:Sp}{dvs:List V}{ds:List Value}{E:XK}{x m:Str}{p pos apos:Pos}{e o:Expr}{es:List Expr}{ta:TE}{t:TA}
theorem qof{pins:List (Addr × Obj)}{σ:St}{H:Hp}{s:Shared}{Q:VK}{us:List Value}{vs:List V}(F:FnOk X.prog X.w X.K X.mg X.base CX k f fd ps sp)(hr:Room k X.A)(hb:Binds X.K fd ps ds)(hd:Vals dvs ds)(hx:qiS CX X E)
  (I:Inv X pins σ H s) (r:Vals vs us) (h:sp (vs ++ dvs) H Q E):wpAny (model X.prog X.w) X.A (call (.ref f) us) (EP X pins σ Q) X.xe s:=by
 have r2:Vals (vs ++ dvs) (us ++ ds):=r.append hd
 have hl:(us ++ ds).length=ps.length:=by rw[<- r2.length]; exact F.len _ _ _ _ h
 refine wpAny_call (codeAny_mono (F.run X.A X.stack s H ⟨us,[]⟩ (us ++ ds) (vs ++ dvs) Q E hr I.env0 (hb s us I.kIn hl) r2 h) fun r s' hq=>?_)
 cases r with
 | error e=>exact hx pins σ H s e s' I hq
 | ok fl=>
  cases fl with
  | ret u=>exact I.after hq
  | next=>exact zbs hq
  | brk=>exact zbs hq
  | cont=>exact zbs hq
theorem ql4(F:FnOk X.prog X.w X.K X.mg X.base CX k f fd ps sp)(hr:Room k X.A)(hg:Gl X x)(hm:X.mg x=some (.ref f))(hk:zaH X.K (.ref f)=true)(hb:Binds X.K fd ps ds)(hd:Vals dvs ds)(hx:qiS CX X E)
  (ha:PA X (e :: es) t) (hdb:(x == ("__debug__" : Str))=false:=by decide) (he:zap (e :: es) X.env=(false,eval e X.env) :: zap es X.env:=by rfl) (hpl:(backTo pos (zap es X.env)).any (·.1)=false:=by rfl) :
  PE X (.Call (.Name x p) (e :: es) [] pos) (qoB sp dvs E t):=by
 intro pins s σ H Q I h
 refine wpAny_Call_Name_kw (qlG I hg hm ?_ hdb)
 refine PySem.W.callWith_K (h₀:=X.base) I.ok.mod.kin hk (thn (ha pos pins s σ H _ I h) fun us s1 ⟨vs,H1,I1,r,q⟩=>⟨I1.kIn,?_⟩) he hpl
 exact qof F hr hb hd hx I1 r q
structure Mk(K:zad)(C f:Addr):Prop where
 makes:PySem.W.makesIn K C=true
 init:PySem.W.findIn K (.ref C) "__init__" = some (some (.ref f))
 fn:PySem.W.isFn K (.ref f)=true
 kp:zaH K (.ref C)=true
end
noncomputable def PK(X:Cx)(kws:List Keyword)(t:TA):Prop:=
 ∀ (pos:Pos) (pins:List (Addr × Obj)) (s:Shared) (σ:St) (H:Hp) (Q:List V->Hp->Prop),Inv X pins σ H s->t σ H Q->wpAny (model X.prog X.w) X.A (evalAll ((backToKw pos (keywordEach kws X.env)).map (·.2))) (AP X pins σ Q) X.xe s
section
variable {X:Cx}{CX:CXT}{k:Nat}{f C:Addr}{fd:FuncData}{ps ks:List Str}{sp:Sp}{E:XK}{x m:Str}{p pos apos kpos:Pos}{e o:Expr}{es:List Expr}{kws:List Keyword}{te ta:TE}{t tk:TA}{nm:Option Str}
theorem qnB:PK X [] tNil:=fun _ _ _ _ H Q I h=>wpAny_evalAll_nil ⟨[],H,I,.nil,h⟩
theorem qlt(ha:PE X e te)(hr:PK X kws t):PK X (⟨nm,e,kpos⟩ :: kws) (qki te t):=by
 intro pos pins s σ H Q I h
 show wpAny _ _ (evalAll ((do let v <- eval e X.env; standAt pos; pure v) :: (backToKw pos (keywordEach kws X.env)).map (·.2))) _ _ s
 refine wpAny_evalAll_cons (zaa (thn (ha pins s σ H _ I h) fun u s1 ⟨x,H1,I1,r1,q1⟩=>zaa (wpAny_standAt (zab ?_))))
 exact thn (hr pos pins s1 σ H1 _ I1 q1) fun us s2 ⟨xs,H2,I2,r2,q2⟩=>⟨x :: xs,H2,I2,.cons r1 r2,q2⟩
variable {g:List Value->List Value->List Value}{gV:List V->List V->List V}
end
structure FnScope(N P:List Str)(sc:Scope):Prop where
 kind:sc.kind=.function
 co:sc.isCoroutine=false
 gen:sc.isGenerator=false
 nd:N.Nodup
 pre:N.take P.length=P
 par:∀ x∈P,sc.names.lookup x=some .local\/sc.names.lookup x=some .cell
 nofree:∀ y∈sc.names,y.2≠.free
theorem qfk{kindOf:Str->Option NameKind}{x:Str}:∀ {binds:List (Str × Value)} {m:Str->Option Value},(∀ v,(x,v) ∉ binds)->bindL kindOf binds m x=m x
 | [],_,_=>rfl
 | (n,v) :: r,m,h=>by
  unfold bindL
  rw[qfk fun w hw=>h w (zaw _ hw)]
  split
  ·have:x≠n:=by rintro rfl; exact h v zav
   simp[this]
  ·rfl
theorem qeK{kindOf:Str->Option NameKind}{x:Str}:∀ {binds:List (Str × Value)} {m:Str->Option Value},(∀ v,(x,v) ∉ binds)->bindC kindOf binds m x=m x
 | [],_,_=>rfl
 | (n,v) :: r,m,h=>by
  unfold bindC
  rw[qeK fun w hw=>h w (zaw _ hw)]
  split
  ·rfl
  ·have:x≠n:=by rintro rfl; exact h v zav
   simp[this]
theorem qfs{kindOf:Str->Option NameKind}{x:Str}{v:Value}:∀ {P:List Str} {vs:List Value} {i:Nat} {m:Str->Option Value},P.Nodup->P[i]?=some x->vs[i]?=some v->kindOf x=some .local->
  bindL kindOf (P.zip vs) m x=some v
 | [],_,_,_,_,h,_,_=>by simp at h
 | _ :: _,[],_,_,_,_,h,_=>by simp at h
 | p :: P,w :: vs,0,m,nd,h1,h2,hk=>by
  simp at h1 h2; subst h1; subst h2
  show bindL kindOf ((p,w) :: P.zip vs) m p=_
  unfold bindL
  rw[qfk fun v hv=>(List.nodup_cons.mp nd).1 (List.of_mem_zip hv).1,if_pos hk]
  simp
 | p :: P,w :: vs,i + 1,m,nd,h1,h2,hk=>by
  show bindL kindOf ((p,w) :: P.zip vs) m x=_
  unfold bindL
  exact qfs (i:=i) (List.nodup_cons.mp nd).2 (by simpa using h1) (by simpa using h2) hk
theorem qeX{kindOf:Str->Option NameKind}{x:Str}{v:Value}:∀ {P:List Str} {vs:List Value} {i:Nat} {m:Str->Option Value},P.Nodup->P[i]?=some x->vs[i]?=some v->kindOf x≠some .local->
  bindC kindOf (P.zip vs) m x=some v
 | [],_,_,_,_,h,_,_=>by simp at h
 | _ :: _,[],_,_,_,_,h,_=>by simp at h
 | p :: P,w :: vs,0,m,nd,h1,h2,hk=>by
  simp at h1 h2; subst h1; subst h2
  show bindC kindOf ((p,w) :: P.zip vs) m p=_
  unfold bindC
  rw[qeK fun v hv=>(List.nodup_cons.mp nd).1 (List.of_mem_zip hv).1,if_neg hk]
  simp
 | p :: P,w :: vs,i + 1,m,nd,h1,h2,hk=>by
  show bindC kindOf ((p,w) :: P.zip vs) m x=_
  unfold bindC
  exact qeX (i:=i) (List.nodup_cons.mp nd).2 (by simpa using h1) (by simpa using h2) hk
noncomputable def start(N:List Str)(vs:List V):St:=vs.map some ++ List.replicate (N.length - vs.length) none
noncomputable def cxOf(CX:CXT)(P:zai)(w:World)(K:zad)(mg:Str->Option Value)(base:Heap)(N:List Str)(qual:Str)(scope:Scope)(f:Addr)(cd:Value)(A:Around)(outer:List Env)(s:Shared)(H:Hp)(E:XK):Cx where
 prog:=P
 w:=w
 K:=K
 mg:=mg
 base:=base
 A:=A.deeper (envOfC qual scope s.heap.objs.size f cd)
 N:=N
 s₀:=s
 H₀:=H
 env:=envOfC qual scope s.heap.objs.size f cd
 outer:=outer
 stack:=envOfC qual scope s.heap.objs.size f cd :: outer
 ex:=[]
 calm:=true
 fn:=fun _=>true
 pn:=[]
 xe:=fun e s'=>wpAny (model P w) (A.deeper (envOfC qual scope s.heap.objs.size f cd)) (leaving (envOfC qual scope s.heap.objs.size f cd) e) (fun _ s''=>CX outer H s E e s'') (fun e' s''=>CX outer H s E e' s'') s'
theorem qeh{sc:Scope}{n:Nat}{x:Str}(h:sc.names.lookup x=some .cell):∃ c,(cellsFrom n sc.names []).lookup x=some c:=by
 have q:=PySem.W.cellsFrom_some sc.names n [] (.inl h)
 exact Option.isSome_iff_exists.mp q
theorem qhZ{CX:CXT}{P:zai}{w:World}{K:zad}{mg:Str->Option Value}{base:Heap}{N ps:List Str}{qual:Str}{scope:Scope}{f:Addr}{cd:Value}{A:Around}{outer:List Env}{s s1:Shared}{H:Hp}{E:XK}{us:List Value}{vs:List V}
  (S:FnScope N ps scope) (hd:A.handled=none) (e0:Env0 P w K mg base A outer s H) (hl:vs.length=ps.length) (r:Vals vs us)
  (x:InCallC s s.heap.objs.size (bindL (envOfC qual scope s.heap.objs.size f cd).kindOf (ps.zip us) fun _=>none) (cellsFrom (s.heap.objs.size + 1) scope.names []) (bindC (envOfC qual scope s.heap.objs.size f cd).kindOf (ps.zip us) fun _=>none) s1) :
  Inv (cxOf CX P w K mg base N qual scope f cd A outer s H E) [] (start N vs) H s1:=by
 have hpl:ps.length<=N.length:=by have:=congrArg zbI S.pre; rw[List.length_take] at this; omega
 obtain⟨h1,tk,rfl,hk⟩:=x.done
 have noA:∀ b:Addr,b ∉ (cxOf CX P w K mg base N qual scope f cd A outer s H E).ex:=fun b z=>absurd (show b∈([]:List Addr) from z) (by simp)
 refine⟨⟨e0.mod,S.kind,rfl,rfl,zae _,fun y z c h1 h2=>?_,fun y hy=>?_,fun y c _ h=>?_,fun _=>hd,Around.frames_deeper e0.frames,.inr ⟨rfl,rfl⟩,fun b z=>absurd z (noA b),e0.bs,e0.bsz,fun b _ _=>noA b,fun b z=>absurd z (noA b),e0.funs,e0.frf⟩,
  rfl,e0.bare,Un.kept hk,⟨_,x.toInCall.ns,fun i y v h1 h2 h3=>?_⟩,fun y c h=>⟨_,x.cell y c h⟩,e0.hok.fresh (zae _),fun y c h=>?_,fun p hp=>absurd (show p∈([]:List (Addr × Obj)) from hp) (by simp),e0.hok.kept hk,?_⟩
 ·exact name_of_addr x.apart (PySem.mem_of_lookup h1) (PySem.mem_of_lookup h2)
 ·have hy:scope.names.lookup y=some .cell\/scope.names.lookup y=some .free:=hy
  rcases hy with hy | hy
  ·exact qeh hy
  ·exact absurd rfl (S.nofree _ (PySem.mem_of_lookup hy))
 ·exact Nat.le_of_lt (x.above y c (PySem.mem_of_lookup h))
 ·have hi:i < vs.length:=by
   unfold start at h2
   by_cases hi:i < vs.length
   ·exact hi
   ·rw[List.getElem?_append_right (by simpa using hi)] at h2
    rw[List.getElem?_replicate] at h2
    split at h2 <;> cases h2
  have ha:vs[i]?=some v:=by
   unfold start at h2
   rw[zcj (by simpa using hi),zaz] at h2
   cases e:vs[i]? with
   | none=>rw[e] at h2; cases h2
   | some a=>rw[e] at h2; cases h2; rfl
  obtain⟨u,hu,rv⟩:=r.get ha
  have hp:ps[i]?=some y:=by
   rw[<- S.pre,List.getElem?_take_of_lt (by omega)]; exact h1
  have ndP:ps.Nodup:=by rw[<- S.pre]; exact S.nd.sublist (List.take_sublist _ _)
  refine⟨u,rv,?_⟩
  rcases S.par y (za4 hp) with k | k
  ·exact .inl ⟨k,qfs ndP hp hu k⟩
  ·obtain⟨c,e⟩:=qeh (n:=s.heap.objs.size + 1) k
   refine .inr ⟨.inl k,c,e,?_⟩
   have q:=x.cell y c e
   rw[qeX ndP hp hu (by show scope.names.lookup y≠_; rw[k]; decide)] at q
   exact q
 ·exact e0.hok.fresh (Nat.le_of_lt (x.above y c (PySem.mem_of_lookup h)))
 ·unfold start
  show _=N.length
  rw[zbA,zaq,List.length_replicate]
  omega
theorem qoM{CX:CXT}{P:zai}{w:World}{K:zad}{mg:Str->Option Value}{base:Heap}{k:Nat}{f:Addr}{name qual:Str}{params:Arguments}{body:List Stmt}{scope:Scope}{dV kV doc pm cdv ct oc:Value}{an od:Option Addr}
  {osl:Array (Option Value)} {N ps:List Str} {sp:Sp} (lk:K.lookup f=some ⟨oc,od,.func (zaG name qual params body scope dV kV doc pm an cdv ct),osl⟩) (hcd:zaM K cdv qual=true) (S:FnScope N ps scope)
  (len:∀ vs H Q E,sp vs H Q E->vs.length=ps.length)
  (hbody : ∀ (A : Around) (outer : List Env) (s : Shared) (H : Hp) (vs : List V) (Q : VK) (E : XK), Room k (A.deeper (envOfC qual scope s.heap.objs.size f cdv)) -> sp vs H Q E ->
   ∃ t,PSs (cxOf CX P w K mg base N qual scope f cdv A outer s H E) body t/\t { nx:=fun _ H'=>Q .non H',rt:=Q } (start N vs) H) :
  FnOk P w K mg base CX (k + 1) f (zaG name qual params body scope dV kV doc pm an cdv ct) ps sp:=by
 refine⟨len,fun A outer s H args us vs Q E hr e0 hb r hsp=>?_⟩
 have hl:=len _ _ _ _ hsp
 have KX:K.In s.heap:=e0.mod.kin.keeps fun b o e=>(e0.bs b o e).1
 have lim:s.heap.NoLimit:=e0.mod.nolimit.keeps fun b o e=>(e0.bs b o e).1
 have hkind:∀ y∈ps.zip us,scope.names.lookup y.1=some .local\/(scope.names.lookup y.1=some .cell/\((cellsFrom (s.heap.objs.size + 1) scope.names []).lookup y.1).isSome=true):=by
  rintro⟨n,v⟩ hy
  rcases S.par n (List.of_mem_zip hy).1 with q | q
  ·exact .inl q
  ·exact .inr ⟨q,PySem.W.cellsFrom_some _ _ _ (.inl q)⟩
 refine codeAny_call_function hr.depth (KX _ _ lk) rfl S.co S.gen rfl (PySem.W.codeRec_of KX hcd) (hb _ _ _ _ ?_)
 refine wpAny_newFunctionEnv_cells S.kind hkind fun env he s1 x=>?_
 subst he
 refine⟨lim.keeps x.toInCall.keep,codeAny_func ?_⟩
 obtain⟨t,ht,hq⟩:=hbody A outer s H vs Q E (hr.deeper _) hsp
 have I:Inv (cxOf CX P w K mg base N qual scope f cdv A outer s H E) [] (start N vs) H s1:=qhZ S hr.hd e0 hl r x
 refine za0 (ht [] s1 (start N vs) H _ I hq) (fun fl s' hs=>?_) fun e s' hs=>hs
 have fin:∀ {σ':St} {H':Hp} {v:V} {u:Value},Inv (cxOf CX P w K mg base N qual scope f cdv A outer s H E) [] σ' H' s'->RelV v u->Q v H'->CE outer P w H s Q u s':=
  fun {σ' H' v u} J rv q=>⟨v,H',J.os,J.bare,J.base,J.hok,rv,q⟩
 cases fl with
 | ret u=>
  obtain⟨v,σ',H',J,rv,q⟩:=hs
  exact fin J rv q
 | next=>
  obtain⟨σ',H',J,q⟩:=hs
  exact fin (v:=V.non) (u:=zar) J rfl q
 | brk=>
  obtain⟨_,_,_,q⟩:=hs
  exact zbs q
 | cont=>
  obtain⟨_,_,_,q⟩:=hs
  exact zbs q
section
variable {X:Cx}{x:Str}{p pos:Pos}{e:Expr}{es:List Expr}{t:TA}{id T:String}{r:List V->Hp->VK->Prop}
noncomputable def tCB(r:List V->Hp->VK->Prop)(t:TA):TE:=fun σ H Q=>t σ H fun vs H1=>r vs H1 Q
theorem qcK(hc:CallR X (.builtin id) r)(hg:Gl X x)(hm:X.mg x=none)(hv:zaJ x=some (.builtin id))(ha:PA X (e :: es) t)(hn:x ≠ "__name__" := by decide)(hdb:(x == ("__debug__" : Str))=false:=by decide)
  (he:zap (e :: es) X.env=(false,eval e X.env) :: zap es X.env:=by rfl) (hpl:(backTo pos (zap es X.env)).any (·.1)=false:=by rfl):PE X (.Call (.Name x p) (e :: es) [] pos) (tCB r t):=by
 intro pins s σ H Q I h
 refine wpAny_Call_Name_kw (qdp I hg hm hv ?_ hn hdb)
 exact PyProof.Rows.callWith_builtin1 (thn (ha pos pins s σ H _ I h) fun us s1 ⟨vs,H1,I1,r1,q1⟩=>hc pins s1 σ H1 vs us Q I1 r1 q1) he hpl
theorem qda(hc:CallR X (.type T) r)(hg:Gl X x)(hm:X.mg x=none)(hv:zaJ x=some (.type T))(ha:PA X (e :: es) t)(hn:x ≠ "__name__" := by decide)(hdb:(x == ("__debug__" : Str))=false:=by decide)
  (he:zap (e :: es) X.env=(false,eval e X.env) :: zap es X.env:=by rfl) (hpl:(backTo pos (zap es X.env)).any (·.1)=false:=by rfl):PE X (.Call (.Name x p) (e :: es) [] pos) (tCB r t):=by
 intro pins s σ H Q I h
 refine wpAny_Call_Name_kw (qdp I hg hm hv ?_ hn hdb)
 exact zcr (thn (ha pos pins s σ H _ I h) fun us s1 ⟨vs,H1,I1,r1,q1⟩=>hc pins s1 σ H1 vs us Q I1 r1 q1) he hpl
end
end L2
namespace HT
open PySem PyProof.Rows
noncomputable def lexLt:List Int->List Int->Bool
 | [],[]=>false
 | [],_ :: _=>true
 | _ :: _,[]=>false
 | x :: xs,y :: ys=>if x=y then lexLt xs ys else decide (x < y)
theorem qaQ(x y:Int)(xs ys:List Int):lexLt (x :: xs) (y :: ys)=if x=y then lexLt xs ys else decide (x < y):=rfl
theorem qd5:lexLt [] []=false:=rfl
theorem qdx(y:Int)(ys:List Int):lexLt [] (y :: ys)=true:=rfl
theorem qdA(x:Int)(xs:List Int):lexLt (x :: xs) []=false:=rfl
theorem qjX(A:Around)(s:Shared)(a:Int)(t:Tok)(c:Int)(u:Tok):∃ e,SeqAt.EqAt A s (.int a t) (.int c u) e/\(e=true↔a=c):=
 ⟨(a == c),SeqAt.EqAt.int_int a t c u,by simp⟩
theorem qkk(A:Around)(s:Shared)(a:Int)(t:Tok)(c:Int)(u:Tok)(prog:zai)(w:World)(E:Value->Shared->Prop)(Q:Value->Shared->Prop)(h:Q (.bool (decide (a < c))) s) :
  wpAny (model prog w) A (richCompare .Lt (.int a t) (.int c u)) Q E s:=
 (PyProof.Rows.lt_int h:wpAny (model prog w) A (zaL .Lt (.int a t) (.int c u)) Q E s)
section
open PySem.SeqAt
open PySem.AutoSeq1 (wpAny_loadPart')
open PySem.MeetsSeq PySem.MeetsSeq2 PySem.MeetsSeq3
theorem qdZ(l b:Addr)(items items2:Array Value)(n n2:Nat)(dd dd2:Option Addr)(sl sl2:Array (Option Value))(ns ms:List Int)(hi:zaV items.toList ns)(hj:zaV items2.toList ms) :
  Meets (Builtin.«tuple.__lt__» ⟨[.ref l,.ref b],[]⟩)
   (fun _ R s => s.heap.get? l = some { cls := .type "tuple", dict := dd, data := .seq items n, slots := sl } /\ s.heap.get? b = some { cls := .type "tuple", dict := dd2, data := .seq items2 n2, slots := sl2 } /\
    R (.ok (.ret (.bool (lexLt ns ms)))) s):=
 .of_wp fun prog w A R s h=>by
  obtain⟨hp,g,d,tk,os⟩:=s; obtain⟨hl,hb,h⟩:=h
  have f2:=AutoSeq1.sub_tuple_tuple
  have z1:items.size=ns.length:=by rw[<- hi.length]; simp
  have z2:items2.size=ms.length:=by rw[<- hj.length]; simp
  wp_walk using wpAny_loadPart' hl,wpAny_loadPart' hb,wpAny_forIn_list _ (fun rest b s'=>b.1=none/\s'=⟨hp,g,d,tk,os⟩/\∃ (vs ws:List Value) (ns' ms':List Int),rest=vs.zip ws /\
   zaV vs ns'/\zaV ws ms'/\ns'.length + items2.size=ms'.length + items.size/\R (.ok (.ret (.bool (lexLt ns' ms')))) ⟨hp,g,d,tk,os⟩) _
  case turn=>
   rintro⟨y,x⟩ rest b s' ⟨hb',rfl,vs,ws,ns',ms',hz,hvi,hwi,hlen,hR⟩
   cases hvi with
   | nil=>rw[List.zip_nil_left] at hz; cases hz
   | cons a t hvi'=>
    cases hwi with
    | nil=>rw[List.zip_nil_right] at hz; cases hz
    | cons c u hwi'=>
     rw[List.zip_cons_cons] at hz
     injection hz with hyx hrest
     injection hyx with hy hx
     subst hy hx
     rw[qaQ] at hR
     simp only[zaW] at hlen
     obtain⟨e,he,hiff⟩:=qjX A.in1 ⟨hp,g,d,tk,os⟩ a t c u
     refine zaa (he prog w _ _ ?_)
     cases e with
     | true=>
      rw[if_pos (hiff.mp rfl)] at hR
      wp_walk
      exact⟨rfl,rfl,_,_,_,_,hrest,hvi',hwi',by omega,hR⟩
     | false=>
      rw[if_neg (fun q=>absurd (hiff.mpr q) zax)] at hR
      have hri:=qkk A.in1 ⟨hp,g,d,tk,os⟩ a t c u prog w
      wp_walk using hri
      exact⟨_,rfl,by simpa using hR⟩
  case fin=>
   rintro⟨b1,b2⟩ s' ⟨hb',rfl,vs,ws,ns',ms',hz,hvi,hwi,hlen,hR⟩
   simp only at hb'
   subst hb'
   have hv:lexLt ns' ms'=decide (items.size < items2.size):=by
    cases hvi with
    | nil=>
     cases hwi with
     | nil=>
      simp only[List.length_nil] at hlen
      rw[qd5]
      exact(decide_eq_false (by omega)).symm
     | cons c u hw=>
      simp only[List.length_nil,zaW] at hlen
      rw[qdx]
      exact(decide_eq_true (by omega)).symm
    | cons a t hv=>
     cases hwi with
     | nil=>
      simp only[List.length_nil,zaW] at hlen
      rw[qdA]
      exact(decide_eq_false (by omega)).symm
     | cons c u hw=>
      rw[List.zip_cons_cons] at hz
      cases hz
   rw[hv] at hR
   wp_walk
   exact⟨_,rfl,by simpa[Builtin.Tuple.tupleCompareSizes] using hR⟩
  case h=>
   exact⟨rfl,rfl,items.toList,items2.toList,ns,ms,rfl,hi,hj,by omega,h⟩
end
section
variable {prog:zai}{w:World}{A:Around}{E:Value->Shared->Prop}{s:Shared}
theorem qdR{l b:Addr}{items items2:Array Value}{ns ms:List Int}{Q:Value->Shared->Prop}(hl:IsTup s.heap l items)(hb:IsTup s.heap b items2)(hi:zaV items.toList ns)(hj:zaV items2.toList ms)
  (hu:A.units < cLine) (h:Q (.bool (lexLt ns ms)) s):wpAny (model prog w) A (zaL .Lt (.ref l) (.ref b)) Q E s:=by
 obtain⟨⟨cls,dd,data,sl⟩,ho,hc,n,hd⟩:=id hl
 obtain⟨⟨cls2,dd2,data2,sl2⟩,ho2,hc2,n2,hd2⟩:=id hb
 simp only at hc hd hc2 hd2
 subst hc hd hc2 hd2
 exact richCompare_meets_room (op:=.Lt) ⟨_,ho,rfl⟩ ⟨_,ho2,rfl⟩ PySem.F.slot_tuple_lt PySem.F.entry_tuple_lt (PySem.F.args_tuple_lt_2 _ _) (qdZ l b items items2 n n2 dd dd2 sl sl2 ns ms hi hj)
  ⟨ho,ho2,show Value.bool (lexLt ns ms)≠Value.notImplemented/\Q (.bool (lexLt ns ms)) s from⟨(fun x=>nomatch x),h⟩⟩ hu
theorem qmg{t b:Addr}{vs ws:List Value}{Q:Value->Shared->Prop}(ht:IsTup s.heap t vs.toArray)(hb:IsTup s.heap b ws.toArray)(hv:vs≠[])
  (h1:ws=[]->Q (.ref t) s) (h2:ws≠[]->Q (.ref s.heap.objs.size) { s with heap:=s.heap.push { cls:=.type "tuple",data:=.seq (vs ++ ws).toArray } })
  (hsz:vs.length + ws.length<=zal):wpAny (model prog w) A (zaQ .Add (.ref t) (.ref b)) Q E s:=by
 obtain⟨⟨cls,dd,data,sl⟩,ho,hc,n,hd⟩:=id ht
 obtain⟨⟨cls2,dd2,data2,sl2⟩,ho2,hc2,n2,hd2⟩:=id hb
 simp only at hc hd hc2 hd2
 subst hc hd hc2 hd2
 have e:vs.toArray ++ ws.toArray=(vs ++ ws).toArray:=by simp
 by_cases hw:ws=[]
 ·exact concat_meets ⟨_,ho,rfl⟩ ⟨_,ho2,rfl⟩ noFill_tuple_add seq_tuple_add PySem.F.slot_tuple_add PySem.F.entry_tuple_add (PySem.F.args_tuple_add_2 _ _)
   (tuple_addW1 t b vs.toArray ws.toArray n n2 dd dd2 sl sl2 (by simpa using hv) (by simp[hw])) ⟨ho,ho2,h1 hw⟩
 ·refine concat_meets ⟨_,ho,rfl⟩ ⟨_,ho2,rfl⟩ noFill_tuple_add seq_tuple_add PySem.F.slot_tuple_add PySem.F.entry_tuple_add (PySem.F.args_tuple_add_2 _ _)
   (tuple_addW2 t b vs.toArray ws.toArray n n2 dd dd2 sl sl2 (by simpa using hv) (by simpa using hw) (by rw[zat,zat]; exact hsz)) ⟨ho,ho2,?_⟩
  rw[e]
  exact h2 hw
noncomputable def sIx(n d:Nat):Option Int->Nat
 | none=>d
 | some v=>if v < 0 then (v + (n:Int)).toNat else min v.toNat n
theorem qn9(n d:Nat)(hd:d<=n)(o:Option Int):sIx n d o<=n:=by
 cases o with
 | none=>exact hd
 | some v=>
  show(if v < 0 then (v + (n:Int)).toNat else min v.toNat n)<=n
  by_cases hv:v < 0
  ·rw[if_pos hv]; omega
  ·rw[if_neg hv]; exact Nat.min_le_right _ _
theorem qiz(v:Int)(n d:Nat):(if v < 0 then max (v + (n:Int)) 0 else min v (n:Int))=((sIx n d (some v):Nat):Int):=by
 show(if v < 0 then max (v + (n:Int)) 0 else min v (n:Int))=(((if v < 0 then (v + (n:Int)).toNat else min v.toNat n):Nat):Int)
 by_cases hv:v < 0
 ·simp only[if_pos hv]; omega
 ·simp only[if_neg hv]; omega
theorem qhB(lo hi:Option Int)(n:Nat):Builtin.Slice.sliceAdjust lo hi 1 (n:Int)=(((sIx n 0 lo:Nat):Int),((sIx n n hi:Nat):Int)):=by
 have h1:¬ ((1:Int) < 0):=by omega
 unfold Builtin.Slice.sliceAdjust
 simp only[h1,if_false]
 refine Prod.ext ?_ ?_
 ·cases lo with
  | none=>rfl
  | some v=>exact qiz v n 0
 ·cases hi with
  | none=>rfl
  | some v=>exact qiz v n n
theorem qhw(i j:Nat):Builtin.Slice.slicePlaces (i:Int) (j:Int) 1=j - i:=by
 unfold Builtin.Slice.slicePlaces
 have h1:(1:Int) > 0:=by omega
 simp only[h1,if_true,Int.ediv_one]
 split <;> omega
theorem qdO{v:Value}{o:Option Int}{Q:Option Int->Shared->Prop}(p:IsPart v o)(h:Q o s):wpAny (model prog w) A (Builtin.Slice.slicePartIndex v) Q E s:=by
 cases p with
 | none=>exact slicePart_none h
 | int i t=>exact slicePart_int h
theorem qbt{sl:Addr}{vl vu:Value}{lo hi:Option Int}{n:Nat}{Q:Int × Int × Nat->Shared->Prop}(hs:s.heap.IsSliceOf sl vl vu .none)(pl:IsPart vl lo)(pu:IsPart vu hi)
  (h:Q (((sIx n 0 lo:Nat):Int),1,sIx n n hi - sIx n 0 lo) s):wpAny (model prog w) A (Builtin.Slice.sliceApplied (.ref sl) (pure (n:Int))) Q E s:=by
 obtain⟨os,hos,hcs,hds⟩:=id hs
 unfold Builtin.Slice.sliceApplied Builtin.Slice.sliceFields
 refine zaa (zaa (zaX hos hds (x:=vl) rfl (zaa (zaX hos hds (x:=vu) rfl (zaa (zaX hos hds (x:=.none) rfl (zab ?_)))))))
 refine zaa (slicePart_none ?_)
 show wpAny _ _ (if ((1:Int) == 0)=true then _ else _) _ _ s
 rw[if_neg (by decide)]
 refine zaa (qdO pl (zaa (qdO pu (zaa (zab ?_)))))
 show wpAny _ _ (match Builtin.Slice.sliceAdjust lo hi 1 (n:Int) with | (lo,hi)=>pure (lo,(1:Int),Builtin.Slice.slicePlaces lo hi 1)) _ _ s
 rw[qhB lo hi n]
 show wpAny _ _ (pure (((sIx n 0 lo:Nat):Int),(1:Int),Builtin.Slice.slicePlaces ((sIx n 0 lo:Nat):Int) ((sIx n n hi:Nat):Int) 1)) _ _ s
 rw[qhw]
 exact zab h
theorem qkK(xs:Array Value)(i k:Nat):((zbc k).filterMap fun (m:Nat)=>xs[((i:Int) + (m:Int) * 1).toNat]?).toArray=((xs.toList.drop i).take k).toArray:=by
 have e:(fun (m:Nat)=>xs[((i:Int) + (m:Int) * 1).toNat]?)=fun m=>xs[i + m]?:=by
  funext m
  have:((i:Int) + (m:Int) * 1).toNat=i + m:=by omega
  rw[this]
 rw[e]
 have:=pick_run xs i k
 rw[List.filterMap_map] at this
 have e2:((fun x=>xs[x]?) ∘ fun x=>i + x)=fun m=>xs[i + m]?:=rfl
 rw[e2] at this
 rw[this]
theorem qcn{t sl:Addr}{items:Array Value}{vl vu:Value}{lo hi:Option Int}{Q:Value->Shared->Prop}(ht:IsTup s.heap t items)(hs:s.heap.IsSliceOf sl vl vu .none)(pl:IsPart vl lo)(pu:IsPart vu hi)
  (hw:¬ (sIx items.size 0 lo=0/\sIx items.size items.size hi=items.size))
  (h:Q (.ref s.heap.objs.size) { s with heap:=s.heap.push { cls:=.type "tuple",data:=.seq ((items.toList.drop (sIx items.size 0 lo)).take (sIx items.size items.size hi - sIx items.size 0 lo)).toArray } })
  (hsz:items.size<=zal):wpAny (model prog w) A (getItem (.ref t) (.ref sl)) Q E s:=by
 have htake:sizeOk (.seq ((items.toList.drop (sIx items.size 0 lo)).take (sIx items.size items.size hi - sIx items.size 0 lo)).toArray):=by
  show((items.toList.drop (sIx items.size 0 lo)).take (sIx items.size items.size hi - sIx items.size 0 lo)).toArray.size<=zal
  rw[zat,List.length_take,List.length_drop,zaN]
  omega
 have hj:sIx items.size items.size hi<=items.size:=qn9 _ _ (zae _) hi
 obtain⟨os,hos,hcs,hds⟩:=id hs
 have hTs:s.TypeIs (.ref sl) "slice" := ⟨os,hos,hcs⟩
 unfold getItem
 try with_reducible refine zba ?_
 first | refine zaa (zab ?_) | skip
 refine zaa (wpAny_sequenceKey ht.typeIs (by decide) ?_)
 refine zaa (zbJ (name:=za5 "__getitem__") ht.typeIs zcs
  (zbd zcs ht.typeIs entry_tuple_getitem ?_ (args_tuple_getitem _ _)))
 show wpAny _ _ (Builtin.Tuple.tupleItemsOf (.ref t) >>= _) _ _ s
 refine zaa (tupleItemsOf_ ht ?_)
 refine zaa (wpAny_typeOf hTs ?_)
 rw[if_pos (by decide)]
 refine zaa (qbt hs pl pu ?_)
 have hno:¬ ((((sIx items.size 0 lo:Nat):Int) == 0 && (1:Int) == 1 && (sIx items.size items.size hi - sIx items.size 0 lo) == items.size)=true):=by
  intro q
  rw[zaY,zaY] at q
  have q1:((sIx items.size 0 lo:Nat):Int)=0:=eq_of_beq q.1.1
  have q2:sIx items.size items.size hi - sIx items.size 0 lo=items.size:=eq_of_beq q.2
  exact hw ⟨by omega,by omega⟩
 show wpAny _ _ (if (((sIx items.size 0 lo:Nat):Int) == 0 && (1:Int) == 1 && (sIx items.size items.size hi - sIx items.size 0 lo) == items.size)=true then _ else _) _ _ s
 rw[if_neg hno,qkK]
 first
  | exact zaa (m:=Builtin.Tuple.tupleExact _) (zbe (zab ⟨_,rfl,zab h⟩) htake)
  | exact zaa (m:=Builtin.Tuple.tupleExact _) (zbe (zaa (zab (zab ⟨_,rfl,zab h⟩))) htake)
  | exact zaa (zaa (m:=Builtin.Tuple.tupleExact _) (zbe (zab (zab ⟨_,rfl,zab h⟩)) htake))
  | exact zaa (zaa (m:=Builtin.Tuple.tupleExact _) (zbe (zab ⟨_,rfl,zab h⟩) htake))
end
end HT
namespace L2
open PySem PySem.Spec PyProof.Rows
noncomputable abbrev TO:=St->Hp->(Option Int->Hp->Prop)->Prop
noncomputable def PO(X:Cx)(e:Option Expr)(t:TO):Prop:=
 ∀ (pins:List (Addr × Obj)) (s:Shared) (σ:St) (H:Hp) (Q:Option Int->Hp->Prop),Inv X pins σ H s->t σ H Q->
  wpAny (model X.prog X.w) X.A (evalPart e X.env) (fun u s'=>∃ o H',Inv X pins σ H' s'/\IsPart u o/\Q o H') X.xe s
noncomputable def qmI:TO:=fun _ H Q=>Q none H
noncomputable def qmF(t:TE):TO:=fun σ H Q=>t σ H fun x H1=>∃ i,x=.int i/\Q (some i) H1
theorem intsAre_of{ns:List Int}:∀ {us:List Value},Vals (ns.map V.int) us->zaV us ns:=by
 induction ns with
 | nil=>intro us r; rw[zbB] at r; cases r; exact .nil
 | cons n ns ih=>
  intro us r
  rw[zaf] at r
  cases r with
  | cons r1 r2=>
   obtain⟨t,e⟩:=r1
   subst e
   exact .cons n t (ih r2)
section
variable {X:Cx}{e:Expr}{te:TE}{lo hi:Option Expr}{tl th:TO}{pos p2:Pos}
theorem qmt:PO X none qmI:=by
 intro pins s σ H Q I h
 rw[evalPart_none]
 exact zab ⟨none,H,I,.none,h⟩
theorem qiL(h:PE X e te):PO X (some e) (qmF te):=by
 intro pins s σ H Q I hw
 rw[evalPart_some]
 refine thn (h pins s σ H _ I hw) fun u s1 ⟨x,H1,I1,r1,q1⟩=>?_
 obtain⟨i,rfl,q⟩:=q1
 obtain⟨t,rfl⟩:=r1
 exact⟨some i,H1,I1,.int i t,q⟩
noncomputable def SlR(X:Cx)(r:V->Option Int->Option Int->Hp->VK->Prop):Prop:=
 ∀ (pins:List (Addr × Obj)) (s:Shared) (σ:St) (H:Hp) (x:V) (v vl vu:Value) (lo hi:Option Int) (sl:Addr) (Q:VK),Inv X pins σ H s->RelV x v->s.heap.IsSliceOf sl vl vu .none->IsPart vl lo->IsPart vu hi->r x lo hi H Q->
  ∃ T id,typeLookup (.type T) "__getitem__" = pure (some (.builtin id))/\s.TypeIs v T/\wpAny (model X.prog X.w) X.A (getItem v (.ref sl)) (EP X pins σ Q) X.xe s
theorem SlR.or{r r':V->Option Int->Option Int->Hp->VK->Prop}(h:SlR X r)(h':SlR X r'):SlR X (fun x lo hi H Q=>r x lo hi H Q\/r' x lo hi H Q):=by
 intro pins s σ H x v vl vu lo hi sl Q I rx hs pl pu q
 rcases q with q | q
 ·exact h pins s σ H x v vl vu lo hi sl Q I rx hs pl pu q
 ·exact h' pins s σ H x v vl vu lo hi sl Q I rx hs pl pu q
noncomputable def tSl(r:V->Option Int->Option Int->Hp->VK->Prop)(te:TE)(tl th:TO):TE:=fun σ H Q=>te σ H fun x H1=>tl σ H1 fun l H2=>th σ H2 fun u H3=>r x l u H3 Q
theorem qkJ{r:V->Option Int->Option Int->Hp->VK->Prop}(hr:SlR X r)(he:PE X e te)(hl:PO X lo tl)(hu:PO X hi th):PE X (.Subscript e (.Slice lo hi none p2) pos) (tSl r te tl th):=by
 intro pins s σ H Q I h
 refine Subscript_ (thn (he pins s σ H _ I h) fun v s1 ⟨x,H1,I1,r1,q1⟩=>?_)
 refine wpAny_Slice (thn (hl pins s1 σ H1 _ I1 q1) fun vl s2 ⟨l,H2,I2,pl,q2⟩=>thn (hu pins s2 σ H2 _ I2 q2) fun vu s3 ⟨u,H3,I3,pu,q3⟩=>?_)
 rw[evalPart_none]
 refine zab ?_
 have I4:Inv X pins σ H3 { s3 with heap:=s3.heap.push { cls:=.type "slice",data:=.fields #[vl,vu,.none] } }:=I3.kept (t':=s3.toks) fun b ob q=>zah _ q
 obtain⟨T,id,hT,ht,hg⟩:=hr pins { s3 with heap:=s3.heap.push { cls:=.type "slice",data:=.fields #[vl,vu,.none] } } σ H3 x v vl vu l u s3.heap.objs.size Q I4 r1 (Heap.IsSliceOf.new ..) pl pu q3
 show wpAny (model X.prog X.w) X.A (subscriptTail e (.Slice lo hi none p2) v (.ref s3.heap.objs.size)) (EP X pins σ Q) X.xe { s3 with heap:=s3.heap.push { cls:=.type "slice",data:=.fields #[vl,vu,.none] } }
 exact tail_any (ops:=[.ref s3.heap.objs.size,v]) ht hT hg (by with_unfolding_all rfl)
noncomputable def cutV(xs:List V)(lo hi:Option Int):List V:=(xs.drop (HT.sIx xs.length 0 lo)).take (HT.sIx xs.length xs.length hi - HT.sIx xs.length 0 lo)
theorem qc8(xs:List V)(lo hi:Option Int):(cutV xs lo hi).length<=xs.length:=by
 unfold cutV
 rw[List.length_take,List.length_drop]
 omega
noncomputable def rSlT(K:zad):V->Option Int->Option Int->Hp->VK->Prop:=fun x lo hi H Q=>∃ a xs,x=.ref a/\SqT K H a xs /\
 ¬ (HT.sIx xs.length 0 lo=0/\HT.sIx xs.length xs.length hi=xs.length)/\∀ p,H p=none->Q (.ref p) (upd H p (.tup (cutV xs lo hi)))
theorem qnI:SlR X (rSlT X.K):=by
 intro pins s σ H x v vl vu lo hi sl Q I rx hs pl pu h
 obtain⟨a,xs,rfl,hx,hw,q⟩:=h
 cases rx
 obtain⟨its,r,ht,hz⟩:=I.tuple hx
 have hlen:its.toArray.size=xs.length:=by rw[zat]; exact r.length.symm
 refine⟨"tuple",_,PyProof.Rows.slot_tuple_getitem.lookup,ht.typeIs,?_⟩
 refine HT.qcn ht hs pl pu (by rw[hlen]; exact hw) ?_ (by rw[hlen]; exact hz)
 rw[hlen]
 refine⟨.ref s.heap.objs.size,_,I.laid (t':=s.toks) (o:=.tup (cutV xs lo hi)) (fun b ob q=>zah _ q) (zae _) ?_,rfl,q _ (I.hok.fresh (zae _))⟩
 exact⟨za6 (qc8 xs lo hi) hz,_,(r.drop (HT.sIx xs.length 0 lo)).take (HT.sIx xs.length xs.length hi - HT.sIx xs.length 0 lo),IsTupN.new _ _⟩
noncomputable def rLtT(K:zad):R2:=fun x y H Q=>∃ a b ns ms,x=.ref a/\y=.ref b/\SqT K H a (ns.map V.int)/\SqT K H b (ms.map V.int)/\Q (.bl (HT.lexLt ns ms)) H
theorem qnN(hu:X.A.units < cLine):OpR X (zaL .Lt) (rLtT X.K):=by
 intro pins s σ H x y v u Q I rx ry h
 obtain⟨a,b,ns,ms,rfl,rfl,ha,hb,q⟩:=h
 cases rx
 cases ry
 obtain⟨its,r1,p1,_⟩:=I.tuple ha
 obtain⟨its2,r2,p2,_⟩:=I.tuple hb
 have i1:zaV its.toArray.toList ns:=intsAre_of r1
 have i2:zaV its2.toArray.toList ms:=intsAre_of r2
 exact HT.qdR p1 p2 i1 i2 hu ⟨.bl (HT.lexLt ns ms),H,I,rfl,q⟩
noncomputable def qox(K:zad):R2:=fun x y H Q=>∃ a b xs ys,x=.ref a/\y=.ref b/\SqT K H a xs/\SqT K H b ys/\xs≠[]/\xs.length + ys.length<=zal /\
 (ys=[]->Q (.ref a) H)/\(ys≠[]->∀ p,H p=none->Q (.ref p) (upd H p (.tup (xs ++ ys))))
theorem Vals.nil_iff{xs:List V}{us:List Value}(r:Vals xs us):us=[]↔xs=[]:=by
 cases r with
 | nil=>simp
 | cons _ _=>simp
theorem qlH:OpR X (zaQ .Add) (qox X.K):=by
 intro pins s σ H x y v u Q I rx ry h
 obtain⟨a,b,xs,ys,rfl,rfl,ha,hb,hx,hz,q1,q2⟩:=h
 cases rx
 cases ry
 obtain⟨its,r1,p1,_⟩:=I.tuple ha
 obtain⟨its2,r2,p2,_⟩:=I.tuple hb
 refine HT.qmg p1 p2 (fun z=>hx (r1.nil_iff.mp z)) (fun z=>⟨.ref a,H,I,rfl,q1 (r2.nil_iff.mp z)⟩) (fun z=>?_) (by rw[<- r1.length,<- r2.length]; exact hz)
 refine⟨.ref s.heap.objs.size,_,I.laid (t':=s.toks) (o:=.tup (xs ++ ys)) (fun b ob q=>zah _ q) (zae _) ?_,rfl,q2 (fun w=>z (r2.nil_iff.mpr w)) _ (I.hok.fresh (zae _))⟩
 exact⟨by rw[zbA]; exact hz,_,r1.append r2,IsTupN.new _ _⟩
end
noncomputable def ixN(n:Nat)(i:Int):Option Nat:=if 0<=i then (if i < n then some i.toNat else none) else if -(n:Int)<=i then some (i + n).toNat else none
noncomputable def atI{α:Type}(xs:List α)(i:Int):Option α:=(ixN xs.length i).bind fun j=>xs[j]?
theorem qif{n:Nat}{i:Int}{j:Nat}(h:ixN n i=some j):seqIndex? i n=some j/\j < n/\-(n:Int)<=i/\i < n:=by
 unfold ixN at h
 by_cases h0:0<=i
 ·rw[if_pos h0] at h
  by_cases h1:i < n
  ·rw[if_pos h1] at h
   have e:i.toNat=j:=zaF h
   exact⟨by rw[seqIndex_of h0 h1,e],by omega,by omega,h1⟩
  ·rw[if_neg h1] at h; cases h
 ·rw[if_neg h0] at h
  by_cases h1:-(n:Int)<=i
  ·rw[if_pos h1] at h
   have e:(i + n).toNat=j:=zaF h
   exact⟨by rw[seqIndex_neg (by omega) h1,e],by omega,h1,by omega⟩
  ·rw[if_neg h1] at h; cases h
theorem qfW{α:Type}{xs:List α}{i:Int}{v:α}(h:atI xs i=some v):∃ j,seqIndex? i xs.length=some j/\xs[j]?=some v/\j < xs.length/\-(xs.length:Int)<=i/\i < xs.length:=by
 unfold atI at h
 cases e:ixN xs.length i with
 | none=>rw[e] at h; cases h
 | some j=>
  rw[e] at h
  obtain⟨h1,h2,h3,h4⟩:=qif e
  exact⟨j,h1,h,h2,h3,h4⟩
theorem qco{α:Type}{xs:List α}{j:Nat}{v:α}(h:xs[j]?=some v):atI xs (j:Int)=some v:=by
 have hj:j < xs.length:=(List.getElem?_eq_some_iff.mp h).1
 have e:ixN xs.length (j:Int)=some j:=by
  unfold ixN
  rw[if_pos (by omega),if_pos (by omega)]; simp
 unfold atI; rw[e]; exact h
noncomputable def qir(b:Expr):Prop:=∀ o i,subscripted b false o i=operate [o,i] (getItem o i)
noncomputable def IxR(X:Cx)(r:R2):Prop:=
 ∀ (value slice:Expr) (pins:List (Addr × Obj)) (s:Shared) (σ:St) (H:Hp) (x y:V) (v u:Value) (Q:VK),Inv X pins σ H s->RelV x v->RelV y u->r x y H Q->
  subscripted slice false v u=operate [v,u] (getItem v u)->wpAny (model X.prog X.w) X.A (subscriptTail value slice v u) (EP X pins σ Q) X.xe s
noncomputable def MtR(X:Cx)(id:String)(r:V->List V->Hp->VK->Prop):Prop:=
 ∀ (pins:List (Addr × Obj)) (s:Shared) (σ:St) (H:Hp) (x:V) (xs:List V) (v:Value) (us:List Value) (Q:VK),Inv X pins σ H s->RelV x v->Vals xs us->r x xs H Q->
  wpAny (model X.prog X.w) X.A (call (.builtin id) (v :: us)) (EP X pins σ Q) X.xe s
section
variable {X:Cx}{a b:Expr}{ta tb:TE}{pos:Pos}
theorem IxR.or{r r':R2}(h:IxR X r)(h':IxR X r'):IxR X (fun x y H Q=>r x y H Q\/r' x y H Q):=by
 intro value slice pins s σ H x y v u Q I rx ry q hs
 rcases q with q | q
 ·exact h value slice pins s σ H x y v u Q I rx ry q hs
 ·exact h' value slice pins s σ H x y v u Q I rx ry q hs
theorem MtR.or{id:String}{r r':V->List V->Hp->VK->Prop}(h:MtR X id r)(h':MtR X id r'):MtR X id (fun x xs H Q=>r x xs H Q\/r' x xs H Q):=by
 intro pins s σ H x xs v us Q I rx rs q
 rcases q with q | q
 ·exact h pins s σ H x xs v us Q I rx rs q
 ·exact h' pins s σ H x xs v us Q I rx rs q
theorem qoS{r:R2}(hr:IxR X r)(ha:PE X a ta)(hb:PE X b tb)(hs:qir b):PE X (.Subscript a b pos) (tOp r ta tb):=by
 intro pins s σ H Q I h
 exact Subscript_ (binT ha hb I h fun v u s2 x y H2 I2 rx ry q=>hr a b pins s2 σ H2 x y v u Q I2 rx ry q (hs _ _))
noncomputable def rIxL(K:zad):R2:=fun x y H Q=>∃ p xs i v,x=.ref p/\y=.int i/\SqL K H p xs/\atI xs i=some v/\Q v H
noncomputable def rIxT(K:zad):R2:=fun x y H Q=>∃ p xs i v,x=.ref p/\y=.int i/\SqT K H p xs/\atI xs i=some v/\Q v H
noncomputable def rIxS:R2:=fun x y H Q=>∃ z i c,x=.str z/\y=.int i/\z.length<=zal/\atI z.cps.toList i=some c/\Q (.str ⟨#[c]⟩) H
theorem qmm:IxR X (rIxL X.K):=by
 intro value slice pins s σ H x y v u Q I rx ry h hs
 obtain⟨p,xs,i,z,rfl,rfl,hq,he,q⟩:=h
 cases rx
 obtain⟨t,rfl⟩:=ry
 obtain⟨its,r,pl,hz⟩:=I.list hq
 obtain⟨j,h1,h2,h3,h4,h5⟩:=qfW he
 obtain⟨w,ew,rw'⟩:=r.get h2
 have hl:=r.length
 have hn:=qfx
 have fin:EP X pins σ Q w s:=⟨z,H,I,rw',q⟩
 by_cases h0:0<=i
 ·have hj:i.toNat=j:=by
   rw[seqIndex_of h0 h5] at h1
   exact zaF h1
  exact item_listR pl.isList h0 (by omega) (by rw[hj]; simpa using ew) fin hs
 ·have hj:(i + (its.toArray.size:Int)).toNat=j:=by
   rw[seqIndex_neg (by omega) h4] at h1
   rw[zat,<- hl]
   exact zaF h1
  exact subscriptTail_builtinR (x:=w) pl.isList.typeIs slot_list_getitem.lookup
   (wpAny_getItem_list_neg (Q:=fun r s'=>r=w/\EP X pins σ Q r s') pl.isList (by omega) (by rw[zat] <;> omega) (by omega) (by rw[hj]; simpa using ew) ⟨rfl,fin⟩) hs
theorem qnK:IxR X (rIxT X.K):=by
 intro value slice pins s σ H x y v u Q I rx ry h hs
 obtain⟨p,xs,i,z,rfl,rfl,hq,he,q⟩:=h
 cases rx
 obtain⟨t,rfl⟩:=ry
 obtain⟨its,r,pl,hz⟩:=I.tuple hq
 obtain⟨j,h1,h2,h3,h4,h5⟩:=qfW he
 obtain⟨w,ew,rw'⟩:=r.get h2
 have hl:=r.length
 have hn:=qfx
 have fin:EP X pins σ Q w s:=⟨z,H,I,rw',q⟩
 exact subscriptTail_builtinR (x:=w) pl.typeIs slot_tuple_getitem.lookup
  (getItem_tuple (j:=j) (Q:=fun r s'=>r=w/\EP X pins σ Q r s') pl (by omega) (by omega) (by rw[zat,<- hl]; exact h1) (by simpa using ew) ⟨rfl,fin⟩) hs
theorem qm0:IxR X rIxS:=by
 intro value slice pins s σ H x y v u Q I rx ry h hs
 obtain⟨z,i,c,rfl,rfl,hz,he,q⟩:=h
 obtain⟨t,rfl⟩:=rx
 obtain⟨t',rfl⟩:=ry
 obtain⟨j,h1,h2,h3,h4,h5⟩:=qfW he
 have hl:z.cps.toList.length=z.length:=by simp[Str.length]
 rw[hl] at h1 h4 h5
 have hn:=qfx
 exact tail_any (typeIs_str s z t) slot_str_getitem.lookup (getItem_str (c:=c) (by
  have e1:decide (i < -(2 ^ 63:Int))=false:=decide_eq_false (by omega)
  have e2:decide (i ≥ 2 ^ 63)=false:=decide_eq_false (by omega)
  rw[e1,e2,Bool.or_false]) (by rw[h1]; simpa using h2) ⟨.str ⟨#[c]⟩,H,I.tok _,⟨_,rfl⟩,q⟩) hs
noncomputable def rIx(K:zad):R2:=fun x y H Q=>rIxL K x y H Q\/rIxT K x y H Q\/rIxS x y H Q
theorem qm4:IxR X (rIx X.K):=qmm.or (qnK.or qm0)
theorem qhk(its:List Value)(n j:Nat)(u:Value):zaI (·.setIfInBounds j u) { cls:=.type "list",data:=.seq its.toArray n }={ cls:=.type "list",data:=.seq (its.set j u).toArray n }:=by
 simp[zaI]
theorem Inv.lst{pins:List (Addr × Obj)}{σ:St}{H:Hp}{s:Shared}{p:Addr}{xs:List V}(I:Inv X pins σ H s)(h:H p=some (.lst xs)) :
  ∃ (its:List Value) (n:Nat),Vals xs its/\s.heap.get? p=some { cls:=.type "list",data:=.seq its.toArray n }/\xs.length<=zal:=by
 obtain⟨z,its,n,r,e⟩:=I.hok p _ h
 exact⟨its,n,r,e,z⟩
theorem Inv.lstUpd{pins:List (Addr × Obj)}{σ:St}{H:Hp}{s:Shared}{p:Addr}{xs ys:List V}{its its':List Value}{n n':Nat}{f:Obj->Obj}(I:Inv X pins σ H s)(h:H p=some (.lst xs))
  (ho:s.heap.get? p=some { cls:=.type "list",data:=.seq its.toArray n }) (hf:f { cls:=.type "list",data:=.seq its.toArray n }={ cls:=.type "list",data:=.seq its'.toArray n' }) (r:Vals ys its') (hz:ys.length<=zal) (t:Nat) :
  Inv X pins σ (upd H p (.lst ys)) { s with heap:=s.heap.update p f,toks:=t }:=by
 have e:(s.heap.update p f).get? p=some { cls:=.type "list",data:=.seq its'.toArray n' }:=by
  rw[zbK f ho (by rw[hf] <;> rfl),hf]
 refine I.write (x:=p) (e:=p) (by rw[h]; trivial) (.inl rfl) (fun b u hb q=>(zbC _ _ (zaK hb)).trans q) ⟨_,e⟩ ?_
 exact⟨hz,its',n',r,e⟩
noncomputable def qoW:V->V->V->Hp->(Hp->Prop)->Prop:=fun o i v H Q=>∃ p xs k j,o=.ref p/\i=.int k/\H p=some (.lst xs)/\ixN xs.length k=some j/\Q (upd H p (.lst (xs.set j v)))
theorem set_list:PSet X qoW:=by
 intro pins s σ H o i v ov iv u Q I ro ri rv h
 obtain⟨p,xs,k,j,rfl,rfl,hp,hj,q⟩:=h
 cases ro
 obtain⟨t,rfl⟩:=ri
 obtain⟨its,n,r,ho,hz⟩:=I.lst hp
 obtain⟨h1,h2,h3,h4⟩:=qif hj
 have hl:=r.length
 have hn:=qfx
 have I':Inv X pins σ (upd H p (.lst (xs.set j v))) { s with heap:=s.heap.update p (zaI (·.setIfInBounds j u)) }:=
  I.lstUpd hp ho (qhk its n j u) (r.set rv j) (by rw[List.length_set]; exact hz) s.toks
 by_cases h0:0<=k
 ·have hk:k.toNat=j:=by
   rw[seqIndex_of h0 h4] at h1
   exact zaF h1
  exact PySem.W.ki_setAt ho h0 (by omega) (by rw[zat,<- hl]; exact h4) (by rw[hk]; exact⟨_,I',q⟩)
 ·have hk:(k + (its.toArray.size:Int)).toNat=j:=by
   rw[seqIndex_neg (by omega) h3] at h1
   rw[zat,<- hl]
   exact zaF h1
  exact PySem.W.ki_setBack ho (by omega) (by rw[zat,<- hl]; exact h3) (by omega) (by rw[hk]; exact⟨_,I',q⟩)
theorem qfe(lo hi:Option Int)(n:Nat):(zbD lo hi none n).1=((HT.sIx n 0 lo:Nat):Int)/\(zbD lo hi none n).2.1=((HT.sIx n n hi:Nat):Int)/\(zbD lo hi none n).2.2=1:=by
 refine⟨?_,?_,rfl⟩
 ·cases lo with
  | none=>simp[zbD,HT.sIx]
  | some i=>
   simp only[zbD,HT.sIx,Option.getD_none,show(1:Int) > 0 by decide,if_true]
   by_cases h:i < 0
   ·simp only[h,if_true] <;> omega
   ·simp only[h,if_false] <;> omega
 ·cases hi with
  | none=>simp[zbD,HT.sIx]
  | some i=>
   simp only[zbD,HT.sIx,Option.getD_none,show(1:Int) > 0 by decide,if_true]
   by_cases h:i < 0
   ·simp only[h,if_true] <;> omega
   ·simp only[h,if_false] <;> omega
theorem qd2(its:List Value)(lo hi:Option Int):slicePick its.toArray lo hi none=((its.drop (HT.sIx its.length 0 lo)).take (HT.sIx its.length its.length hi - HT.sIx its.length 0 lo)).toArray:=by
 obtain⟨h1,h2,h3⟩:=qfe lo hi its.toArray.size
 unfold slicePick
 rw[h1,h2,h3]
 simp only[sliceRange_one,pick_run,zat] <;> rfl
noncomputable def rSlL(K:zad):V->Option Int->Option Int->Hp->VK->Prop:=fun x lo hi H Q=>∃ a xs,x=.ref a/\SqL K H a xs/\∀ p,H p=none->Q (.ref p) (upd H p (.lst (cutV xs lo hi)))
theorem qmc:SlR X (rSlL X.K):=by
 intro pins s σ H x v vl vu lo hi sl Q I rx hs pl pu h
 obtain⟨a,xs,rfl,hx,q⟩:=h
 cases rx
 obtain⟨its,r,ht,hz⟩:=I.list hx
 have hlen:=r.length
 refine⟨"list",_,slot_list_getitem.lookup,ht.isList.typeIs,?_⟩
 refine wpAny_getItem_list_slice ht.isList hs pl pu .none (by simp) ?_ (by rw[zat] <;> omega)
 rw[qd2,<- hlen]
 refine⟨.ref s.heap.objs.size,_,I.laid (t':=s.toks) (o:=.lst (cutV xs lo hi)) (fun b ob q=>zah _ q) (zae _) ?_,rfl,q _ (I.hok.fresh (zae _))⟩
 exact⟨za6 (qc8 xs lo hi) hz,_,0,(r.drop (HT.sIx xs.length 0 lo)).take (HT.sIx xs.length xs.length hi - HT.sIx xs.length 0 lo),zay _ rfl⟩
theorem qe4:OpR X (zaL .NotIn) (fun x y H Q=>∃ i j,x=.str i/\y=.str j/\Q (.bl (!(!(Builtin.Str.occurrences j i 0 j.length 1).isEmpty))) H):=by
 intro pins s σ H x y v u Q I rx ry h
 obtain⟨i,j,rfl,rfl,q⟩:=h
 obtain⟨t,rfl⟩:=rx
 obtain⟨t',rfl⟩:=ry
 exact notIn_str ⟨.bl _,H,I,rfl,q⟩
theorem CallR.or{f:Value}{r r':List V->Hp->VK->Prop}(h:CallR X f r)(h':CallR X f r'):CallR X f (fun xs H Q=>r xs H Q\/r' xs H Q):=by
 intro pins s σ H xs us Q I rs q
 rcases q with q | q
 ·exact h pins s σ H xs us Q I rs q
 ·exact h' pins s σ H xs us Q I rs q
theorem qfq:CallR X (.type "list") (fun xs H Q=>∃ p ys,xs=[.ref p]/\(SqL X.K H p ys\/SqT X.K H p ys)/\∀ l,H l=none->Q (.ref l) (upd H l (.lst ys))):=by
 intro pins s σ H xs us Q I r h
 obtain⟨p,ys,rfl,hq,q⟩:=h
 obtain⟨u,rfl,rx⟩:=vals1 r
 cases rx
 have fin:∀ (its:List Value),Vals ys its->ys.length<=zal->∀ (h':Heap) (c':Nat),(∀ b o',s.heap.get? b=some o'->h'.get? b=some o')->
   h'.get? s.heap.objs.size=some { cls:=.type "list",dict:=none,data:=.seq its.toArray c',slots:=#[] }->EP X pins σ Q (.ref s.heap.objs.size) { s with heap:=h' }:=fun its r' hz h' c' kp e=>
  ⟨.ref s.heap.objs.size,_,I.laid (t':=s.toks) kp (zae _) (show ObjOk X.prog X.w _ h' _ (.lst ys) from⟨hz,its,c',r',e⟩),rfl,q _ (I.hok.fresh (zae _))⟩
 rcases hq with hq | hq
 ·obtain⟨its,r',pl,hz⟩:=I.list hq
  have hlen:=r'.length
  obtain⟨o,ho,hc,n,hd⟩:=pl.isList
  exact call_list_seq p (.inl rfl) ho hc hd (fun h' c' kp e=>fin its r' hz h' c' kp e) (by simp only[zat] <;> omega)
 ·obtain⟨its,r',pl,hz⟩:=I.tuple hq
  have hlen:=r'.length
  obtain⟨o,ho,hc,n,hd⟩:=pl
  exact call_list_seq p (.inr rfl) ho hc hd (fun h' c' kp e=>fin its r' hz h' c' kp e) (by simp only[zat] <;> omega)
theorem qev:CallR X (.type "tuple") (fun xs H Q=>∃ p ys,xs=[.ref p]/\((SqL X.K H p ys/\∀ l,H l=none->Q (.ref l) (upd H l (.tup ys)))\/(SqT X.K H p ys/\Q (.ref p) H))):=by
 intro pins s σ H xs us Q I r h
 obtain⟨p,ys,rfl,h⟩:=h
 obtain⟨u,rfl,rx⟩:=vals1 r
 cases rx
 rcases h with⟨hq,q⟩ | ⟨hq,q⟩
 ·obtain⟨its,r',pl,hz⟩:=I.list hq
  have hlen:=r'.length
  refine call_tuple_list pl.isList (fun h' kp=>?_) (by simp only[zat] <;> omega)
  have I1:Inv X pins σ H { s with heap:=h' }:=I.kept (t':=s.toks) kp
  have I2:Inv X pins σ (upd H h'.objs.size (.tup ys)) { s with heap:=h'.push { cls:=.type "tuple",data:=.seq its.toArray } }:=
   I1.laid (t':=s.toks) (fun b o e=>zah _ e) (zae _) (show ObjOk X.prog X.w _ _ _ (.tup ys) from⟨hz,its,r',IsTupN.new _ _⟩)
  exact⟨.ref h'.objs.size,_,I2,rfl,q _ (I1.hok.fresh (zae _))⟩
 ·obtain⟨its,r',pl,hz⟩:=I.tuple hq
  exact call_tuple_same pl ⟨.ref p,H,I,rfl,q⟩
noncomputable def tyV(K:zad)(T:String)(x:V)(H:Hp):Prop:=match x with
 | .str _=>T = "str"
 | .int _=>T = "int"
 | .ref p=>(T = "list" /\ ∃ xs,SqL K H p xs)\/(T = "tuple" /\ ∃ o,K.lookup p=some o/\o.cls=.type "tuple" /\ o.dict=none) \/
   (T = "dict" /\ ((∃ kvs,H p=some (.dK kvs))\/∃ kvs,H p=some (.dT kvs)))\/(T = "set" /\ ∃ S n,H p=some (.set S n))
 | _=>False
theorem qnk{pins:List (Addr × Obj)}{σ:St}{H:Hp}{s:Shared}{T:String}{x:V}{v:Value}(I:Inv X pins σ H s)(r:RelV x v)(ty:tyV X.K T x H) :
  s.TypeIs v T/\∀ a,v=.ref a->∃ ob,s.heap.get? a=some ob/\ob.dict=none:=by
 cases x with
 | str z=>
  obtain⟨t,rfl⟩:=r
  cases(show T = "str" from ty)
  exact⟨typeIs_str s z t,fun _ e=>nomatch e⟩
 | int i=>
  obtain⟨t,rfl⟩:=r
  cases(show T = "int" from ty)
  exact⟨typeIs_int s i t,fun _ e=>nomatch e⟩
 | ref p=>
  cases r
  rcases ty with⟨rfl,xs,hq⟩ | ⟨rfl,o,hk,hc,hd⟩ | ⟨rfl,hk⟩ | ⟨rfl,S,n,hk⟩
  ·obtain⟨its,_,pl,_⟩:=I.list hq
   refine⟨pl.isList.typeIs,fun a e=>?_⟩
   cases e
   obtain⟨o,n,e,c,hd,_⟩:=pl
   exact⟨o,e,hd⟩
  ·refine⟨⟨o,I.kIn p o hk,hc⟩,fun a e=>?_⟩
   cases e
   exact⟨o,I.kIn _ o hk,hd⟩
  ·have z:∃ o,s.heap.get? p=some o/\o.ExactDict:=by
    rcases hk with⟨kvs,hk⟩ | ⟨kvs,hk⟩
    ·obtain⟨_,_,_,_,o,_,_,e,ex,_⟩:=I.hok p _ hk
     exact⟨o,e,ex⟩
    ·obtain⟨_,_,_,_,o,_,_,e,ex,_⟩:=I.hok p _ hk
     exact⟨o,e,ex⟩
   obtain⟨o,e,ex⟩:=z
   refine⟨⟨o,e,ex.1⟩,fun a e2=>?_⟩
   cases e2
   exact⟨o,e,ex.2.1⟩
  ·obtain⟨o,_,_,_,e,ex,_⟩:=I.hok p _ hk
   refine⟨⟨o,e,ex.1⟩,fun a e2=>?_⟩
   cases e2
   exact⟨o,e,ex.2.1⟩
 | _=>exact zbs ty
noncomputable def tBM(K:zad)(T:String)(r:V->List V->Hp->VK->Prop)(to:TE)(t:TA):TE:=fun σ H Q=>to σ H fun x H1=>tyV K T x H1/\t σ H1 fun xs H2=>r x xs H2 Q
variable {o e:Expr}{es:List Expr}{to:TE}{t:TA}{name:Str}{apos cpos:Pos}{T id:String}{r:V->List V->Hp->VK->Prop}
theorem qoR(pa:PlainAttrs T)(slot:Slot T name id)(hty:typeOf (.builtin id)=pure (.type "method_descriptor"))(hm:MtR X id r)(ho:PE X o to)(ha:PA X (e :: es) t)
  (hbase:attributeBase o name X.env (eval o X.env)=eval o X.env:=by rfl)
  (hfew : ((backTo cpos (zap (e :: es) X.env)).all (fun x => !x.1) && (backToKw cpos (keywordEach [] X.env)).all (fun x => x.1.isSome)
   && decide ((e :: es).length + ([]:List Keyword).length + (if ([]:List Keyword).isEmpty then 0 else 1) < 30))=true:=by rfl)
  (hline:(apos.endLine == cpos.line)=true:=by rfl) (hs:zap (e :: es) X.env=(false,eval e X.env) :: zap es X.env:=by rfl) (hplain:(backTo cpos (zap es X.env)).any (·.1)=false:=by rfl) :
  PE X (.Call (.Attribute o name apos) (e :: es) [] cpos) (tBM X.K T r to t):=by
 intro pins s σ H Q I h
 refine wpAny_Call_method_late hbase hfew hline rfl (thn (ho pins s σ H _ I h) fun v s1 ⟨x,H1,I1,r1,ty,q1⟩=>?_)
 obtain⟨h1,h2⟩:=qnk I1 r1 ty
 refine⟨T,id,pa,slot,hty,h1,h2,?_⟩
 have hA:=ha cpos pins s1 σ H1 _ I1 q1
 rw[hs] at hA ⊢
 refine Calls.callWith_builtin (by show(false || (backTo cpos (zap es X.env)).any (·.1))=false; rw[hplain] <;> rfl) (Calls.evalArgs_plain ?_)
 exact thn hA fun us s2 ⟨vs,H2,I2,r2,q2⟩=>hm pins s2 σ H2 x vs v us Q I2 r1 r2 q2
end
noncomputable def MtM(X:Cx)(id:String)(r:V->List V->Hp->VK->Prop):Prop:=
 ∀ (pins:List (Addr × Obj)) (s:Shared) (σ:St) (H:Hp) (x:V) (xs:List V) (v:Value) (us:List Value) (Q:VK),Inv X pins σ H s->RelV x v->Vals xs us->r x xs H Q->
  wpAny (model X.prog X.w) X.A (call (.builtin id) (v :: us)) (EP X pins σ Q) X.xe s
theorem Vals.one:∀ {x:V} {us:List Value},Vals [x] us->∃ u,us=[u]/\RelV x u
 | _,_,.cons r .nil=>⟨_,rfl,r⟩
theorem Vals.two:∀ {x y:V} {us:List Value},Vals [x,y] us->∃ u v,us=[u,v]/\RelV x u/\RelV y v
 | _,_,_,.cons r (.cons q .nil)=>⟨_,_,rfl,r,q⟩
theorem Vals.zero:∀ {us:List Value},Vals [] us->us=[]
 | _,.nil=>rfl
theorem Vals.dropLast{xs:List V}{us:List Value}(h:Vals xs us):Vals xs.dropLast us.dropLast:=by
 induction h with
 | nil=>exact .nil
 | cons r t ih=>
  cases t with
  | nil=>exact .nil
  | cons q t'=>exact .cons r ih
theorem Vals.reverse{xs:List V}{us:List Value}(h:Vals xs us):Vals xs.reverse us.reverse:=by
 induction h with
 | nil=>exact .nil
 | cons r t ih=>rw[List.reverse_cons,List.reverse_cons]; exact Vals.append ih (.cons r .nil)
theorem Vals.rep{xs:List V}{us:List Value}(h:Vals xs us):∀ k:Nat,Vals (List.replicate k xs).flatten (List.replicate k us).flatten
 | 0=>.nil
 | k + 1=>by
  rw[List.replicate_succ,List.replicate_succ,List.flatten_cons,List.flatten_cons]
  exact Vals.append h (Vals.rep h k)
section
variable {X:Cx}{pins:List (Addr × Obj)}{σ:St}{H:Hp}{s:Shared}{l b:Addr}{xs ys zs:List V}
theorem Inv.lset{its its':List Value}{n:Nat}{f:Array Value->Array Value}{t':Nat}(I:Inv X pins σ H s)(hH:H l=some (.lst xs))
  (e:s.heap.get? l=some { cls:=.type "list",data:=.seq its.toArray n }) (hf:f its.toArray=its'.toArray) (hv:Vals ys its') (hz:ys.length<=zal) :
  Inv X pins σ (upd H l (.lst ys)) { s with heap:=s.heap.update l (zaI f),toks:=t' }:=by
 have q:=PySem.IsL.update e f
 rw[hf] at q
 refine I.write (x:=l) (e:=l) (by rw[hH]; exact trivial) (.inl rfl) (fun b' u hb hu=>(zbC s.heap (zaI f) (zaK hb)).trans hu) ⟨_,q⟩ ?_
 exact⟨hz,its',_,hv,q⟩
theorem Inv.lnew{its:List Value}{t':Nat}(I:Inv X pins σ H s)(hv:Vals ys its)(hz:ys.length<=zal) :
  Inv X pins σ (upd H s.heap.objs.size (.lst ys)) { s with heap:=s.heap.push { cls:=.type "list",data:=.seq its.toArray },toks:=t' }:=
 I.laid (fun _ _ q=>zah _ q) (zae _) ⟨hz,its,0,hv,zay _ rfl⟩
theorem Inv.fresh(I:Inv X pins σ H s):H s.heap.objs.size=none:=I.hok.fresh (zae _)
theorem Inv.lstM(I:Inv X pins σ H s)(hH:H l=some (.lst xs)):xs.length<=zal/\∃ (its:List Value) (n:Nat),Vals xs its/\xs.length=its.length/\s.heap.get? l=some { cls:=.type "list",data:=.seq its.toArray n }:=by
 obtain⟨z,its,n,r,e⟩:=I.hok l _ hH
 exact⟨z,its,n,r,r.length,e⟩
end
section
variable {X:Cx}
noncomputable def qh3:V->List V->Hp->VK->Prop:=fun x vs H Q=>∃ l xs y,x=.ref l/\vs=[y]/\H l=some (.lst xs)/\xs.length < zal/\Q .non (upd H l (.lst (xs ++ [y])))
theorem qeV:MtM X "list.append" qh3:=by
 intro pins s σ H x vs v us Q I rx rv h
 obtain⟨l,xs,y,rfl,rfl,hH,hz,q⟩:=h
 cases rx
 obtain⟨u,rfl,ru⟩:=rv.one
 obtain⟨z,its,n,r,hl,e⟩:=I.lstM hH
 refine call_meets F.slot_list_append ⟨_,e,rfl⟩ F.entry_list_append (F.args_list_append_2 _ _) (PySem.list_append l its.toArray n u (by rw[zat]; omega)) ⟨e,?_⟩
 refine⟨.non,_,I.lset (its':=its ++ [u]) hH e (by simp) (r.append (.cons ru .nil)) ?_,rfl,q⟩
 rw[zbA,List.length_singleton]
 omega
end
section
variable {prog:zai}{w:World}{A:Around}{E:Value->Shared->Prop}{s:Shared}
end
section
variable {X:Cx}
end
section
variable {κ:Type}[DecidableEq κ]
noncomputable def valV(kvs:List (κ × V))(k:κ):Option V:=(kvs.find? fun kv=>decide (kv.1=k)).map (·.2)
noncomputable def putK(kvs:List (κ × V))(k:κ)(v:V):List (κ × V):=
 if (kvs.any fun kv=>decide (kv.1=k))=true then kvs.map (fun kv=>if kv.1=k then (kv.1,v) else kv) else kvs ++ [(k,v)]
noncomputable def qns(kvs:List (κ × V))(k:κ):List (κ × V):=kvs.filter fun kv=>decide (kv.1≠k)
theorem qar{p:κ × V}{r:List (κ × V)}{k:κ}(e:p.1=k):valV (p :: r) k=some p.2:=by simp[valV,zbf,e]
theorem qat{p:κ × V}{r:List (κ × V)}{k:κ}(e:¬ p.1=k):valV (p :: r) k=valV r k:=by simp[valV,zbf,e]
theorem qcT(k:κ):∀ kvs:List (κ × V),(kvs.any fun kv=>decide (kv.1=k))=(valV kvs k).isSome
 | []=>rfl
 | p :: r=>by
  rw[List.any_cons]
  by_cases e:p.1=k
  ·simp only[qar e,decide_eq_true e,Bool.true_or,Option.isSome_some]
  ·rw[qat e,decide_eq_false e,Bool.false_or]; exact qcT k r
theorem qg7(k j:κ)(y:V):∀ kvs:List (κ × V),valV (kvs.map fun kv=>if kv.1=k then (kv.1,y) else kv) j=(valV kvs j).map fun x=>if j=k then y else x
 | []=>rfl
 | p :: r=>by
  have ih:=qg7 k j y r
  rw[zaf]
  by_cases h:p.1=k
  ·rw[if_pos h]
   by_cases e:p.1=j
   ·rw[qar (p:=(p.1,y)) e,qar e,zam,if_pos (e.symm.trans h)]
   ·rw[qat (p:=(p.1,y)) e,qat e,ih]
  ·rw[if_neg h]
   by_cases e:p.1=j
   ·rw[qar (p:=p) e,qar e,zam,if_neg (fun z=>h (e.trans z))]
   ·rw[qat (p:=p) e,qat e,ih]
theorem qeT(k j:κ)(y:V):∀ kvs:List (κ × V),valV kvs k=none->valV (kvs ++ [(k,y)]) j=if j=k then some y else valV kvs j
 | [],_=>by
  by_cases e:k=j
  ·rw[if_pos e.symm]; exact qar (p:=(k,y)) e
  ·rw[if_neg (fun z=>e z.symm)]; exact qat (p:=(k,y)) e
 | p :: r,hn=>by
  rw[List.cons_append]
  have hk:¬ p.1=k:=fun z=>by rw[qar z] at hn; cases hn
  rw[qat hk] at hn
  have ih:=qeT k j y r hn
  by_cases e:p.1=j
  ·rw[qar e,qar e,if_neg (fun z=>hk (e.trans z))]
  ·rw[qat e,qat e,ih]
theorem qkH(kvs:List (κ × V))(k j:κ)(y:V):valV (putK kvs k y) j=if j=k then some y else valV kvs j:=by
 unfold putK
 by_cases a:(kvs.any fun kv=>decide (kv.1=k))=true
 ·rw[if_pos a,qg7]
  rw[qcT] at a
  by_cases e:j=k
  ·obtain⟨x,hx⟩:=Option.isSome_iff_exists.mp a
   rw[if_pos e,e,hx,zam,if_pos rfl]
  ·rw[if_neg e]
   cases valV kvs j with
   | none=>rfl
   | some x=>rw[zam,if_neg e]
 ·rw[if_neg a]
  refine qeT k j y kvs ?_
  rw[qcT] at a
  cases q:valV kvs k with
  | none=>rfl
  | some x=>rw[q] at a; exact(a rfl).elim
theorem qaC(kvs:List (κ × V))(k:κ)(v:V):(putK kvs k v).length<=kvs.length + 1:=by
 unfold putK
 split
 ·rw[zaq]; omega
 ·rw[zbA,zaW,List.length_nil]; omega
theorem RelO.isSome_eq{o:Option V}{u:Option Value}(r:RelO o u):o.isSome=u.isSome:=by
 cases o with
 | none=>cases u with
  | none=>rfl
  | some _=>exact(show False from r).elim
 | some _=>cases u with
  | none=>exact(show False from r).elim
  | some _=>rfl
theorem RelO.getD{o:Option V}{u:Option Value}{d:V}{d':Value}(r:RelO o u)(rd:RelV d d'):RelV (o.getD d) (u.getD d'):=by
 cases o with
 | none=>cases u with
  | none=>exact rd
  | some _=>exact(show False from r).elim
 | some _=>cases u with
  | none=>exact(show False from r).elim
  | some _=>exact r
theorem KV.val{kvs:List (κ × V)}{vs:List (κ × Value)}(r:KV kvs vs)(k:κ):RelO (valV kvs k) (valueAt vs k):=by
 unfold KV at r
 induction r with
 | nil=>exact zbu
 | @cons p q ps qs h t ih=>
  obtain⟨h1,h2⟩:=h
  by_cases e:p.1=k
  ·have e':q.1=k:=h1.symm.trans e
   have b:valueAt (q :: qs) k=some q.2:=by simp[valueAt,zbf,e']
   rw[qar e,b]; exact h2
  ·have e':¬ q.1=k:=fun z=>e (h1.trans z)
   have b:valueAt (q :: qs) k=valueAt qs k:=by simp[valueAt,zbf,e']
   rw[qat e,b]; exact ih
theorem KV.any{kvs:List (κ × V)}{vs:List (κ × Value)}(r:KV kvs vs)(k:κ):(kvs.any fun kv=>decide (kv.1=k))=vs.any fun kv=>decide (kv.1=k):=by
 unfold KV at r
 induction r with
 | nil=>rfl
 | cons h t ih=>rw[List.any_cons,List.any_cons,ih,h.1]
theorem KV.repl{kvs:List (κ × V)}{vs:List (κ × Value)}(r:KV kvs vs)(k:κ){y:V}{u:Value}(ry:RelV y u) :
  KV (kvs.map fun kv=>if kv.1=k then (kv.1,y) else kv) (vs.map fun kv=>if kv.1=k then (kv.1,u) else kv):=by
 unfold KV at r ⊢
 induction r with
 | nil=>exact .nil
 | @cons p q ps qs h t ih=>
  rw[zaf,zaf]
  refine .cons ?_ ih
  obtain⟨h1,h2⟩:=h
  by_cases e:p.1=k
  ·rw[if_pos e,if_pos (h1.symm.trans e)]; exact⟨h1,ry⟩
  ·rw[if_neg e,if_neg (fun z=>e (h1.trans z))]; exact⟨h1,h2⟩
theorem KV.put{kvs:List (κ × V)}{vs:List (κ × Value)}(r:KV kvs vs)(k:κ){y:V}{u:Value}(ry:RelV y u):KV (putK kvs k y) (stored vs k u):=by
 unfold putK stored
 rw[r.any k]
 by_cases e:(vs.any fun kv=>decide (kv.1=k))=true
 ·rw[if_pos e,if_pos e]; exact r.repl k ry
 ·rw[if_neg e,if_neg e]; exact Paired.snoc r ⟨rfl,ry⟩
theorem KV.drop{kvs:List (κ × V)}{vs:List (κ × Value)}(r:KV kvs vs)(k:κ):KV (qns kvs k) (without vs k):=by
 unfold KV at r ⊢
 unfold qns without
 induction r with
 | nil=>exact .nil
 | @cons p q ps qs h t ih=>
  obtain⟨h1,h2⟩:=h
  rw[List.filter_cons,List.filter_cons]
  by_cases e:p.1=k
  ·have a:¬ decide (p.1≠k)=true:=by simp[e]
   have b:¬ decide (q.1≠k)=true:=by simp[h1.symm.trans e]
   rw[if_neg a,if_neg b]; exact ih
  ·have e':¬ q.1=k:=fun z=>e (h1.trans z)
   have a:decide (p.1≠k)=true:=by simp[e]
   have b:decide (q.1≠k)=true:=by simp[e']
   rw[if_pos a,if_pos b]; exact .cons ⟨h1,h2⟩ ih
theorem KV.length{kvs:List (κ × V)}{vs:List (κ × Value)}(r:KV kvs vs):kvs.length=vs.length:=zbr r
end
theorem qhE{P:zai}{w:World}{k:Key}{u:Value}(r:RelV (kV k) u):(qK P w).is k u=true:=by
 cases k with
 | inl i=>obtain⟨t,e⟩:=(show ∃ t,u=Value.int i t from r); subst e; exact qfF P w i t
 | inr x=>obtain⟨t,e⟩:=(show ∃ t,u=Value.str x t from r); subst e; exact qfE P w x t
theorem qe9{P:zai}{w:World}:∀ {ks:List Key} {us:List Value},Vals (ks.map kV) us->ItemsAre (qK P w) ks us
 | [],_,r=>by rw[zbB] at r; cases r; exact .nil
 | k :: ks,_,r=>by
  rw[zaf] at r
  cases r with
  | cons h t=>exact .cons (qhE h) (qe9 t)
noncomputable abbrev KT(H:Hp):List (List Key × V)->List (List Key × Addr × Value)->Prop:=Paired fun p q=>p.1=q.1/\H q.2.1=some (.tup (p.1.map kV))/\RelV p.2 q.2.2
theorem KT.val{H:Hp}{kvs:List (List Key × V)}{xs:List (List Key × Addr × Value)}(r:KT H kvs xs)(k:List Key):RelO (valV kvs k) ((atKey xs k).map (·.2)):=by
 induction r with
 | nil=>exact zbu
 | @cons p q ps qs h t ih=>
  obtain⟨h1,_,h2⟩:=h
  by_cases e:p.1=k
  ·have e':q.1=k:=h1.symm.trans e
   have b:atKey (q :: qs) k=some q.2:=by simp[atKey,zbf,e']
   rw[qar e,b]; exact h2
  ·have e':¬ q.1=k:=fun z=>e (h1.trans z)
   have b:atKey (q :: qs) k=atKey qs k:=by simp[atKey,zbf,e']
   rw[qat e,b]; exact ih
theorem KT.repl{H:Hp}{kvs:List (List Key × V)}{xs:List (List Key × Addr × Value)}(r:KT H kvs xs)(k:List Key){y:V}{u:Value}(ry:RelV y u) :
  KT H (kvs.map fun kv=>if kv.1=k then (kv.1,y) else kv) (xs.map (putAt k u)):=by
 induction r with
 | nil=>exact .nil
 | @cons p q ps qs h t ih=>
  rw[zaf,zaf]
  refine .cons ?_ ih
  obtain⟨h1,h2,h3⟩:=h
  unfold putAt
  by_cases e:p.1=k
  ·rw[if_pos e,if_pos (h1.symm.trans e)]; exact⟨h1,h2,ry⟩
  ·rw[if_neg e,if_neg (fun z=>e (h1.trans z))]; exact⟨h1,h2,h3⟩
theorem KT.put{H:Hp}{kvs:List (List Key × V)}{xs:List (List Key × Addr × Value)}(r:KT H kvs xs)(k:List Key){b:Addr}{y:V}{u:Value}(hb:H b=some (.tup (k.map kV)))(ry:RelV y u) :
  KT H (putK kvs k y) (storedH xs k b u):=by
 have e:(kvs.any fun kv=>decide (kv.1=k))=(atKey xs k).isSome:=by
  rw[qcT,(r.val k).isSome_eq,Option.isSome_map]
 unfold putK storedH
 rw[e]
 by_cases q:(atKey xs k).isSome=true
 ·rw[if_pos q,if_pos q]; exact r.repl k ry
 ·rw[if_neg q,if_neg q]; exact Paired.snoc r ⟨rfl,hb,ry⟩
theorem KT.keeps{H H':Hp}{kvs:List (List Key × V)}{xs:List (List Key × Addr × Value)}(r:KT H kvs xs)(ht:∀ b ys,H b=some (.tup ys)->H' b=some (.tup ys)):KT H' kvs xs:=
 Paired.mapP r fun _ _ z=>⟨z.1,ht _ _ z.2.1,z.2.2⟩
section
variable {P:zai}{w:World}{H:Hp}{h:Heap}{a:Addr}
theorem qno{u:HO}(ok:HOk P w H h)(e:Rd H a u):ObjOk P w H h a u:=e.ok ok
theorem qf1{kvs:List (Key × V)}(ok:HOk P w H h)(e:Rd H a (.dK kvs)):kvs.length<=zal/\(a == za9)=false/\∃ vs,KV kvs vs/\h.DictOf (qK P w) a vs:=
 show ObjOk P w H h a (.dK kvs) from qno ok e
theorem qnd{kvs:List (Key × V)}(ok:HOk P w H h)(e:H a=some (.dK kvs)):kvs.length<=zal/\(a == za9)=false/\∃ vs,KV kvs vs/\h.DictOf (qK P w) a vs:=qf1 ok (.inl e)
theorem qdj{ks:List Key}(ok:HOk P w H h)(e:H a=some (.tup (ks.map kV))):(zaZ (qK P w)).is h ks a:=by
 obtain⟨_,its,r,o,h1,h2,n,h3⟩:=(show ObjOk P w H h a (.tup (ks.map kV)) from ok a _ e)
 exact⟨o,its.toArray,n,h1,h2,h3.1,by simpa using qe9 r⟩
theorem qhL{kvs:List (List Key × V)}(ok:HOk P w H h)(e:Rd H a (.dT kvs)):kvs.length<=zal/\(a == za9)=false /\
  ∃ xs,KT H kvs xs/\h.DictOfH (zaZ (qK P w)) a xs:=by
 obtain⟨z,y,xs,r,o,es,ep,h1,h2,h3,h4,h5⟩:=(show ObjOk P w H h a (.dT kvs) from qno ok e)
 refine⟨z,y,xs,r,o,es,ep,h1,h2,h3,h4,fun x hx=>?_,h5⟩
 have all:∀ {l:List (List Key × V)} {m:List (List Key × Addr × Value)},KT H l m->∀ x∈m,(zaZ (qK P w)).is h x.1 x.2.1:=by
  intro l m q
  induction q with
  | nil=>intro x hx; exact nomatch hx
  | @cons p q ps qs hq t ih=>
   intro x hx
   rcases List.mem_cons.mp hx with e | hx
   ·subst e
    exact qdj ok (by rw[<- hq.1]; exact hq.2.1)
   ·exact ih x hx
 exact all r x hx
theorem qmG{kvs:List (List Key × V)}(ok:HOk P w H h)(e:H a=some (.dT kvs)):kvs.length<=zal/\(a == za9)=false /\
  ∃ xs,KT H kvs xs/\h.DictOfH (zaZ (qK P w)) a xs:=qhL ok (.inl e)
end
noncomputable def DGet(H:Hp)(a:Addr)(y:V)(r:Option V):Prop:=
 (∃ kvs k,Rd H a (.dK kvs)/\y=kV k/\r=valV kvs k)\/∃ kvs k b,Rd H a (.dT kvs)/\y=.ref b/\H b=some (.tup (k.map kV))/\r=valV kvs k
noncomputable def DPut(H:Hp)(a:Addr)(y v:V)(H':Hp):Prop:=
 (∃ kvs k,H a=some (.dK kvs)/\y=kV k/\kvs.length < zal/\H'=upd H a (.dK (putK kvs k v))) \/
 ∃ kvs k b,H a=some (.dT kvs)/\y=.ref b/\H b=some (.tup (k.map kV))/\kvs.length < zal/\H'=upd H a (.dT (putK kvs k v))
theorem DGet.k{H:Hp}{a:Addr}{kvs:List (Key × V)}{k:Key}(e:H a=some (.dK kvs)):DGet H a (kV k) (valV kvs k):=.inl ⟨kvs,k,.inl e,rfl,rfl⟩
theorem DGet.t{H:Hp}{a b:Addr}{kvs:List (List Key × V)}{k:List Key}(e:H a=some (.dT kvs))(eb:H b=some (.tup (k.map kV))):DGet H a (.ref b) (valV kvs k):=.inr ⟨kvs,k,b,.inl e,rfl,eb,rfl⟩
theorem DPut.k{H:Hp}{a:Addr}{kvs:List (Key × V)}{k:Key}{v:V}(e:H a=some (.dK kvs))(hl:kvs.length < zal):DPut H a (kV k) v (upd H a (.dK (putK kvs k v))):=.inl ⟨kvs,k,e,rfl,hl,rfl⟩
theorem DPut.t{H:Hp}{a b:Addr}{kvs:List (List Key × V)}{k:List Key}{v:V}(e:H a=some (.dT kvs))(eb:H b=some (.tup (k.map kV)))(hl:kvs.length < zal) :
  DPut H a (.ref b) v (upd H a (.dT (putK kvs k v))):=.inr ⟨kvs,k,b,e,rfl,eb,hl,rfl⟩
section
variable {X:Cx}{pins:List (Addr × Obj)}{σ:St}{H:Hp}{s:Shared}{a:Addr}{y v:V}{u r:Value}{o:Option V}{A:Around}{E:Value->Shared->Prop}
theorem Inv.big(I:Inv X pins σ H s):za9 < s.heap.objs.size:=by
 have h:zas < s.heap.objs.size:=(I.mod.glob.keeps I.bk).lt
 exact zbQ (by decide) h
theorem qja{Q:Value->Shared->Prop}(hu:A.units + 1 < cLine)(I:Inv X pins σ H s)(g:DGet H a y (some v))(ry:RelV y u)(h:∀ w' s',Inv X pins σ H s'->RelV v w'->Q w' s') :
  wpAny (model X.prog X.w) A (getItem (.ref a) u) Q E s:=by
 rcases g with⟨kvs,k,e,ey,l⟩ | ⟨kvs,k,b,e,ey,eb,l⟩
 ·subst ey
  obtain⟨z,hd,vs,rel,dd⟩:=qf1 I.hok e
  obtain⟨w',hw,rw'⟩:=RelO.some_of (v:=v) (o:=valueAt vs k) (by rw[l]; exact rel.val k)
  exact wpAny_getItem_of (qhE ry) dd.mapOf hw (h w' _ (I.tok _) rw')
 ·subst ey
  cases(show u=zaj b from ry)
  obtain⟨z,hd,xs,rel,dd⟩:=qhL I.hok e
  obtain⟨w',hw,rw'⟩:=RelO.some_of (v:=v) (o:=(atKey xs k).map (·.2)) (by rw[l]; exact rel.val k)
  obtain⟨p,hp,hp2⟩:=Option.map_eq_some_iff.mp hw
  refine wpAny_getItem_heap (tupleKind_room_in1 hu) (qdj I.hok eb) dd hp ?_
  rw[hp2]
  exact h w' _ (I.tok _) rw'
theorem qlq{Q:Value->Shared->Prop}(hu:A.units + 1 < cLine)(I:Inv X pins σ H s)(g:DGet H a y o)(ry:RelV y u)(h:∀ s',Inv X pins σ H s'->Q (.bool (!o.isSome)) s') :
  wpAny (model X.prog X.w) A (zaL .NotIn u (.ref a)) Q E s:=by
 rcases g with⟨kvs,k,e,ey,l⟩ | ⟨kvs,k,b,e,ey,eb,l⟩
 ·subst ey
  obtain⟨z,hd,vs,rel,dd⟩:=qf1 I.hok e
  refine wpAny_notIn_of (qhE ry) hd dd.mapOf ?_
  rw[<- (rel.val k).isSome_eq,<- l]
  exact h _ (I.tok _)
 ·subst ey
  cases(show u=zaj b from ry)
  obtain⟨z,hd,xs,rel,dd⟩:=qhL I.hok e
  refine wpAny_notIn_heap (tupleKind_room_in1 hu) (qdj I.hok eb) hd dd ?_
  have q:=(rel.val k).isSome_eq
  rw[Option.isSome_map] at q
  rw[<- q,<- l]
  exact h _ (I.tok _)
theorem qdl{h':Heap}{t':Nat}{ob:HO}(I:Inv X pins σ H s)(mu:Mut (H a))(hs:za3 a s.heap h')(he:∃ q,h'.get? a=some q)(new:ObjOk X.prog X.w (upd H a ob) h' a ob) :
  Inv X pins σ (upd H a ob) { s with heap:=h',toks:=t' }:=
 I.write (x:=a) (e:=a) mu (.inl rfl) (fun b q hb z=>(hs.2 b hb).trans z) he new
theorem qk3{P:zai}{w:World}{H':Hp}{h':Heap}{kvs:List (Key × V)}{vs:List (Key × Value)}(z:kvs.length<=zal)(hd:(a == za9)=false)(rel:KV kvs vs)(dd:h'.DictOf (qK P w) a vs) :
  ObjOk P w H' h' a (.dK kvs):=⟨z,hd,vs,rel,dd⟩
theorem qiu{H':Hp}{Q:Unit->Shared->Prop}(hu:A.units + 1 < cLine)(I:Inv X pins σ H s)(g:DPut H a y v H')(ry:RelV y u)(rv:RelV v r)(h:∀ s',Inv X pins σ H' s'->Q () s') :
  wpAny (model X.prog X.w) A (setItem (.ref a) u r) Q E s:=by
 rcases g with⟨kvs,k,e,ey,l,eH⟩ | ⟨kvs,k,b,e,ey,eb,l,eH⟩
 ·subst ey eH
  obtain⟨z,hd,vs,rel,dd⟩:=qnd I.hok e
  have hz:vs.length<=zal:=by rw[<- rel.length]; exact z
  have hl:(putK kvs k v).length<=zal:=by have:=qaC kvs k v; omega
  refine wpAny_setItem_pairs (hsz:=hz) (qhE ry) dd fun h' dd' hs=>h _ ?_
  have he:∃ q,h'.get? a=some q:=let ⟨q,_,_,hq,_⟩:=dd'; ⟨q,hq⟩
  exact qdl I (by rw[e]; exact zbu) hs he (qk3 hl hd (rel.put k rv) dd')
 ·subst ey eH
  cases(show u=zaj b from ry)
  obtain⟨z,hd,xs,rel,dd⟩:=qmG I.hok e
  have hz:xs.length<=zal:=by rw[<- zbr rel]; exact z
  have hl:(putK kvs k v).length<=zal:=by have:=qaC kvs k v; omega
  refine wpAny_setItem_heap (hsz:=hz) (tupleKind_room_in1 hu) (qdj I.hok eb) dd fun h' dd' hs=>h _ ?_
  obtain⟨q,es,ep,hq,h2,h3,h4,_,h5⟩:=dd'
  refine qdl I (by rw[e]; exact zbu) hs ⟨q,hq⟩ ⟨hl,hd,_,(rel.put k eb rv).keeps fun c ys ec=>?_,q,es,ep,hq,h2,h3,h4,h5⟩
  rw[qt (qkj ec e (fun z=>nomatch z))]
  exact ec
end
section
variable {X:Cx}{pins:List (Addr × Obj)}{σ:St}{H:Hp}{s:Shared}{a:Addr}{kvs:List (Key × V)}{k:Key}{u:Value}{A:Around}{E:Value->Shared->Prop}
theorem qo0{Q:Value->Shared->Prop}(I:Inv X pins σ H s)(e:Rd H a (.dK kvs))(h:∀ t s',Inv X pins σ H s'->Q (.int kvs.length t) s'):wpAny (model X.prog X.w) A (call (.builtin "len") [.ref a]) Q E s:=by
 obtain⟨z,hd,vs,rel,dd⟩:=qf1 I.hok e
 refine call_len_dict hd dd (by rw[<- rel.length]; rw[zbz] at z; omega) ?_
 rw[<- rel.length]
 exact h _ _ (I.tok _)
end
noncomputable def NoSl(i:Expr):Prop:=∀ ov iv,subscripted i false ov iv=operate [ov,iv] (getItem ov iv)
theorem qmM{prog:zai}{w:World}{A:Around}{E:Value->Shared->Prop}{s:Shared}{env:Env}{value slice:Expr}{pos:Pos}{T id:String}{Q:Value->Shared->Prop}
  (hl:typeLookup (.type T) "__getitem__" = pure (some (.builtin id))) (hs:NoSl slice)
  (h:wpAny (model prog w) A (eval value env) (fun o s₁=>wpAny (model prog w) A (eval slice env) (fun i s₂=>s₂.TypeIs o T/\wpAny (model prog w) A (getItem o i) Q E s₂) E s₁) E s) :
  wpAny (model prog w) A (eval (.Subscript value slice pos) env) Q E s:=by
 refine Subscript_ (za0 h (fun o s₁ h₁=>za0 h₁ (fun i s₂ h₂=>?_) fun _ _ x=>x) fun _ _ x=>x)
 obtain⟨hT,h₂⟩:=h₂
 unfold subscriptTail
 refine zaa ?_
 rw[getitemInPython_of_ne hT.not_modules]
 refine zaa (wpAny_specialOf hT hl ?_)
 have fin:wpAny (model prog w) A (subscripted slice false o i) (fun r s₃=>wpAny (model prog w) A (letTemporaryGo value o r >>= fun _=>pure r) Q E s₃) E s₂:=by
  rw[hs o i]
  exact wpAny_operating (za0 h₂ (fun r s₃ h₃=>zaa (wpAny_letTemporaryGo (zab h₃))) fun _ _ x=>x)
 first
  | exact zab (zaa fin)
  | exact zaa (zab (zaa fin))
  | exact zaa fin
theorem qf7{X:Cx}{pins:List (Addr × Obj)}{σ:St}{H:Hp}{s:Shared}{a:Addr}{y:V}{o:Option V}(I:Inv X pins σ H s)(g:DGet H a y o):s.TypeIs (.ref a) "dict" := by
 rcases g with⟨kvs,k,e,_,_⟩ | ⟨kvs,k,b,e,_,_,_⟩
 ·obtain⟨_,_,vs,_,dd⟩:=qf1 I.hok e
  exact dd.typeIs
 ·obtain⟨_,_,xs,_,dd⟩:=qhL I.hok e
  exact dd.typeIs
noncomputable def qnt(td ty:TE):TE:=fun σ H Q=>td σ H fun x H1=>ty σ H1 fun y H2=>∃ a v,x=.ref a/\DGet H2 a y (some v)/\Q v H2
noncomputable def qoF(td ty tv:TE):TS:=fun D σ H=>tv σ H fun v H1=>td σ H1 fun x H2=>ty σ H2 fun y H3=>∃ a H4,x=.ref a/\DPut H3 a y v H4/\D.nx σ H4
section
variable {X:Cx}{o i e value:Expr}{pos pos' tpos:Pos}{td ty tv:TE}
theorem qlR(hu:X.A.units + 1 < cLine)(ho:PE X o td)(hi:PE X i ty)(hs:NoSl i):PE X (.Subscript o i pos) (qnt td ty):=by
 intro pins s σ H Q I h
 refine qmM PySem.F.slot_dict_getitem.lookup hs (thn (ho pins s σ H _ I h) fun u s1 ⟨x,H1,I1,rx,q1⟩=>thn (hi pins s1 σ H1 _ I1 q1) fun iv s2 ⟨y,H2,I2,ry,a,v,ex,g,q2⟩=>?_)
 subst ex
 obtain rfl:u=zaj a:=rx
 exact⟨qf7 I2 g,qja hu I2 g ry fun w' s3 I3 rw'=>⟨v,H2,I3,rw',q2⟩⟩
theorem qmB(hu:X.A.units + 1 < cLine)(ho:PE X o td)(hi:PE X i ty)(hv:PE X value tv)(hs:swapsWith value (some (.Subscript o i pos')) pos.line X.env=pure false) :
  PS X (.Assign [.Subscript o i pos'] value pos) (qoF td ty tv):=by
 intro pins s σ H D I h
 refine wpAny_Assign_Subscript (thn (hv pins s σ H _ I h) fun r s1 ⟨v,H1,I1,rv,q1⟩=>thn (ho pins s1 σ H1 _ I1 q1) fun u s2 ⟨x,H2,I2,rx,q2⟩=>thn (hi pins s2 σ H2 _ I2 q2) fun iv s3 ⟨y,H3,I3,ry,a,H4,ex,g,q3⟩=>?_) hs
 subst ex
 obtain rfl:u=zaj a:=rx
 exact qiu hu I3 g ry rv fun s4 I4=>⟨σ,H4,I4,q3⟩
end
theorem qjS{P:zai}{w:World}{H:Hp}(h:Heap)(hb:za9 < h.objs.size):ObjOk P w H (h.push { cls:=.type "dict",data:=.dict #[] }) h.objs.size (.dK []):=
 ⟨zau _,beq_eq_false_iff_ne.mpr (zaK (zaA hb)),[],.nil,Heap.DictOf.new h⟩
theorem qd1{P:zai}{w:World}{H:Hp}(h:Heap)(hb:za9 < h.objs.size):ObjOk P w H (h.push { cls:=.type "dict",data:=.dict #[] }) h.objs.size (.dT []):=
 ⟨zau _,beq_eq_false_iff_ne.mpr (zaK (zaA hb)),[],.nil,_,#[],0,zay _ rfl,⟨rfl,rfl,rfl⟩,rfl,rfl,List.nodup_nil⟩
noncomputable def qnp:TE:=fun _ H Q=>∀ p,H p=none->Q (.ref p) (upd H p (.dT []))
section
variable {X:Cx}{pos:Pos}
theorem qjG:PE X (.Dict [] [] pos) qnp:=fun pins s σ H Q I h=>
 wpAny_Dict_empty ⟨.ref s.heap.objs.size,_,I.laid (a:=s.heap.objs.size) (o:=.dT []) (t':=s.toks) (fun _ _ q=>zah _ q) (zae _) (qd1 s.heap I.big),rfl,h _ (I.hok.fresh (zae _))⟩
end
noncomputable def qn5(kvs more:List (Key × V)):List (Key × V):=more.foldl (fun acc kv=>putK acc kv.1 kv.2) kvs
theorem KV.merge:∀ {more:List (Key × V)} {rs:List (Key × Value)} {kvs:List (Key × V)} {vs:List (Key × Value)},KV more rs->KV kvs vs->KV (qn5 kvs more) (merged vs rs):=by
 intro more rs kvs vs r
 unfold KV at r
 induction r generalizing kvs vs with
 | nil=>intro q; exact q
 | @cons p q ps qs h t ih=>
  intro r0
  have e:KV (putK kvs p.1 p.2) (stored vs q.1 q.2):=by
   have:=r0.put p.1 h.2
   rw[<- h.1]; exact this
  exact ih e
structure M2(X:Cx)(o:Expr)(m:Str)(apos:Pos)(e f:Expr)(cpos:Pos):Prop where
 base:attributeBase o m X.env (eval o X.env)=eval o X.env
 few:((backTo cpos (zap [e,f] X.env)).all (fun x=>!x.1) && (backToKw cpos (keywordEach [] X.env)).all (fun x=>x.1.isSome)
  && decide (([e,f]:List Expr).length + ([]:List Keyword).length + (if ([]:List Keyword).isEmpty then 0 else 1) < 30))=true
 line:(apos.endLine == cpos.line)=true
 trees:backTo cpos (zap [e,f] X.env)=[(false,eval e X.env),(false,eval f X.env)]
noncomputable def IsD(H:Hp)(a:Addr):Prop:=(∃ kvs,Rd H a (.dK kvs))\/∃ kvs,Rd H a (.dT kvs)
theorem qkY{X:Cx}{pins:List (Addr × Obj)}{σ:St}{H:Hp}{s:Shared}{a:Addr}(I:Inv X pins σ H s)(d:IsD H a) :
  s.TypeIs (.ref a) "dict" /\ (∀ b,zaj a=.ref b->∃ ob,s.heap.get? b=some ob/\ob.dict=none)/\(a == za9)=false:=by
 rcases d with⟨kvs,e⟩ | ⟨kvs,e⟩
 ·obtain⟨_,hd,vs,_,dd⟩:=qf1 I.hok e
  refine⟨dd.typeIs,fun b q=>?_,hd⟩
  cases q
  obtain⟨ob,_,_,h1,h2,_⟩:=dd
  exact⟨ob,h1,h2.2.1⟩
 ·obtain⟨_,hd,xs,_,dd⟩:=qhL I.hok e
  refine⟨dd.typeIs,fun b q=>?_,hd⟩
  cases q
  obtain⟨ob,_,_,h1,h2,_⟩:=dd
  exact⟨ob,h1,h2.2.1⟩
section
variable {X:Cx}{pins:List (Addr × Obj)}{σ:St}{H:Hp}{s:Shared}{a:Addr}{y d:V}{u r:Value}{o:Option V}{A:Around}{E:Value->Shared->Prop}
theorem qow{Q:Value->Shared->Prop}(hu:A.units + 1 < cLine)(I:Inv X pins σ H s)(g:DGet H a y o)(ry:RelV y u)(rd:RelV d r)(h:∀ w' s',Inv X pins σ H s'->RelV (o.getD d) w'->Q w' s') :
  wpAny (model X.prog X.w) A (call (.builtin "dict.get") [.ref a,u,r]) Q E s:=by
 rcases g with⟨kvs,k,e,ey,l⟩ | ⟨kvs,k,b,e,ey,eb,l⟩
 ·subst ey
  obtain⟨z,hd,vs,rel,dd⟩:=qf1 I.hok e
  refine call_meetsIn PySem.F.slot_dict_get dd.typeIs PySem.F.entry_dict_get (PySem.F.args_dict_get_3 _ _ _) (meets_dict_get_default (qK X.prog X.w) a (qhE ry) hd r) ⟨_,dd.mapOf,h _ _ (I.tok _) ?_⟩
  rw[l]
  exact(rel.val k).getD rd
 ·subst ey
  cases(show u=zaj b from ry)
  obtain⟨z,hd,xs,rel,dd⟩:=qhL I.hok e
  refine call_meetsIn PySem.F.slot_dict_get dd.typeIs PySem.F.entry_dict_get (PySem.F.args_dict_get_3 _ _ _) (meetsH_dict_get_default (zaZ (qK X.prog X.w)) a b hd r) ⟨tupleKind_room_in1 hu,k,xs,qdj I.hok eb,dd,h _ _ (I.tok _) ?_⟩
  rw[l]
  exact(rel.val k).getD rd
end
noncomputable def qor(td ty tx:TE):TE:=fun σ H Q=>td σ H fun x H1=>∃ a,x=.ref a/\IsD H1 a/\ty σ H1 fun y H2=>tx σ H2 fun z H3=>∃ o,DGet H3 a y o/\Q (o.getD z) H3
section
variable {X:Cx}{o e f:Expr}{apos cpos:Pos}{td ty tx:TE}
theorem qkg(hu:X.A.units + 1 < cLine)(ho:PE X o td)(he:PE X e ty)(hf:PE X f tx)(m:M2 X o "get" apos e f cpos):PE X (.Call (.Attribute o "get" apos) [e,f] [] cpos) (qor td ty tx):=by
 intro pins s σ H Q I h
 refine wpAny_Call_method m.base m.few m.line PySem.F.plainAttrs_dict PySem.F.slot_dict_get PySem.F.type_dict_get (thn (ho pins s σ H _ I h) fun u s1 ⟨x,H1,I1,rx,a,ex,d,q1⟩=>?_)
 subst ex
 obtain rfl:u=zaj a:=rx
 obtain⟨t1,t2,_⟩:=qkY I1 d
 refine⟨t1,t2,?_⟩
 rw[m.trees]
 refine Calls.callWith_builtin rfl (Calls.evalArgs_plain (Calls.spliced_cons (thn (he pins s1 σ H1 _ I1 q1) fun iv s2 ⟨y,H2,I2,ry,q2⟩=>
  Calls.spliced_cons (thn (hf pins s2 σ H2 _ I2 q2) fun fv s3 ⟨z,H3,I3,rz,ov,g,q3⟩=>Calls.spliced_nil ?_))))
 exact qow hu I3 g ry rz fun w' s4 I4 rw'=>⟨_,H3,I4,rw',q3⟩
end
section
variable {X:Cx}{pins:List (Addr × Obj)}{σ:St}{H:Hp}{s:Shared}{a:Addr}{kvs:List (Key × V)}{A:Around}{E:Value->Shared->Prop}
end
section
variable {X:Cx}{pins:List (Addr × Obj)}{σ:St}{H:Hp}{s:Shared}{a:Addr}{y:V}{u:Value}{A:Around}{E:Value->Shared->Prop}
end
end L2
namespace Att
open PySem PySem.W PySem.Calls PyProof.Rows
theorem qdo{P:Params}{h:Heap}:∀ (ns:List Int) (vs:List Value),WellAll P h vs (ns.map WData.int)->zaV vs ns:=by
 intro ns
 induction ns with
 | nil=>
  intro vs w
  rw[zbB] at w
  cases w
  exact .nil
 | cons n ns ih=>
  intro vs w
  rw[zaf] at w
  cases w with
  | cons a b=>
   cases a
   exact .cons _ _ (ih _ b)
theorem qiU{l:OpenLaw}{n:Nat}(hn:l.most=some n){P:Params}{h:Heap}{args:List WData}{vals:List Value}
  (hpre:l.row.toRowW.claim.pre args=true) (hwl:WellAll P h vals args) :
  ∃ a vs ns,vals=[zaj a]/\args=[WData.list (ns.map WData.int)]/\h.get? a=some { cls:=.type "list",data:=.seq vs.toArray }/\zaV vs ns/\ns.length<=n:=by
 have hsh:WShape.hasAll [] args [.list .int]=true:=(pre_splitW hpre).1
 have hc:l.pre.holds [] { args:=args }=true:=(pre_splitW hpre).2
 obtain⟨d,r,rfl,h1,h2⟩:=hasAllW_cons hsh
 obtain rfl:=hasAllW_nil h2
 obtain⟨xs,rfl,h3⟩:=hasW_list h1
 obtain⟨ns,rfl⟩:=items_int h3
 have hlen:ns.length<=n:=by
  unfold OpenLaw.pre at hc
  have h4:(WTm.not (.lt (.lit (.int (n:Int))) (.len (.arg 0)))).holds [] { args:=[.list (ns.map .int)] }=true:=by
   have h4:=(holds_andW hc).1
   rw[hn] at h4
   exact h4
  have h5:=condW_of h4 (w_not (w_lt w_lit (w_len_list (w_arg rfl))))
  rw[zaq] at h5
  refine Nat.le_of_not_lt fun q=>?_
  have q':(n:Int) < ((ns.length:Nat):Int):=by omega
  first
   | (rw[decide_eq_true q'] at h5; exact absurd h5 (by decide))
   | (simp at h5; omega)
 cases hwl with
 | cons w1 w2=>
  cases w2
  cases w1 with
  | list ho hall=>exact⟨_,_,ns,rfl,rfl,ho,qdo ns _ hall,hlen⟩
theorem qjo(l:OpenLaw)(args:List WData):l.row.toRowW.claim.post args (.bool true) args=true:=
 postW_of (r:=l.row.toRowW) (X:=(true == true))
  (show WShape.has [] (.bool true) .bool=true by first | rfl | decide | simp[WShape.has,WShape.arms,WShape.armsAll])
  (show(WTm.eq .res (.lit (.bool true))).value [] { args:=args,res:=some (.bool true),after:=args }=some (.bool (true == true)) from w_eq_bool (w_res rfl) w_lit) rfl
theorem qf5{l:OpenLaw}{n:Nat}{q:zai}{loose:List Str}{XP:(Str->Option Value)->Heap->Prop}{YP:World->Heap->Prop}{d:DefRec}
  (hn:l.most=some n) (hdf:d.params.defaults=[])
  (call : ∀ (w : World) (s₀ s₁ : Shared) (mg mb : Str -> Option Value) (fa : Addr) (o : Obj) (pm cd doc : Value) (a : Addr) (vs : List Value) (ns : List Int),
   Ground q loose [] XP w s₀ mg mb s₁.heap->YP w s₁.heap->
   s₁.heap.get? fa=some o->o.data=.func (docDef d.name d.params d.body d.scope pm cd doc)->s₁.heap.CodeRec cd d.name->mg d.name=some (.ref fa)->
   s₁.heap.get? a=some { cls:=.type "list",data:=.seq vs.toArray }->zaV vs ns->ns.length<=n->s₁.gens=#[]->
   codeAny (model l.prog w) callerA (.call (.ref fa) ⟨[.ref a],[]⟩) (fun r s'=>r=.ok (.ret (.bool true))/\OldK s₁.heap s'.heap/\s'.os=s₁.os/\AllBare s'.gens) s₁) :
  WalkO q loose XP YP l.row.toRowW d [] (fun f vs=>PySem.call f vs):=by
 intro w s₀ s₁ mg mb G Y fa o pm cd doc dV kV ho hd hcd hD hmg hg args vals as hpre hlay hrd hwl hlo
 obtain rfl:dV=.none:=Dflts.none hD hdf
 obtain rfl:kV=.none:=Dflts.noKw hD
 obtain⟨a,vs,ns,rfl,rfl,hobj,hints,hlen⟩:=qiU hn hpre hwl
 refine enter_call (codeAny_mono (call w s₀ s₁ mg mb fa o pm cd doc a vs ns G Y ho (fd_plain hd) hcd hmg hobj hints hlen hg) fun r s' hq=>?_)
 obtain⟨rfl,h2,h3,h4⟩:=hq
 exact⟨.inl ⟨.bool true,.bool true,[],rfl,fun _=>rfl,.bool true,qjo l _,fun _=>⟨List.Pairwise.nil,fun _ hm=>(nomatch hm)⟩⟩,h2,h3,h4⟩
section
variable {prog:zai}{w:World}{A:Around}{E:Value->Shared->Prop}{s:Shared}{K:Frag}
noncomputable def qgF(h:Heap):Heap:={ h with objs:=#[] }
theorem qcz(h:Heap)(b:Addr):(qgF h).get? b=none:=by
 cases e:(qgF h).get? b with
 | none=>rfl
 | some o=>exact absurd (zag e) (Nat.not_lt_zero _)
noncomputable def ledger(h:Heap)(L d:Addr):List (Addr × Obj):=(zbc h.objs.size).filterMap fun a=>if a=L\/a=d then none else (h.get? a).map fun o=>(a,o)
theorem qaV{h:Heap}{L d a:Addr}{o:Obj}:(a,o)∈ledger h L d↔a≠L/\a≠d/\h.get? a=some o:=by
 unfold ledger
 rw[List.mem_filterMap]
 constructor
 ·rintro⟨b,_,e⟩
  split at e
  ·cases e
  ·rename_i hb
   obtain⟨o',ho,e'⟩:=Option.map_eq_some_iff.mp e
   cases e'
   exact⟨fun q=>hb (.inl q),fun q=>hb (.inr q),ho⟩
 ·rintro⟨n1,n2,ho⟩
  refine⟨a,List.mem_range.mpr (zag ho),?_⟩
  rw[if_neg (show ¬ (a=L\/a=d) from fun q=>q.elim n1 n2),ho] <;> rfl
theorem qn8{h:Heap}{L:Addr}{m:Str->Option Value}(n:h.Ns L m):Fr (qgF h) L h m:=
 ⟨n,fun b o e=>(by rw[qcz] at e; cases e),zau _⟩
end
end Att
namespace L2
open PySem PySem.Spec PyProof.Rows
theorem qfh:∀ {vs:List Value} {ns:List Int},zaV vs ns->Vals (ns.map V.int) vs
 | _,_,.nil=>.nil
 | _,_,.cons n t h=>.cons ⟨t,rfl⟩ (qfh h)
noncomputable def Only(H:Hp):Prop:=∀ b,H b=none\/∃ o xs,H b=some (.frz o (.lst xs))
theorem qkh{P:zai}{w:World}{K:zad}{mg mb:Str->Option Value}{CX:CXT}{k:Nat}{fa a:Addr}{fd:FuncData}{x:Str}{sp:Sp}{s₁:Shared}{vs:List Value}{ns:List Int}
  (KX:K.In s₁.heap) (hns:s₁.heap.Ns zas mg) (hb:s₁.heap.Ns builtinsNs mb) (hbb:∀ x:Str,x ≠ "__name__" -> mb x=zaJ x) (hlim:s₁.heap.NoLimit) (hg:s₁.gens=#[])
  (ha:s₁.heap.get? a=some { cls:=.type "list",data:=.seq vs.toArray }) (hi:zaV vs ns) (hl:ns.length<=zal) (hr:Room k callerA)
  (F:∀ base:Heap,K.In base->base.Ns zas mg->FnOk P w K mg base CX k fa fd [x] sp) (hbind:∀ (s:Shared) (u:Value),BindsTo s fd ⟨[u],[]⟩ [(x,u)])
  (hsp:∀ H:Hp,Only H->SqL K H a (ns.map V.int)->sp [.ref a] H (fun v _=>v=.bl true) fun _ _ _=>False)
  (hCX:∀ H e s',CX [] H s₁ (fun _ _ _=>False) e s'->False) :
  codeAny (model P w) callerA (.call (.ref fa) ⟨[.ref a],[]⟩) (fun r s'=>r=.ok (.ret (.bool true))/\OldK s₁.heap s'.heap/\s'.os=s₁.os/\AllBare s'.gens) s₁:=by
 have rv:=qfh hi
 have lenV:=hi.length
 -- from an abstract heap in which nothing but the script may be tracked
 have core:∀ H:Hp,Only H->SqL K H a (ns.map V.int)->HOk P w H s₁.heap->(∀ b,H b≠none->b=a)->(H a≠none->K.lookup a=none)->
   codeAny (model P w) callerA (.call (.ref fa) ⟨[.ref a],[]⟩) (fun r s'=>r=.ok (.ret (.bool true))/\OldK s₁.heap s'.heap/\s'.os=s₁.os/\AllBare s'.gens) s₁:=by
  intro H hO hS hok hA hK
  have base_of:∀ {b:Addr} {o:Obj},s₁.heap.get? b=some o->H b=none->(hidT s₁.heap H).get? b=some o:=fun e n=>qkG e n
  have noA:∀ {b:Addr} {o:Obj} {es:Array zbo} {ep:Nat},s₁.heap.get? b=some o->o.data=.dict es ep->H b=none:=fun {b o es ep} e d=>by
   cases q:H b with
   | none=>rfl
   | some u=>
    have e':b=a:=hA b (by rw[q]; simp)
    subst e'
    rw[ha] at e; cases e
    have d':Data.seq vs.toArray _=Data.dict es ep:=d
    cases d'
  have nsK:∀ {b:Addr} {m:Str->Option Value},s₁.heap.Ns b m->(hidT s₁.heap H).Ns b m:=fun {b m} ⟨o,es,ep,e,d,r⟩=>⟨o,es,ep,base_of e (noA e d),d,r⟩
  have hKb:K.In (hidT s₁.heap H):=fun b o e=>base_of (KX b o e) (by
   cases q:H b with
   | none=>rfl
   | some u=>
    have e':b=a:=hA b (by rw[q]; simp)
    subst e'
    rw[hK (by rw[q]; simp)] at e; cases e)
  have hM:Mod K mg (hidT s₁.heap H):=⟨hKb,nsK hns,⟨mb,nsK hb,hbb⟩,let ⟨mc,h1,h2⟩:=hlim; ⟨mc,nsK h1,h2⟩⟩
  have e0:Env0 P w K mg (hidT s₁.heap H) callerA [] s₁ H:=⟨rfl,hM,fun b o e=>qlw e,Nat.le_of_eq (qjs _ _),trivial,fun b hb=>absurd (show b∈([]:List Addr) from hb) (by simp),hok,.of_eq hg⟩
  refine codeAny_mono ((F _ hKb (nsK hns)).run callerA [] s₁ H ⟨[.ref a],[]⟩ [.ref a] [.ref a] _ _ hr e0 (hbind s₁ (.ref a)) (.cons rfl .nil) (hsp H hO hS)) fun r s' h=>?_
  cases r with
  | error e=>exact(hCX H e s' h).elim
  | ok fl=>
   cases fl with
   | next=>exact zbs h
   | brk=>exact zbs h
   | cont=>exact zbs h
   | ret u=>
    obtain⟨v,H',os,bare,un,hok',r',q⟩:=h
    have q':v=.bl true:=q
    subst q'
    obtain rfl:u=Value.bool true:=r'
    refine⟨rfl,OldK.of_keep fun b o e=>?_,os,bare⟩
    cases q:H b with
    | none=>exact un.keep b o e q (by intro z; exact absurd (show b∈([]:List Addr) from z) (by simp)) (by simp)
    | some u=>
     rcases hO b with z | ⟨ob,xs,z⟩
     ·rw[q] at z; cases z
     ·have z2:=un.frzs b ob _ z
      obtain⟨e1,_⟩:=hok b _ z
      obtain⟨e2,_⟩:=hok' b _ z2
      rw[e] at e1; cases e1
      exact e2
 cases hk:K.lookup a with
 | some o=>
  -- the script is one of the module's own objects
  have e:=KX a o hk
  rw[ha] at e
  cases e
  refine core (fun _=>none) (fun _=>.inl rfl) (.inr ⟨_,vs.toArray,_,hk,rfl,rfl,rfl,by rw[zat,lenV]; exact hl,by simpa using rv⟩) (fun b u z=>by have z':(none:Option HO)=some u:=z; cases z') (fun b z=>absurd rfl z) fun z=>absurd rfl z
 | none=>
  refine core (fun b=>if b=a then some (.frz { cls:=.type "list",data:=.seq vs.toArray } (.lst (ns.map V.int))) else none) (fun b=>?_) (.inl (.inr ⟨{ cls:=.type "list",data:=.seq vs.toArray },if_pos rfl⟩)) (fun b u z=>?_) (fun b z=>?_) fun _=>hk
  ·by_cases hb:b=a
   ·exact .inr ⟨_,_,if_pos hb⟩
   ·exact .inl (if_neg hb)
  ·by_cases hb:b=a
   ·have z':=(if_pos hb).symm.trans z
    cases z'
    subst hb
    exact⟨ha,by rw[zaq]; exact hl,vs,_,rv,ha⟩
   ·have z':=(if_neg hb).symm.trans z
    cases z'
  ·by_cases hb:b=a
   ·exact hb
   ·exact absurd (if_neg hb) z
theorem qlS{l:PySem.W.OpenLaw}{n k:Nat}{q:zai}{loose:List Str}{XP:(Str->Option Value)->Heap->Prop}{YP:World->Heap->Prop}{d:DefRec}{K:Params->zad}{CX:World->CXT}{sp:World->Sp}{x:Str}
  (hn:l.most=some n) (hn2:n<=zal) (hdf:d.params.defaults=[]) (hr:Room k callerA)
  (hY:∀ (w:World) (h:Heap),YP w h->(K w.params).In h)
  (F : ∀ (w : World) (mg : Str -> Option Value) (fa : Addr) (h : Heap), (K w.params).In h -> h.Ns zas mg -> mg d.name = some (.ref fa) ->
   ∃ fd:FuncData,(∀ (s:Shared) (u:Value),BindsTo s fd ⟨[u],[]⟩ [(x,u)]) /\
    ∀ base:Heap,(K w.params).In base->base.Ns zas mg->FnOk l.prog w (K w.params) mg base (CX w) k fa fd [x] (sp w))
  (hsp:∀ (w:World) (H:Hp) (a:Addr) (ns:List Int),ns.length<=n->Only H->SqL (K w.params) H a (ns.map V.int)->sp w [.ref a] H (fun v _=>v=.bl true) fun _ _ _=>False)
  (hCX:∀ (w:World) (H:Hp) (s:Shared) (e:Value) (s':Shared),CX w [] H s (fun _ _ _=>False) e s'->False) :
  PySem.W.WalkO q loose XP YP l.row.toRowW d [] (fun f vs=>PySem.call f vs):=by
 refine Att.qf5 hn hdf fun w s₀ s₁ mg mb fa o pm cd doc a vs ns G Y ho hd hcd hmg hobj hints hlen hg=>?_
 have KX:=hY w _ Y
 obtain⟨fd,hb,hF⟩:=F w mg fa _ KX G.T.g hmg
 exact qkh KX G.T.g G.T.b G.T.builtins G.T.nolimit hg hobj hints (za6 hlen hn2) hr hF hb (fun H hO hS=>hsp w H a ns hlen hO hS) fun H e s'=>hCX w H s₁ e s'
noncomputable def qN(s:Stmt):Arguments:=match s with
 | .FunctionDef _ a _ _ _ _ _ _ _ _=>a
 | _=>{ posonlyargs:=[],args:=[],vararg:=none,kwonlyargs:=[],kw_defaults:=[],kwarg:=none,defaults:=[] }
noncomputable def qH(s:Stmt):List Stmt:=match s with
 | .FunctionDef _ _ b _ _ _ _ _ _ _=>b
 | _=>[]
noncomputable def qi(s:Stmt):Scope:=match s with
 | .FunctionDef _ _ _ _ _ _ sc _ _ _=>sc
 | _=>{ kind:=.function,names:=[],isGenerator:=false,isCoroutine:=false }
noncomputable abbrev CX0:CXT:=fun _ _ _ _ _ _=>False
noncomputable abbrev E0:XK:=fun _ _ _=>False
theorem qo9{X:Cx}:qiS CX0 X E0:=fun _ _ _ _ _ _ _ h=>h.elim
structure Fun(K:zad)(x qual:Str)(st:Stmt)(f:Addr)(fd:FuncData):Prop where
 ex:∃ (oc:Value) (od:Option Addr) (kV doc pm:Value) (an:Option Addr) (cdv ct:Value) (osl:Array (Option Value)),
  fd=zaG x qual (qN st) (qH st) (qi st) .none kV doc pm an cdv ct/\K.lookup f=some ⟨oc,od,.func fd,osl⟩/\zaM K cdv qual=true
 kp:zaH K (.ref f)=true
section
variable {P:zai}{w:World}{K:zad}{mg:Str->Option Value}{base:Heap}
theorem Fun.ok{x qual:Str}{st:Stmt}{f:Addr}{fd:FuncData}{N ps:List Str}{k:Nat}{sp:Sp}(F:Fun K x qual st f fd)(S:FnScope N ps (qi st))(len:∀ vs H Q E,sp vs H Q E->vs.length=ps.length)
  (hbody : ∀ (cdv : Value) (A : Around) (outer : List Env) (s : Shared) (H : Hp) (vs : List V) (Q : VK) (E : XK), Room k (A.deeper (envOfC qual (qi st) s.heap.objs.size f cdv)) -> sp vs H Q E ->
   ∃ t,PSs (cxOf CX0 P w K mg base N qual (qi st) f cdv A outer s H E).nox (qH st) t/\t { nx:=fun _ H'=>Q .non H',rt:=Q } (start N vs) H):FnOk P w K mg base CX0 (k + 1) f fd ps sp:=by
 obtain⟨oc,od,kV,doc,pm,an,cdv,ct,osl,rfl,lk,hcd⟩:=F.ex
 refine qoM lk hcd S len fun A outer s H vs Q E hr hsp=>?_
 obtain⟨t,h,q⟩:=hbody cdv A outer s H vs Q E hr hsp
 exact⟨t,h.nox,q⟩
theorem Fun.binds{x qual:Str}{st:Stmt}{f:Addr}{fd:FuncData}{ps:List Str}(F:Fun K x qual st f fd)
  (h:∀ (kV doc pm:Value) (an:Option Addr) (cdv ct:Value) (us:List Value),us.length=ps.length->bindArgs (zaG x qual (qN st) (qH st) (qi st) .none kV doc pm an cdv ct) ⟨us,[]⟩=pure (ps.zip us)):Binds K fd ps []:=by
 obtain⟨oc,od,kV,doc,pm,an,cdv,ct,osl,rfl,lk,hcd⟩:=F.ex
 exact .all (h kV doc pm an cdv ct)
theorem qaq{x qual:Str}{st:Stmt}{f:Addr}{oc:Value}{od an:Option Addr}{osl:Array (Option Value)}{kV doc pm cdv ct:Value}(l:K.lookup f=some ⟨oc,od,.func (zaG x qual (qN st) (qH st) (qi st) .none kV doc pm an cdv ct),osl⟩)
  (c:zaM K cdv qual=true) (k:zaH K (.ref f)=true):Fun K x qual st f (zaG x qual (qN st) (qH st) (qi st) .none kV doc pm an cdv ct):=⟨⟨oc,od,kV,doc,pm,an,cdv,ct,osl,rfl,l,c⟩,k⟩
end
theorem qa1{A:Around}{k:Nat}(hr:Room k A):A.units + 1 < cLine:=zbL (Nat.add_le_add_left (by decide:1<=64) _) hr.units
section
variable {X:Cx}
theorem pv(i:Nat){x:Str}{pos:Pos}(hN:X.N[i]?=some x:=by rfl)(hv:Vis X.env.scope x:=by first | exact Or.inl rfl | exact Or.inr (Or.inl rfl) | exact Or.inr (Or.inr rfl))(hd:(x == ("__debug__" : Str))=false:=by decide)
  (hcd:(x == ("__classdict__" : Str))=false:=by decide):PE X (.Name x pos) (tVar i):=qoj hN hv hd hcd
end
theorem iteF{A B:Prop}(h:B):if false=true then A else B:=by
 rw[if_neg zax]
 exact h
theorem iteT{A B:Prop}(h:A):if true=true then A else B:=by
 rw[if_pos rfl]
 exact h
noncomputable def Same(H H':Hp):Prop:=∀ b o,H b=some o->H' b=some o
theorem Same.refl(H:Hp):Same H H:=fun _ _ h=>h
theorem Same.trans{H H1 H2:Hp}(a:Same H H1)(b:Same H1 H2):Same H H2:=fun c o h=>b c o (a c o h)
theorem Same.free{H H':Hp}(e:Same H H'){l:Addr}(h:H' l=Option.none):H l=Option.none:=by
 cases q:H l with
 | none=>rfl
 | some o=>
  rw[e l o q] at h
  cases h
theorem Same.seq{K:zad}{H H':Hp}{a:Addr}{xs:List V}(e:Same H H')(h:SqL K H a xs):SqL K H' a xs:=by
 rcases h with (h | ⟨o,h⟩) | h
 ·exact .inl (.inl (e _ _ h))
 ·exact .inl (.inr ⟨o,e _ _ h⟩)
 ·exact .inr h
section
variable {X:Cx}
end
section
variable {κ:Type}[DecidableEq κ]
theorem qiq:∀ {l:List κ} {k:κ},l.Nodup->¬ k∈l->(l ++ [k]).Nodup
 | [],k,_,_=>by simp
 | a :: r,k,h,hk=>by
  obtain⟨h1,h2⟩:=List.nodup_cons.mp h
  show(a :: (r ++ [k])).Nodup
  refine List.nodup_cons.mpr ⟨fun m=>?_,qiq h2 fun m=>hk (List.mem_cons.mpr (Or.inr m))⟩
  rcases List.mem_append.mp m with q | q
  ·exact h1 q
  ·exact hk (List.mem_cons.mpr (Or.inl (List.mem_singleton.mp q).symm))
end
end L2
set_option maxHeartbeats 4000000
namespace My
open PySem PySem.Spec PyProof.Rows L2
noncomputable def CBig(i j:Int):Prop:=(-(10 ^ 250) < i/\i < 10 ^ 250)/\-(10 ^ 250) < j/\j < 10 ^ 250
theorem qgP{i:Int}(h1:-(10 ^ 250) < i)(h2:i < 10 ^ 250):Builtin.Int.intBits i<=2 ^ 20:=by
 have h:i.natAbs < 10 ^ 250:=by omega
 have e:(10:Nat) ^ 250<=2 ^ (4 * 250):=by
  rw[Nat.pow_mul]
  exact Nat.pow_le_pow_left (by decide) 250
 exact za6 (PyProof.Rows.intBits_le (zaP h e)) (by decide)
section
variable {X:Cx}
theorem qlZ:OpR X (zaQ .Mult) (rI CBig fun i j=>.int (i * j)):=opI fun _ _ _ _ _ _ _ hc q=>mul_int q (IntMulOk.of_bits (qgP hc.1.1 hc.1.2) (qgP hc.2.1 hc.2.2))
noncomputable def rIsi(K:zad):List V->Hp->VK->Prop:=fun xs H Q=>∃ x n t b,xs=[x,.ty n]/\TyOf K H x t/\PySem.W.kitOne K t (.type n)=some b/\Q (.bl b) H
theorem qkp:CallR X (.builtin "isinstance") (rIsi X.K):=by
 intro pins s σ H xs us Q I r h
 obtain⟨x,n,t,b,rfl,ty,e,q⟩:=h
 obtain⟨u,u',rfl,r1,r2⟩:=vals2 r
 cases r2
 exact qib I r1 ty e fun tk=>⟨.bl b,H,I.tok tk,rfl,q⟩
end
structure Ok(P:zai)(w:World)(K:zad)(mg:Str->Option Value)(base:Heap)(x:Str)(k:Nat)(ps:List Str)(sp:Sp):Prop where
 ex:∃ f fd,zaH K (.ref f)=true/\Binds K fd ps []/\mg x=some (.ref f)/\FnOk P w K mg base CX0 k f fd ps sp
structure DefAt(K:zad)(mg:Str->Option Value)(x:Str)(st:Stmt)(ps:List Str):Prop where
 ex:∃ f fd,Fun K x x st f fd/\Binds K fd ps []/\mg x=some (.ref f)
noncomputable def qnW(sp:Sp)(t:TA):TE:=fun σ H Q=>t σ H fun vs H1=>sp vs H1 Q E0
section
variable {X:Cx}{x:Str}{k:Nat}{ps:List Str}{sp:Sp}{e:Expr}{es:List Expr}{t:TA}{p pos:Pos}
theorem qku(O:Ok X.prog X.w X.K X.mg X.base x k ps sp)(hr:Room k X.A)(hg:Gl X x)(ha:PA X (e :: es) t)(hdb:(x == ("__debug__" : Str))=false:=by decide)
  (he:zap (e :: es) X.env=(false,eval e X.env) :: zap es X.env:=by rfl) (hpl:(backTo pos (zap es X.env)).any (·.1)=false:=by rfl) :
  PE X (.Call (.Name x p) (e :: es) [] pos) (qnW sp t):=by
 obtain⟨f,fd,hk,hb,hm,F⟩:=O.ex
 have h:=ql4 (p:=p) (pos:=pos) F hr hg hm hk hb .nil qo9 ha hdb he hpl
 intro pins s σ H Q I hw
 refine h pins s σ H Q I ?_
 have e:(fun (vs:List V) (H1:Hp)=>sp (vs ++ []) H1 Q E0)=fun vs H1=>sp vs H1 Q E0:=by
  funext vs H1
  rw[List.append_nil]
 show t σ H fun vs H1=>sp (vs ++ []) H1 Q E0
 rw[e]
 exact hw
end
section
variable {P:zai}{w:World}{K:zad}{mg:Str->Option Value}{base:Heap}
noncomputable def BodyOk(P:zai)(w:World)(K:zad)(mg:Str->Option Value)(base:Heap)(x:Str)(st:Stmt)(N:List Str)(k:Nat)(sp:Sp):Prop:=
 ∀ (f:Addr) (cdv:Value) (A:Around) (outer:List Env) (s:Shared) (H:Hp) (vs:List V) (Q:VK) (E:XK),Room k (A.deeper (envOfC x (qi st) s.heap.objs.size f cdv))->sp vs H Q E->
   ∃ t,PSs (cxOf CX0 P w K mg base N x (qi st) f cdv A outer s H E).nox (qH st) t/\t { nx:=fun _ H'=>Q .non H',rt:=Q } (start N vs) H
theorem BodyOk.fn{x:Str}{st:Stmt}{N ps:List Str}{k:Nat}{sp:Sp}{f:Addr}{fd:FuncData}(hbody:BodyOk P w K mg base x st N k sp)(F:Fun K x x st f fd)(S:FnScope N ps (qi st))(len:∀ vs H Q E,sp vs H Q E->vs.length=ps.length) :
  FnOk P w K mg base CX0 (k + 1) f fd ps sp:=F.ok S len fun cdv A outer s H vs Q E hr h=>hbody f cdv A outer s H vs Q E hr h
theorem BodyOk.ok{x:Str}{st:Stmt}{N ps:List Str}{k:Nat}{sp:Sp}(hbody:BodyOk P w K mg base x st N k sp)(D:DefAt K mg x st ps)(S:FnScope N ps (qi st))(len:∀ vs H Q E,sp vs H Q E->vs.length=ps.length) :
  Ok P w K mg base x (k + 1) ps sp:=by
 obtain⟨f,fd,F,B,hm⟩:=D.ex
 exact⟨f,fd,F.kp,B,hm,hbody.fn F S len⟩
theorem Ok.mono{x:Str}{j k:Nat}{ps:List Str}{sp:Sp}(O:Ok P w K mg base x j ps sp)(h:j<=k):Ok P w K mg base x k ps sp:=by
 obtain⟨f,fd,hk,hb,hm,F⟩:=O.ex
 exact⟨f,fd,hk,hb,hm,F.mono h⟩
end
noncomputable def qiO(K:zad):Sp:=fun vs H Q _=>∃ (a:Addr) (ns:List Int),vs=[.ref a]/\SqL K H a (ns.map V.int)/\ns.length<=63/\∀ H',Q (.bl true) H'
theorem walk{l:PySem.W.OpenLaw}{q:zai}{loose:List Str}{XP:(Str->Option Value)->Heap->Prop}{YP:World->Heap->Prop}{d:DefRec}{K:Params->zad}{k:Nat}(hk:k<=100)(hn:l.most=some 63)(hdf:d.params.defaults=[])
  (hY:∀ (w:World) (h:Heap),YP w h->(K w.params).In h)
  (F : ∀ (w : World) (mg : Str -> Option Value) (fa : Addr) (h : Heap), (K w.params).In h -> h.Ns zas mg -> mg d.name = some (.ref fa) ->
   ∃ fd:FuncData,(∀ (s:Shared) (u:Value),BindsTo s fd ⟨[u],[]⟩ [("script",u)])/\∀ base:Heap,(K w.params).In base->base.Ns zas mg->FnOk l.prog w (K w.params) mg base CX0 k fa fd ["script"] (qiO (K w.params))) :
  PySem.W.WalkO q loose XP YP l.row.toRowW d [] (fun f vs=>PySem.call f vs):=
 L2.qlS (n:=63) (k:=k) (x := "script") (CX:=fun _=>CX0) (sp:=fun w=>qiO (K w.params)) hn (by decide) hdf (Room.mono (k:=100) ⟨rfl,by decide,by decide⟩ hk) hY F (fun _ _ a ns hl _ hS=>⟨a,ns,rfl,hS,hl,fun _=>rfl⟩) fun _ _ _ _ _ z=>z
theorem qg1{H:Hp}{p:Addr}{o:HO}(h:H p=none):Same H (upd H p o):=fun b u e=>by
 rw[qt (qQ e h)]
 exact e
theorem Same.tupR{K:zad}{H H':Hp}{a:Addr}{xs:List V}(e:Same H H')(h:SqT K H a xs):SqT K H' a xs:=by
 rcases h with (h | ⟨o,h⟩) | h
 ·exact .inl (.inl (e _ _ h))
 ·exact .inl (.inr ⟨o,e _ _ h⟩)
 ·exact .inr h
noncomputable def num(c:Int):Int:=if c % 3=0 then c / 3 % 21 - 10 else c / 3 % (2 * 10 ^ 60 - 1) - (10 ^ 60 - 1)
theorem qnm(c:Int):-(10 ^ 60) < num c:=by
 unfold num
 have h1:=zbb (c / 3) (show(21:Int)≠0 by decide)
 have h2:=zbb (c / 3) (show(2 * 10 ^ 60 - 1:Int)≠0 by decide +kernel)
 split <;> omega
theorem qm1(c:Int):num c < 10 ^ 60:=by
 unfold num
 have h1:=zbg (c / 3) (show(0:Int) < 21 by decide)
 have h2:=zbg (c / 3) (show(0:Int) < 2 * 10 ^ 60 - 1 by decide +kernel)
 split <;> omega
noncomputable def whl(c:Int):Int:=if c % 4=0 then 3 + 2 * (c / 4 % 4) else 3 + 2 * (c / 4 % (5 * 10 ^ 59 - 1))
theorem qnr(c:Int):3<=whl c:=by
 unfold whl
 have h1:=zbb (c / 4) (show(4:Int)≠0 by decide)
 have h2:=zbb (c / 4) (show(5 * 10 ^ 59 - 1:Int)≠0 by decide +kernel)
 split <;> omega
theorem qok(c:Int):whl c < 10 ^ 60:=by
 unfold whl
 have h1:=zbg (c / 4) (show(0:Int) < 4 by decide)
 have h2:=zbg (c / 4) (show(0:Int) < 5 * 10 ^ 59 - 1 by decide +kernel)
 split <;> omega
theorem qkb{ns:List Int}{k:Int}(h0:0<=k)(h:¬ k < (ns.length:Int)):ns.getD k.toNat 0=0:=by
 have:ns.length<=k.toNat:=by omega
 simp[List.getD,List.getElem?_eq_none this]
theorem boot_len:zaJ "len" = some (.builtin "len"):=by decide +kernel
theorem boot_max:zaJ "max" = some (.builtin "max"):=by decide +kernel
theorem boot_isinstance:zaJ "isinstance" = some (.builtin "isinstance"):=by decide +kernel
theorem boot_sorted:zaJ "sorted" = some (.builtin "sorted"):=by decide +kernel
theorem boot_int:zaJ "int" = some (.type "int"):=by decide +kernel
theorem boot_bool:zaJ "bool" = some (.type "bool"):=by decide +kernel
theorem boot_tuple:zaJ "tuple" = some (.type "tuple"):=by decide +kernel
theorem boot_list:zaJ "list" = some (.type "list"):=by decide +kernel
theorem boot_dict:zaJ "dict" = some (.type "dict"):=by decide +kernel
theorem boot_range:zaJ "range" = some (.type "range"):=by decide +kernel
theorem boot_zip:zaJ "zip" = some (.type "zip"):=by decide +kernel
end My
namespace My
open PySem PySem.Spec PyProof.Rows L2 PySem.SeqAt
inductive Dx where
 | non | bl (b:Bool) | int (i:Int) | str (x:Str) | tup (l:List Dx) | lst (l:List Dx)
mutual
noncomputable def Rep(K:zad)(H:Hp):Dx->V->Prop
 | .non,v=>v=.non
 | .bl b,v=>v=.bl b
 | .int i,v=>v=.int i
 | .str x,v=>v=.str x
 | .tup l,v=>∃ a xs,v=.ref a/\SqT K H a xs/\RepL K H l xs
 | .lst l,v=>∃ a xs,v=.ref a/\SqL K H a xs/\RepL K H l xs
noncomputable def RepL(K:zad)(H:Hp):List Dx->List V->Prop
 | [],vs=>vs=[]
 | d :: ds,vs=>∃ x xs,vs=x :: xs/\Rep K H d x/\RepL K H ds xs
end
section
variable {K:zad}{H H':Hp}
mutual
theorem Rep.same(e:Same H H'):∀ (d:Dx) (v:V),Rep K H d v->Rep K H' d v
 | .non,v,h=>by rw[Rep] at h ⊢; exact h
 | .bl b,v,h=>by rw[Rep] at h ⊢; exact h
 | .int i,v,h=>by rw[Rep] at h ⊢; exact h
 | .str x,v,h=>by rw[Rep] at h ⊢; exact h
 | .tup l,v,h=>by
  rw[Rep] at h ⊢
  obtain⟨a,xs,e1,h1,h2⟩:=h
  exact⟨a,xs,e1,Same.tupR e h1,RepL.same e l xs h2⟩
 | .lst l,v,h=>by
  rw[Rep] at h ⊢
  obtain⟨a,xs,e1,h1,h2⟩:=h
  exact⟨a,xs,e1,e.seq h1,RepL.same e l xs h2⟩
theorem RepL.same(e:Same H H'):∀ (ds:List Dx) (vs:List V),RepL K H ds vs->RepL K H' ds vs
 | [],vs,h=>by rw[RepL] at h ⊢; exact h
 | d :: ds,vs,h=>by
  rw[RepL] at h ⊢
  obtain⟨x,xs,e1,h1,h2⟩:=h
  exact⟨x,xs,e1,Rep.same e d x h1,RepL.same e ds xs h2⟩
end
theorem RepL.nil:RepL K H [] []:=by rw[RepL]
theorem RepL.cons{d:Dx}{ds:List Dx}{v:V}{vs:List V}(h1:Rep K H d v)(h2:RepL K H ds vs):RepL K H (d :: ds) (v :: vs):=by
 rw[RepL]
 exact⟨v,vs,rfl,h1,h2⟩
theorem RepL.length:∀ {ds:List Dx} {vs:List V},RepL K H ds vs->vs.length=ds.length
 | [],vs,h=>by rw[RepL] at h; rw[h]; rfl
 | d :: ds,vs,h=>by
  rw[RepL] at h
  obtain⟨x,xs,rfl,_,h2⟩:=h
  rw[zaW,zaW,RepL.length h2]
theorem RepL.get:∀ {ds:List Dx} {vs:List V} {i:Nat} {v:V},RepL K H ds vs->vs[i]?=some v->∃ d,ds[i]?=some d/\Rep K H d v
 | [],vs,i,v,h,e=>by rw[RepL] at h; rw[h] at e; simp at e
 | d :: ds,vs,i,v,h,e=>by
  rw[RepL] at h
  obtain⟨x,xs,rfl,h1,h2⟩:=h
  cases i with
  | zero=>simp at e; subst e; exact⟨d,rfl,h1⟩
  | succ i=>exact RepL.get (i:=i) (vs:=xs) h2 (by simpa using e)
theorem RepL.get':∀ {ds:List Dx} {vs:List V} {i:Nat} {d:Dx},RepL K H ds vs->ds[i]?=some d->∃ v,vs[i]?=some v/\Rep K H d v
 | [],vs,i,d,h,e=>by simp at e
 | d' :: ds,vs,i,d,h,e=>by
  rw[RepL] at h
  obtain⟨x,xs,rfl,h1,h2⟩:=h
  cases i with
  | zero=>simp at e; subst e; exact⟨x,rfl,h1⟩
  | succ i=>exact RepL.get' (i:=i) (ds:=ds) h2 (by simpa using e)
theorem RepL.append:∀ {ds es:List Dx} {vs us:List V},RepL K H ds vs->RepL K H es us->RepL K H (ds ++ es) (vs ++ us)
 | [],es,vs,us,h,h'=>by rw[RepL] at h; rw[h]; exact h'
 | d :: ds,es,vs,us,h,h'=>by
  rw[RepL] at h
  obtain⟨x,xs,rfl,h1,h2⟩:=h
  exact RepL.cons h1 (RepL.append h2 h')
mutual
noncomputable def Dx.dep:Dx->Nat
 | .tup l=>depL l + 1
 | .lst l=>depL l + 1
 | .non=>0
 | .bl _=>0
 | .int _=>0
 | .str _=>0
noncomputable def depL:List Dx->Nat
 | []=>0
 | d :: ds=>max d.dep (depL ds)
end
mutual
noncomputable def Dx.nb:Dx->Bool
 | .bl _=>false
 | .tup l=>nbL l
 | .lst l=>nbL l
 | .non=>true
 | .int _=>true
 | .str _=>true
noncomputable def nbL:List Dx->Bool
 | []=>true
 | d :: ds=>d.nb && nbL ds
end
theorem qi0:∀ {ds:List Dx} {i:Nat} {d:Dx},ds[i]?=some d->d.dep<=depL ds
 | [],i,d,e=>by simp at e
 | d' :: ds,0,d,e=>by simp at e; subst e; rw[depL]; omega
 | d' :: ds,i + 1,d,e=>by
  have:=qi0 (ds:=ds) (i:=i) (by simpa using e)
  rw[depL]; omega
theorem qiF:∀ {ds:List Dx} {i:Nat} {d:Dx},nbL ds=true->ds[i]?=some d->d.nb=true
 | [],i,d,_,e=>by simp at e
 | d' :: ds,0,d,h,e=>by simp at e; subst e; rw[nbL,zaY] at h; exact h.1
 | d' :: ds,i + 1,d,h,e=>by
  rw[nbL,zaY] at h
  exact qiF h.2 (by simpa using e)
end
section
variable {X:Cx}{pins:List (Addr × Obj)}{σ:L2.St}{H:Hp}{s:Shared}
theorem qiI(I:Inv X pins σ H s){a:Addr}{xs ys:List V}(h1:SqL X.K H a xs)(h2:SqT X.K H a ys):False:=by
 obtain⟨its,_,⟨o,n,e,c,_⟩,_⟩:=I.list h1
 obtain⟨its',_,⟨o',e',c',_⟩,_⟩:=I.tuple h2
 rw[e] at e'
 cases e'
 rw[c] at c'
 exact absurd c' (by decide)
mutual
theorem Rep.inj(I:Inv X pins σ H s):∀ (d e:Dx) (v:V),Rep X.K H d v->Rep X.K H e v->d=e
 | .non,e,v,h,h'=>by
  rw[Rep] at h; subst h
  cases e <;> (rw[Rep] at h') <;> first | rfl | (cases h'; done) | (obtain⟨_,_,z,_⟩:=h'; cases z)
 | .bl b,e,v,h,h'=>by
  rw[Rep] at h; subst h
  cases e <;> (rw[Rep] at h') <;> first | (cases h'; rfl) | (cases h'; done) | (obtain⟨_,_,z,_⟩:=h'; cases z)
 | .int i,e,v,h,h'=>by
  rw[Rep] at h; subst h
  cases e <;> (rw[Rep] at h') <;> first | (cases h'; rfl) | (cases h'; done) | (obtain⟨_,_,z,_⟩:=h'; cases z)
 | .str x,e,v,h,h'=>by
  rw[Rep] at h; subst h
  cases e <;> (rw[Rep] at h') <;> first | (cases h'; rfl) | (cases h'; done) | (obtain⟨_,_,z,_⟩:=h'; cases z)
 | .tup l,e,v,h,h'=>by
  rw[Rep] at h
  obtain⟨a,xs,rfl,h1,h2⟩:=h
  cases e with
  | tup m=>
   rw[Rep] at h'
   obtain⟨b,ys,e1,h3,h4⟩:=h'
   cases e1
   have e2:=I.tuple_inj h1 h3
   subst e2
   rw[RepL.inj I l m xs h2 h4]
  | lst m=>
   rw[Rep] at h'
   obtain⟨b,ys,e1,h3,h4⟩:=h'
   cases e1
   exact(qiI I h3 h1).elim
  | non=>rw[Rep] at h'; cases h'
  | bl b=>rw[Rep] at h'; cases h'
  | int i=>rw[Rep] at h'; cases h'
  | str x=>rw[Rep] at h'; cases h'
 | .lst l,e,v,h,h'=>by
  rw[Rep] at h
  obtain⟨a,xs,rfl,h1,h2⟩:=h
  cases e with
  | lst m=>
   rw[Rep] at h'
   obtain⟨b,ys,e1,h3,h4⟩:=h'
   cases e1
   have e2:=I.list_inj h1 h3
   subst e2
   rw[RepL.inj I l m xs h2 h4]
  | tup m=>
   rw[Rep] at h'
   obtain⟨b,ys,e1,h3,h4⟩:=h'
   cases e1
   exact(qiI I h1 h3).elim
  | non=>rw[Rep] at h'; cases h'
  | bl b=>rw[Rep] at h'; cases h'
  | int i=>rw[Rep] at h'; cases h'
  | str x=>rw[Rep] at h'; cases h'
theorem RepL.inj(I:Inv X pins σ H s):∀ (ds es:List Dx) (vs:List V),RepL X.K H ds vs->RepL X.K H es vs->ds=es
 | [],es,vs,h,h'=>by
  rw[RepL] at h; subst h
  cases es with
  | nil=>rfl
  | cons e es=>rw[RepL] at h'; obtain⟨_,_,z,_⟩:=h'; cases z
 | d :: ds,es,vs,h,h'=>by
  rw[RepL] at h
  obtain⟨x,xs,rfl,h1,h2⟩:=h
  cases es with
  | nil=>rw[RepL] at h'; cases h'
  | cons e es=>
   rw[RepL] at h'
   obtain⟨_,_,z,h3,h4⟩:=h'
   cases z
   rw[Rep.inj I d e x h1 h3,RepL.inj I ds es xs h2 h4]
end
end
open Classical in
theorem qgc:∀ (ds es:List Dx),((zbc (min ds.length es.length)).all (fun j=>decide (ds.getD j .non=es.getD j .non)) && ds.length == es.length)=decide (ds=es):=by
 intro ds es
 by_cases h:ds=es
 ·subst h
  simp
 ·rw[decide_eq_false h]
  by_cases hl:ds.length=es.length
  ·simp only[hl,Nat.min_self,beq_self_eq_true,Bool.and_true]
   rw[Bool.eq_false_iff]
   intro ha
   rw[List.all_eq_true] at ha
   refine h (List.ext_getElem hl fun i h1 h2=>?_)
   have:=of_decide_eq_true (ha i (List.mem_range.mpr h2))
   simpa[List.getD,h1,h2] using this
  ·have:(ds.length == es.length)=false:=by simpa using hl
   rw[this,Bool.and_false]
open Classical in
theorem qgK(ds es:List Dx)(h:ds.length=es.length):((zbc ds.length).all (fun j=>decide (ds.getD j .non=es.getD j .non)))=decide (ds=es):=by
 have:=qgc ds es
 rw[h,Nat.min_self,beq_self_eq_true,Bool.and_true] at this
 rw[h]
 exact this
section
variable {X:Cx}{pins:List (Addr × Obj)}{σ:L2.St}{H:Hp}{s:Shared}
theorem EqAt.to{A:Around}{s:Shared}{u v:Value}{b c:Bool}(h:EqAt A s u v b)(e:b=c):EqAt A s u v c:=e ▸ h
open Classical in
theorem qcV(I:Inv X pins σ H s){n:Nat}(ih:∀ (A:Around) (d e:Dx) (x y:V) (u v:Value),d.dep<=n->A.units + n < cLine->d.nb=true->e.nb=true->Rep X.K H d x->Rep X.K H e y->RelV x u->RelV y v->EqAt A s u v (decide (d=e)))
  {A:Around} {ds es:List Dx} {xs ys:List V} {us vs:List Value} (hd:depL ds<=n) (hu:A.units + (n + 1) < cLine) (h1:nbL ds=true) (h2:nbL es=true) (r1:RepL X.K H ds xs) (r2:RepL X.K H es ys) (v1:Vals xs us) (v2:Vals ys vs) :
  ∀ j (h1:j < us.toArray.size) (h2:j < vs.toArray.size),EqAt A.in1 s us.toArray[j] vs.toArray[j] (decide (ds.getD j .non=es.getD j .non)):=by
 intro j j1 j2
 have l1:=r1.length
 have l2:=r2.length
 have l3:=v1.length
 have l4:=v2.length
 have k1:j < us.length:=by simpa using j1
 have k2:j < vs.length:=by simpa using j2
 have a1:ds[j]?=some (ds.getD j .non):=by simp[List.getD,show j < ds.length by omega]
 have a2:es[j]?=some (es.getD j .non):=by simp[List.getD,show j < es.length by omega]
 obtain⟨x,ex,rx⟩:=r1.get' a1
 obtain⟨y,ey,ry⟩:=r2.get' a2
 obtain⟨u,eu,ru⟩:=v1.get ex
 obtain⟨v,ev,rv⟩:=v2.get ey
 have b1:us.toArray[j]=u:=by
  rw[zaC k1] at eu
  simpa using zaF eu
 have b2:vs.toArray[j]=v:=by
  rw[zaC k2] at ev
  simpa using zaF ev
 rw[b1,b2]
 exact ih A.in1 _ _ x y u v (za6 (qi0 a1) hd) (by show A.units + 1 + n < cLine; omega) (qiF h1 a1) (qiF h2 a2) rx ry ru rv
end
section
variable {X:Cx}{pins:List (Addr × Obj)}{σ:L2.St}{H:Hp}{s:Shared}
theorem PlainL.isList{h:Heap}{a:Addr}{its:Array Value}(p:PlainL h a its):h.IsList a its:=by
 obtain⟨o,n,e,c,_,d⟩:=p
 exact⟨o,e,c,n,d⟩
open Classical in
theorem qfJ(I:Inv X pins σ H s) :
  ∀ (n:Nat) (A:Around) (d e:Dx) (x y:V) (u v:Value),d.dep<=n->A.units + n < cLine->d.nb=true->e.nb=true->Rep X.K H d x->Rep X.K H e y->RelV x u->RelV y v->EqAt A s u v (decide (d=e)):=by
 intro n
 induction n with
 | zero=>
  intro A d e x y u v hd hu n1 n2 r1 r2 ru rv
  have hu':A.units < cLine:=by omega
  cases d with
  | bl b=>rw[Dx.nb] at n1; cases n1
  | tup l=>rw[Dx.dep] at hd; omega
  | lst l=>rw[Dx.dep] at hd; omega
  | non=>
   rw[Rep] at r1; subst r1; cases ru
   cases e with
   | bl b=>rw[Dx.nb] at n2; cases n2
   | non=>rw[Rep] at r2; subst r2; cases rv; exact EqAt.to (EqAt.same _) (by simp)
   | int i=>rw[Rep] at r2; subst r2; obtain⟨t,rfl⟩:=rv; exact EqAt.to (EqAt.none_int _ _) (by simp)
   | str i=>rw[Rep] at r2; subst r2; obtain⟨t,rfl⟩:=rv; exact EqAt.to (EqAt.none_str _ _) (by simp)
   | tup l=>
    rw[Rep] at r2; obtain⟨a,xs,rfl,h1,_⟩:=r2; cases rv
    obtain⟨its,_,ht,_⟩:=I.tuple h1
    exact EqAt.to (EqAt.none_tuple ht hu') (by simp)
   | lst l=>
    rw[Rep] at r2; obtain⟨a,xs,rfl,h1,_⟩:=r2; cases rv
    obtain⟨its,_,ht,_⟩:=I.list h1
    exact EqAt.to (EqAt.none_list ht.isList hu') (by simp)
  | int i=>
   rw[Rep] at r1; subst r1; obtain⟨t,rfl⟩:=ru
   cases e with
   | bl b=>rw[Dx.nb] at n2; cases n2
   | non=>rw[Rep] at r2; subst r2; cases rv; exact EqAt.to (EqAt.int_none _ _) (by simp)
   | int j=>rw[Rep] at r2; subst r2; obtain⟨t',rfl⟩:=rv; exact EqAt.to (EqAt.int_int _ _ _ _) (by simp[Bool.beq_eq_decide_eq])
   | str j=>rw[Rep] at r2; subst r2; obtain⟨t',rfl⟩:=rv; exact EqAt.to (EqAt.int_str _ _ _ _) (by simp)
   | tup l=>
    rw[Rep] at r2; obtain⟨a,xs,rfl,h1,_⟩:=r2; cases rv
    obtain⟨its,_,ht,_⟩:=I.tuple h1
    exact EqAt.to (EqAt.int_tuple _ _ ht hu') (by simp)
   | lst l=>
    rw[Rep] at r2; obtain⟨a,xs,rfl,h1,_⟩:=r2; cases rv
    obtain⟨its,_,ht,_⟩:=I.list h1
    exact EqAt.to (EqAt.int_list _ _ ht.isList hu') (by simp)
  | str i=>
   rw[Rep] at r1; subst r1; obtain⟨t,rfl⟩:=ru
   cases e with
   | bl b=>rw[Dx.nb] at n2; cases n2
   | non=>rw[Rep] at r2; subst r2; cases rv; exact EqAt.to (EqAt.str_none _ _) (by simp)
   | int j=>rw[Rep] at r2; subst r2; obtain⟨t',rfl⟩:=rv; exact EqAt.to (EqAt.str_int _ _ _ _) (by simp)
   | str j=>rw[Rep] at r2; subst r2; obtain⟨t',rfl⟩:=rv; exact EqAt.to (EqAt.str_str _ _ _ _) (by simp[Bool.beq_eq_decide_eq])
   | tup l=>
    rw[Rep] at r2; obtain⟨a,xs,rfl,h1,_⟩:=r2; cases rv
    obtain⟨its,_,ht,_⟩:=I.tuple h1
    exact EqAt.to (EqAt.str_tuple _ _ ht hu') (by simp)
   | lst l=>
    rw[Rep] at r2; obtain⟨a,xs,rfl,h1,_⟩:=r2; cases rv
    obtain⟨its,_,ht,_⟩:=I.list h1
    exact EqAt.to (EqAt.str_list _ _ ht.isList hu') (by simp)
 | succ n ih=>
  intro A d e x y u v hd hu n1 n2 r1 r2 ru rv
  have hu':A.units < cLine:=by omega
  cases d with
  | bl b=>rw[Dx.nb] at n1; cases n1
  | non=>exact ih A _ e x y u v (by rw[Dx.dep]; omega) (by omega) n1 n2 r1 r2 ru rv
  | int i=>exact ih A _ e x y u v (by rw[Dx.dep]; omega) (by omega) n1 n2 r1 r2 ru rv
  | str i=>exact ih A _ e x y u v (by rw[Dx.dep]; omega) (by omega) n1 n2 r1 r2 ru rv
  | tup l=>
   have r1':=r1
   rw[Rep] at r1; obtain⟨a,xs,rfl,h1,q1⟩:=r1; cases ru
   obtain⟨its,v1,ht,_⟩:=I.tuple h1
   cases e with
   | bl b=>rw[Dx.nb] at n2; cases n2
   | non=>rw[Rep] at r2; subst r2; cases rv; exact EqAt.to (EqAt.tuple_none ht hu') (by simp)
   | int j=>rw[Rep] at r2; subst r2; obtain⟨t',rfl⟩:=rv; exact EqAt.to (EqAt.tuple_int _ _ ht hu') (by simp)
   | str j=>rw[Rep] at r2; subst r2; obtain⟨t',rfl⟩:=rv; exact EqAt.to (EqAt.tuple_str _ _ ht hu') (by simp)
   | lst m=>
    rw[Rep] at r2; obtain⟨b,ys,rfl,h2,q2⟩:=r2; cases rv
    obtain⟨its2,v2,ht2,_⟩:=I.list h2
    exact EqAt.to (EqAt.tuple_list ht ht2.isList hu') (by simp)
   | tup m=>
    by_cases hv:v=zaj a
    ·subst hv
     obtain rfl:y=V.ref a:=RelV.inj rv rfl
     have:=Rep.inj I _ _ _ r1' r2
     rw[this]
     exact EqAt.to (EqAt.same _) (by simp)
    ·rw[Rep] at r2; obtain⟨b,ys,rfl,h2,q2⟩:=r2; cases rv
     obtain⟨its2,v2,ht2,_⟩:=I.tuple h2
     rw[Dx.dep] at hd
     rw[Dx.nb] at n1 n2
     refine EqAt.to (EqAt.of_refs (fun z=>hv (by rw[z])) (RcAt.tuples ht ht2 hu' (qcV I ih (by omega) hu n1 n2 q1 q2 v1 v2))) ?_
     have e1:its.toArray.size=l.length:=by rw[zat,<- v1.length,q1.length]
     have e2:its2.toArray.size=m.length:=by rw[zat,<- v2.length,q2.length]
     rw[e1,e2,qgc]
     simp
  | lst l=>
   have r1':=r1
   rw[Rep] at r1; obtain⟨a,xs,rfl,h1,q1⟩:=r1; cases ru
   obtain⟨its,v1,ht,_⟩:=I.list h1
   cases e with
   | bl b=>rw[Dx.nb] at n2; cases n2
   | non=>rw[Rep] at r2; subst r2; cases rv; exact EqAt.to (EqAt.list_none ht.isList hu') (by simp)
   | int j=>rw[Rep] at r2; subst r2; obtain⟨t',rfl⟩:=rv; exact EqAt.to (EqAt.list_int _ _ ht.isList hu') (by simp)
   | str j=>rw[Rep] at r2; subst r2; obtain⟨t',rfl⟩:=rv; exact EqAt.to (EqAt.list_str _ _ ht.isList hu') (by simp)
   | tup m=>
    rw[Rep] at r2; obtain⟨b,ys,rfl,h2,q2⟩:=r2; cases rv
    obtain⟨its2,v2,ht2,_⟩:=I.tuple h2
    exact EqAt.to (EqAt.list_tuple ht.isList ht2 hu') (by simp)
   | lst m=>
    by_cases hv:v=zaj a
    ·subst hv
     obtain rfl:y=V.ref a:=RelV.inj rv rfl
     have:=Rep.inj I _ _ _ r1' r2
     rw[this]
     exact EqAt.to (EqAt.same _) (by simp)
    ·rw[Rep] at r2; obtain⟨b,ys,rfl,h2,q2⟩:=r2; cases rv
     obtain⟨its2,v2,ht2,_⟩:=I.list h2
     rw[Dx.dep] at hd
     rw[Dx.nb] at n1 n2
     have e1:its.toArray.size=l.length:=by rw[zat,<- v1.length,q1.length]
     have e2:its2.toArray.size=m.length:=by rw[zat,<- v2.length,q2.length]
     by_cases hl:l.length=m.length
     ·refine EqAt.to (EqAt.of_refs (fun z=>hv (by rw[z])) (RcAt.lists ht.isList ht2.isList (by rw[e1,e2,hl]) hu' (qcV I ih (by omega) hu n1 n2 q1 q2 v1 v2))) ?_
      rw[e1,qgK _ _ hl]
      simp
     ·refine EqAt.to (EqAt.of_refs (fun z=>hv (by rw[z])) (RcAt.lists_lengths ht.isList ht2.isList (by rw[e1,e2]; simpa using hl) hu')) ?_
      rw[decide_eq_false]
      intro z
      cases z
      exact hl rfl
end
noncomputable def Dx.seq:Dx->Bool
 | .tup _=>true | .lst _=>true | .non=>false | .bl _=>false | .int _=>false | .str _=>false
open Classical in
noncomputable def rEqD(K:zad)(neg:Bool):R2:=fun x y H Q=>∃ d e,Rep K H d x/\Rep K H e y/\d.seq=true/\e.seq=true/\d.nb=true/\e.nb=true/\d.dep<=60/\Q (.bl (if neg then !decide (d=e) else decide (d=e))) H
section
variable {X:Cx}{pins:List (Addr × Obj)}{σ:L2.St}{H:Hp}{s:Shared}
open Classical in
theorem qnj(I:Inv X pins σ H s)(hu:X.A.units + 64 < cLine){d e:Dx}{x y:V}{u v:Value}(r1:Rep X.K H d x)(r2:Rep X.K H e y)(q1:d.seq=true)(q2:e.seq=true)(n1:d.nb=true)(n2:e.nb=true)(hd:d.dep<=60)(ru:RelV x u)(rv:RelV y v) :
  RcAt X.A s u v (decide (d=e))/\RcNeAt X.A s u v (!decide (d=e)):=by
 have hu':X.A.units < cLine:=by omega
 cases d with
 | bl b=>cases q1
 | non=>cases q1
 | int b=>cases q1
 | str b=>cases q1
 | tup l=>
  rw[Rep] at r1; obtain⟨a,xs,rfl,h1,k1⟩:=r1; cases ru
  obtain⟨its,v1,ht,_⟩:=I.tuple h1
  have e1:its.toArray.size=l.length:=by rw[zat,<- v1.length,k1.length]
  cases e with
  | bl b=>cases q2
  | non=>cases q2
  | int b=>cases q2
  | str b=>cases q2
  | tup m=>
   rw[Rep] at r2; obtain⟨b,ys,rfl,h2,k2⟩:=r2; cases rv
   obtain⟨its2,v2,ht2,_⟩:=I.tuple h2
   have e2:its2.toArray.size=m.length:=by rw[zat,<- v2.length,k2.length]
   rw[Dx.dep] at hd
   rw[Dx.nb] at n1 n2
   have he:=qcV I (qfJ I 60) (A:=X.A) (by omega) (by omega) n1 n2 k1 k2 v1 v2
   have a1:=RcAt.tuples ht ht2 hu' he
   have a2:=RcNeAt.tuples ht ht2 hu' he
   rw[e1,e2,qgc] at a1 a2
   have z:decide (Dx.tup l=Dx.tup m)=decide (l=m):=by simp
   rw[z]
   exact⟨a1,a2⟩
  | lst m=>
   rw[Rep] at r2; obtain⟨b,ys,rfl,h2,k2⟩:=r2; cases rv
   obtain⟨its2,v2,ht2,_⟩:=I.list h2
   have z:decide (Dx.tup l=Dx.lst m)=false:=by simp
   rw[z]
   exact⟨RcAt.tuple_list ht ht2.isList hu',RcNeAt.tuple_list ht ht2.isList hu'⟩
 | lst l=>
  rw[Rep] at r1; obtain⟨a,xs,rfl,h1,k1⟩:=r1; cases ru
  obtain⟨its,v1,ht,_⟩:=I.list h1
  have e1:its.toArray.size=l.length:=by rw[zat,<- v1.length,k1.length]
  cases e with
  | bl b=>cases q2
  | non=>cases q2
  | int b=>cases q2
  | str b=>cases q2
  | tup m=>
   rw[Rep] at r2; obtain⟨b,ys,rfl,h2,k2⟩:=r2; cases rv
   obtain⟨its2,v2,ht2,_⟩:=I.tuple h2
   have z:decide (Dx.lst l=Dx.tup m)=false:=by simp
   rw[z]
   exact⟨RcAt.list_tuple ht.isList ht2 hu',RcNeAt.list_tuple ht.isList ht2 hu'⟩
  | lst m=>
   rw[Rep] at r2; obtain⟨b,ys,rfl,h2,k2⟩:=r2; cases rv
   obtain⟨its2,v2,ht2,_⟩:=I.list h2
   have e2:its2.toArray.size=m.length:=by rw[zat,<- v2.length,k2.length]
   rw[Dx.dep] at hd
   rw[Dx.nb] at n1 n2
   have z:decide (Dx.lst l=Dx.lst m)=decide (l=m):=by simp
   rw[z]
   by_cases hl:l.length=m.length
   ·have he:=qcV I (qfJ I 60) (A:=X.A) (by omega) (by omega) n1 n2 k1 k2 v1 v2
    have a1:=RcAt.lists ht.isList ht2.isList (by rw[e1,e2,hl]) hu' he
    have a2:=RcNeAt.lists ht.isList ht2.isList (by rw[e1,e2,hl]) hu' he
    rw[e1,qgK _ _ hl] at a1 a2
    exact⟨a1,a2⟩
   ·have z2:decide (l=m)=false:=decide_eq_false fun z=>hl (by rw[z])
    rw[z2]
    exact⟨RcAt.lists_lengths ht.isList ht2.isList (by rw[e1,e2]; simpa using hl) hu',RcNeAt.lists_lengths ht.isList ht2.isList (by rw[e1,e2]; simpa using hl) hu'⟩
end
section
variable {X:Cx}
theorem qm6(hu:X.A.units + 64 < cLine):OpR X (zaL .Eq) (rEqD X.K false):=by
 intro pins s σ H x y v u Q I rx ry h
 obtain⟨d,e,r1,r2,q1,q2,n1,n2,hd,q⟩:=h
 exact(qnj I hu r1 r2 q1 q2 n1 n2 hd rx ry).1 X.prog X.w X.xe _ ⟨.bl _,H,I,rfl,q⟩
theorem qmX(hu:X.A.units + 64 < cLine):OpR X (zaL .NotEq) (rEqD X.K true):=by
 intro pins s σ H x y v u Q I rx ry h
 obtain⟨d,e,r1,r2,q1,q2,n1,n2,hd,q⟩:=h
 exact(qnj I hu r1 r2 q1 q2 n1 n2 hd rx ry).2 X.prog X.w X.xe _ ⟨.bl _,H,I,rfl,q⟩
end
noncomputable def ItrS(lo c:Int)(n:Nat):It:=⟨fun i _=>i < n,fun i H x H'=>H'=H/\x=.int (lo + i * c),fun i _=>n<=i⟩
theorem qgi{P:zai}{w:World}{K:zad}{tg:Expr}(it:Addr)(lo c:Int)(n:Nat):Turn P w K tg (ItrS lo c n) [it] it (fun i h=>IsRangeIter h it (lo + (i:Nat) * c) ((n:Int) - (i:Nat)) c) where
 mem:=by simp
 obj:=fun i h st b hb=>by
  have e:b=it:=by simpa using hb
  subst e
  exact⟨_,st,fun v z=>by
   have z':Data.fields _=Data.cell v:=z
   cases z'⟩
 keep:=fun i h h' st k=>k it (by simp) _ st
 item:=by
  intro X hP hw hK hc i pins s σ H E I hf st hg
  subst hP hw hK
  obtain⟨f0,f1,f2,f3,f4,f5⟩:=hf it (by simp)
  have W:=Walks.range (prog:=X.prog) (w:=X.w) (I.ok.hd hc) it lo c n
  refine W.item i s _ _ hg st fun v h' tk hv st' kk=>?_
  obtain⟨t,rfl⟩:=hv
  have I1:Inv X pins σ H { s with heap:=h',toks:=tk }:=I.turned (fun b o hb e=>kk b o (by simpa using hb) e) f0 f1 f3 f4 f5
  exact⟨_,rfl,qfH (s:={ s with heap:=h',toks:=tk }) (n := "range_iterator") st' rfl rfl (by decide) ⟨.int (lo + i * c),H,I1,⟨t,rfl⟩,⟨rfl,rfl⟩,st',fun b hb=>(hf b hb).1⟩⟩
 done:=by
  intro X hP hw hK hc i pins s σ H E I hf st hg
  subst hP hw hK
  obtain⟨f0,f1,f2,f3,f4,f5⟩:=hf it (by simp)
  exact wpAny_pyNext_range_end (I.ok.hd hc) st (by have:n<=i:=hg; omega) fun h' eb=>⟨rfl,I.turned (t':=s.toks) (fun b o hb e=>eb b o hb e) f0 f1 f3 f4 f5⟩
 self:=fun _ _ _ _ _ st h=>wpAny_pyIter_rangeiter st h
noncomputable def rsz(a b c:Int):Nat:=(zbP a b c).toNat
theorem qnE(a b c:Int)(hc:c≠0):zbP a b c=(rsz a b c:Int):=by
 unfold rsz
 have:0<=zbP a b c:=by
  unfold zbP
  split
  ·rename_i h
   split
   ·have:=Int.ediv_nonneg (show 0<=b - a - 1 by omega) (show 0<=c by omega)
    omega
   ·omega
  ·split
   ·have:=Int.ediv_nonneg (show 0<=a - b - 1 by omega) (show 0<=-c by omega)
    omega
   ·omega
 omega
noncomputable def qoJ(ta:TA):TI:=fun σ H R=>ta σ H fun vs H1=>∃ i j c:Int,vs=[.int i,.int j,.int c]/\(c≠0/\c.natAbs < 1000/\zcb i j c=true)/\R (ItrS i c (rsz i j c)) H1
theorem qjn{X:Cx}{tg:Expr}{a b c:Expr}{ta:TA}{p pos:Pos}(hg:Gl X "range")(hm:X.mg "range" = none)(ha:PA X [a,b,c] ta)(hs:zap [a,b,c] X.env=[(false,eval a X.env),(false,eval b X.env),(false,eval c X.env)]:=by rfl)(hs2:zap [b,c] X.env=[(false,eval b X.env),(false,eval c X.env)]:=by rfl) :
  PI X tg (.Call (.Name "range" p) [a,b,c] [] pos) (qoJ ta):=by
 intro pins s σ H R I h
 refine Call_ (qdp I hg hm My.boot_range (zcr (thn (ha pos pins s σ H _ I h) fun us s1 ⟨vs,H1,I1,r1,q1⟩=>?_) (by rw[hs,hs2]) (by rw[hs2]; rfl)))
 obtain⟨i,j,c',e,⟨c0,c1,sm⟩,q⟩:=q1
 subst e
 cases r1 with
 | cons r rr=>
  cases rr with
  | cons r' rr=>
   cases rr with
   | cons r'' rr=>
    cases rr
    obtain⟨t,rfl⟩:=r
    obtain⟨t',rfl⟩:=r'
    obtain⟨t'',rfl⟩:=r''
    refine call_range_3 c0 ?_ (Or.inl (PyProof.noPylong_small (by omega)))
    refine wpAny_pyIter_range (IsRange.new ..) sm ?_
    have I2:Inv X pins σ H1 { s1 with heap:=s1.heap.push { cls:=.type "range",data:=.fields #[.int i t,.int j t',.int c' t''] },toks:=s1.toks }:=I1.kept fun b o e=>zah _ e
    refine⟨(s1.heap.push { cls:=.type "range",data:=.fields #[.int i t,.int j t',.int c' t''] }).objs.size,[(s1.heap.push { cls:=.type "range",data:=.fields #[.int i t,.int j t',.int c' t''] }).objs.size],_,_,H1,rfl,
     I2.kept (t':=s1.toks) fun b o e=>zah _ e,qgi _ i c' (rsz i j c'),?_,fun b hb=>?_,q⟩
    ·show IsRangeIter _ _ (i + ((0:Nat):Int) * c') (((rsz i j c':Nat):Int) - ((0:Nat):Int)) c'
     rw[<- qnE i j c' c0]
     have e1:i + ((0:Nat):Int) * c'=i:=by simp
     have e2:zbP i j c' - ((0:Nat):Int)=zbP i j c':=by simp
     rw[e1,e2]
     exact zay _ rfl
    ·have e:b=(s1.heap.push { cls:=.type "range",data:=.fields #[.int i t,.int j t',.int c' t''] }).objs.size:=by simpa using hb
     subst e
     exact I2.fpOk (zae _) (I2.hok.fresh (zae _))
noncomputable def TSame(H H':Hp):Prop:=∀ b xs,Rd H b (.tup xs)->Rd H' b (.tup xs)
theorem Same.t{H H':Hp}(e:Same H H'):TSame H H':=fun b xs h=>by
 rcases h with h | ⟨o,h⟩
 ·exact .inl (e _ _ h)
 ·exact .inr ⟨o,e _ _ h⟩
theorem TSame.refl(H:Hp):TSame H H:=fun _ _ h=>h
theorem TSame.trans{H H1 H2:Hp}(a:TSame H H1)(b:TSame H1 H2):TSame H H2:=fun c o h=>b c o (a c o h)
theorem TSame.put{H:Hp}{l:Addr}{us:List V}{o:HO}(h:H l=some (.lst us)):TSame H (upd H l o):=fun b xs hb=>by
 have ne:b≠l:=fun z=>by
  subst z
  rcases hb with hb | ⟨ob,hb⟩ <;> (rw[h] at hb; cases hb)
 rcases hb with hb | ⟨ob,hb⟩
 ·exact .inl (by rw[qt ne]; exact hb)
 ·exact .inr ⟨ob,by rw[qt ne]; exact hb⟩
theorem TSame.sq{K:zad}{H H':Hp}{a:Addr}{xs:List V}(e:TSame H H')(h:SqT K H a xs):SqT K H' a xs:=by
 rcases h with h | h
 ·exact .inl (e _ _ h)
 ·exact .inr h
mutual
noncomputable def Dx.nl:Dx->Bool
 | .lst _=>false
 | .tup l=>nlL l
 | .non=>true
 | .bl _=>true
 | .int _=>true
 | .str _=>true
noncomputable def nlL:List Dx->Bool
 | []=>true
 | d :: ds=>d.nl && nlL ds
end
section
variable {K:zad}{H H':Hp}
mutual
theorem Rep.tsame(e:TSame H H'):∀ (d:Dx) (v:V),d.nl=true->Rep K H d v->Rep K H' d v
 | .non,v,_,h=>by rw[Rep] at h ⊢; exact h
 | .bl b,v,_,h=>by rw[Rep] at h ⊢; exact h
 | .int i,v,_,h=>by rw[Rep] at h ⊢; exact h
 | .str x,v,_,h=>by rw[Rep] at h ⊢; exact h
 | .tup l,v,n,h=>by
  rw[Rep] at h ⊢
  rw[Dx.nl] at n
  obtain⟨a,xs,e1,h1,h2⟩:=h
  exact⟨a,xs,e1,e.sq h1,RepL.tsame e l xs n h2⟩
 | .lst l,v,n,h=>by rw[Dx.nl] at n; cases n
theorem RepL.tsame(e:TSame H H'):∀ (ds:List Dx) (vs:List V),nlL ds=true->RepL K H ds vs->RepL K H' ds vs
 | [],vs,_,h=>by rw[RepL] at h ⊢; exact h
 | d :: ds,vs,n,h=>by
  rw[RepL] at h ⊢
  rw[nlL,zaY] at n
  obtain⟨x,xs,e1,h1,h2⟩:=h
  exact⟨x,xs,e1,Rep.tsame e d x n.1 h1,RepL.tsame e ds xs n.2 h2⟩
end
theorem qfI{α:Type}{f:α->Dx}(h:∀ x,(f x).nb=true):∀ l:List α,nbL (l.map f)=true
 | []=>by rw[zbB,nbL]
 | x :: l=>by rw[zaf,nbL,h x,qfI h l]; rfl
theorem qeD{α:Type}{f:α->Dx}{n:Nat}(h:∀ x,(f x).dep<=n):∀ l:List α,depL (l.map f)<=n
 | []=>by rw[zbB,depL]; omega
 | x :: l=>by
  have a:=h x
  have b:=qeD h l
  rw[zaf,depL]
  omega
end
theorem Same.put{H H':Hp}{l:Addr}{o:HO}(e:Same H H')(h:H l=none):Same H (upd H' l o):=fun b u hb=>by
 rw[qt (qQ hb h)]
 exact e b u hb
noncomputable def qad(X:Cx)(N:List Str)(scope:Scope)(cl:List (Str × Addr))(C:Addr)(s:Shared)(H:Hp)(fp:List Addr):Cx where
 prog:=X.prog
 w:=X.w
 K:=X.K
 mg:=X.mg
 base:=X.base
 A:=X.A
 N:=N
 s₀:=s
 H₀:=H
 env:=compEnvC scope cl C X.env
 outer:=X.stack
 stack:=X.stack
 ex:=fp
 fn:=fun _=>false
 calm:=X.calm
 pn:=[]
 xe:=fun _ _=>False
noncomputable def PTs(X:Cx)(ifs:List Expr)(t:TT):Prop:=
 ∀ (pins:List (Addr × Obj)) (s:Shared) (σ:L2.St) (H:Hp) (Q:Bool->Hp->Prop),Inv X pins σ H s->t σ H Q->
  wpAny (model X.prog X.w) X.A (forIn ifs true fun c r=>if r=true then do let ok <- isTrue c X.env (eval c X.env); pure (zb6 ok) else pure (zb6 r)) (TP X pins σ Q) X.xe s
noncomputable def tYes:TT:=fun _ H Q=>Q true H
theorem qlz{X:Cx}:PTs X [] tYes:=fun pins s σ H Q I h=>wpAny_tests_nil ⟨H,I,h⟩
theorem qmR{X:Cx}{c:Expr}{t:TT}(h:PT X c t):PTs X [c] t:=fun pins s σ H Q I hw=>wpAny_tests_one (h pins s σ H Q I hw)
structure Clo(X:Cx)(N:List Str)(scope:Scope)(cl:List (Str × Addr)):Prop where
 clos:closureFor scope X.env=pure cl
 kind:scope.kind=.function
 nocell:∀ y∈scope.names,y.2≠.cell
 names:∀ y∈scope.names,y.2=.local->scope.names.lookup y.1=some .local
 sub:∀ x c,cl.lookup x=some c->X.env.cells.lookup x=some c
 has:∀ x,((relabel scope X.env).names.lookup x=some .cell\/(relabel scope X.env).names.lookup x=some .free)->∃ c,cl.lookup x=some c
noncomputable def Start(X:Cx)(N:List Str)(scope:Scope)(σ σ':L2.St):Prop:=
 σ'.length=N.length/\∀ (j:Nat) (x:Str) (v:V),N[j]?=some x->σ'[j]?=some (some v)->Vis (relabel scope X.env) x->¬ (relabel scope X.env).names.lookup x=some .local/\∃ i:Nat,X.N[i]?=some x/\σ[i]?=some (some v)/\(X.env.kindOf x=some .cell\/X.env.kindOf x=some .free)
noncomputable def qml(wi:TI)(g:TG)(tt:TT)(te:TE)(S:L2.St->L2.St->Prop):TE:=fun σ H Q=>∃ σ',S σ σ'/\wi σ H fun J H1=>∀ D,H1 D=none->∃ W:Nat->Nat->L2.St->List V->Hp->Prop,(∃ m,W 0 m σ' [] (upd H1 D (.lst []))) /\
 ∀ i m σ2 us H2,W i m σ2 us H2->(J.stop i H2/\Q (.ref D) H2)\/(J.go i H2/\us.length < zal/\∀ x H3,J.yld i H2 x H3->g x σ2 H3 fun σ3 H4=>tt σ3 H4 fun ok H5=>
  if ok=true then te σ3 H5 fun v H6=>H6 D=some (.lst us)/\∃ m',m' < m/\W (i + 1) m' σ3 (us ++ [v]) (upd H6 D (.lst (us ++ [v]))) else H5 D=some (.lst us)/\∃ m',m' < m/\W (i + 1) m' σ3 us H5)
section
variable {X:Cx}
theorem qmH{pins:List (Addr × Obj)}{σ:L2.St}{H3:Hp}{s3:Shared}{N:List Str}{scope:Scope}{cl:List (Str × Addr)}{fp:List Addr}(I3:Inv X pins σ H3 s3)(cc:Clo X N scope cl)(ff:∀ b∈fp,FpOk X pins H3 b)(fe:∀ b∈fp,∃ o,s3.heap.get? b=some o) :
  (qad X N scope cl s3.heap.objs.size s3 H3 fp).Ok where
 mod:=I3.ok.mod
 kind:=cc.kind
 glob:=I3.ok.glob
 blt:=I3.ok.blt
 above:=zae _
 inj:=fun x y c h1 h2=>I3.ok.inj x y c (cc.sub x c h1) (cc.sub y c h2)
 has:=fun x h=>cc.has x h
 cab:=fun x c h _=>nomatch h
 hd:=I3.ok.hd
 frames:=I3.ok.frames
 stk:=.inl rfl
 exf:=fun b hb=>by
  obtain⟨o,e⟩:=fe b hb
  exact⟨zaA (zag e),fun x c h=>(ff b hb).2.2.2.2.1 x c (cc.sub x c h)⟩
 bs:=I3.bs
 bsz:=za6 I3.ok.bsz I3.sz
 noex:=fun b o e hb=>by
  rcases(ff b hb).2.2.2.1 with z | z
  ·exact I3.ok.noex b o e z
  ·exact absurd (zaP (zag e) I3.ok.bsz) (Nat.not_lt.mpr z)
 exfs:=fun b hb z=>by
  rcases List.mem_cons.mp (I3.stkSub b z) with q | q
  ·exact(ff b hb).2.1 q
  ·exact(ff b hb).2.2.1 q
 funs:=I3.stack
 frf:=I3.stkFree
theorem qkB{pins:List (Addr × Obj)}{σ σ':L2.St}{H3:Hp}{s3 s4:Shared}{N:List Str}{scope:Scope}{cl:List (Str × Addr)}{fp:List Addr}{m:Str->Option Value}(I3:Inv X pins σ H3 s3)(cc:Clo X N scope cl)(ff:∀ b∈fp,FpOk X pins H3 b)(fe:∀ b∈fp,∃ o,s3.heap.get? b=some o)
  (st:Start X N scope σ σ') (ho:s4.os=s3.os) (hg:s4.gens=s3.gens) (hk:∀ b o,s3.heap.get? b=some o->s4.heap.get? b=some o) (hn:s4.heap.Ns s3.heap.objs.size m) :
  Inv (qad X N scope cl s3.heap.objs.size s3 H3 fp) [] σ' H3 s4 where
 ok:=qmH I3 cc ff fe
 os:=ho
 bare:=by rw[hg]; exact I3.bare
 base:=Un.kept hk
 loc:=by
  refine⟨m,hn,fun j x v h1 h2 h3=>?_⟩
  obtain⟨nl,i,e1,e2,e3⟩:=st.2 j x v h1 h2 h3
  obtain⟨m0,hn0,hl0⟩:=I3.loc
  have vis:Vis X.env.scope x:=by
   rcases e3 with e3 | e3
   ·exact .inr (.inl e3)
   ·exact .inr (.inr e3)
  obtain⟨u,ru,l⟩:=hl0 i x v e1 e2 vis
  refine⟨u,ru,?_⟩
  rcases l with⟨lk,_⟩ | ⟨_,c,hc,hcell⟩
  ·rcases e3 with e3 | e3 <;> (rw[lk] at e3; cases e3)
  ·have kk:(relabel scope X.env).names.lookup x=some .cell\/(relabel scope X.env).names.lookup x=some .free:=by
    rcases h3 with h3 | h3 | h3
    ·exact absurd h3 nl
    ·exact .inl h3
    ·exact .inr h3
   obtain⟨c',hc'⟩:=cc.has x kk
   have ec:=cc.sub x c' hc'
   rw[hc] at ec
   cases ec
   obtain⟨o,ho1,hd1⟩:=hcell
   exact .inr ⟨kk,c,hc',o,hk c o ho1,hd1⟩
 cell:=fun x c e=>by
  obtain⟨v,o,e1,d1⟩:=I3.cell x c (cc.sub x c e)
  exact⟨v,o,hk c o e1,d1⟩
 free:=I3.hok.fresh (zae _)
 freeC:=fun x c e=>I3.freeC x c (cc.sub x c e)
 pin:=fun p hp=>nomatch hp
 hok:=I3.hok.kept hk
 len:=st.1
theorem comp_back{pins:List (Addr × Obj)}{σ σ5:L2.St}{H3 H5:Hp}{s3 s5:Shared}{h':Heap}{N:List Str}{scope:Scope}{cl:List (Str × Addr)}{fp:List Addr}(I3:Inv X pins σ H3 s3)(ff:∀ b∈fp,FpOk X pins H3 b)
  (I5:Inv (qad X N scope cl s3.heap.objs.size s3 H3 fp) [] σ5 H5 s5) (hs:za3 s3.heap.objs.size s5.heap h'):Inv X pins σ H5 { s5 with heap:=h' }:=by
 have ne:∀ b o,s3.heap.get? b=some o->b≠s3.heap.objs.size:=fun b o e=>zaA (zag e)
 have u:=I5.base
 refine I3.call' (s':={ s5 with heap:=h' }) (ch:=fp) I5.os ⟨fun b o e n hb hx=>?_,fun b o e n hb hx=>?_,u.free,fun b o e hx=>?_,u.tups,u.frzs,u.tbls⟩ ?_ I5.bare fun b hb=>?_
 ·exact(hs.2 b (ne b o e)).trans (u.keep b o e n hb hx)
 ·obtain⟨sl,q⟩:=u.slot b o e n hb hx
  exact⟨sl,(hs.2 b (ne b o e)).trans q⟩
 ·obtain⟨o',q⟩:=u.there b o e hx
  exact⟨o',(hs.2 b (ne b o e)).trans q⟩
 ·intro b ob e
  have fC:H5 s3.heap.objs.size=none:=I5.free
  refine(I5.hok b ob e).stay (fun c w' hc q=>(hs.2 c ?_).trans q) (fun _ q=>q) fun _ _ q=>q
  rintro rfl
  rcases hc with z | z
  ·subst z; rw[fC] at e; cases e
  ·rw[fC] at z; cases z
 ·obtain⟨_,f1,_,f3,f4,f5⟩:=ff b hb
  exact⟨f3,f1,f4,f5⟩
theorem qh0{prog:zai}{w:World}{A:Around}{R:Result->Shared->Prop}{s:Shared}{elt target iter:Expr}{ifs:List Expr}{scope:Scope}{pos:Pos}{it acc:Value}{env:Env}(I:Nat->Shared->Prop)
  (turn : ∀ n s, I n s -> wpAny (model prog w) A (pyNext it) (fun r s₁ => match r with
   | none=>R (.ok .next) s₁
   | some v=>wpAny (model prog w) A (letOwnedTupleGo target it v) (fun _ s₁'=>wpAny (model prog w) A (assign target env v) (fun _ s₂=>
     wpAny (model prog w) A (forIn ifs true fun c r=>if r=true then do let ok <- isTrue c env (eval c env); pure (zb6 ok) else pure (zb6 r)) (fun ok s₃=>
      if ok=true then wpAny (model prog w) A (eval elt env) (fun x s₄=>
       wpAny (model prog w) A (call (.builtin "list.append") [acc,x]) (fun _ s₅=>∃ m,m < n/\I m s₅) (fun _ _=>False) s₄) (fun _ _=>False) s₃
      else ∃ m,m < n/\I m s₃) (fun _ _=>False) s₂) (fun _ _=>False) s₁') (fun _ _=>False) s₁) (fun _ _=>False) s)
  (n:Nat) (h:I n s) :
  codeAny (model prog w) A (.compLoop (.ListComp elt [⟨target,iter,ifs,0⟩] scope pos) 0 it acc env) R s:=by
 refine codeAny_loop rfl I (fun n s hI=>?_) n h
 show wpAny _ A ((compTurn (.ListComp elt [⟨target,iter,ifs,0⟩] scope pos) 0 it acc env).onRaise (fun x=>do noteFrame x env; theTreesLotGoes x)) _ _ s
 refine wpAny_noted ?_
 rw[compTurn_list]
 have ff:∀ (e:Value) (s':Shared),False->notedBy (model prog w) A env (fun e s'=>R (.error e) s') e s':=fun _ _ h=>h.elim
 refine zaa (wpAny_standAt (zaa (za0 (turn n s hI) (fun r s₁ h₁=>?_) ff)))
 cases r with
 | none=>exact zab h₁
 | some v=>
  refine zaa (za0 h₁ (fun _ s₁' h₁'=>?_) ff)
  refine zaa (za0 h₁' (fun _ s₂ h₂=>zaa (za0 h₂ (fun ok s₃ h₃=>?_) ff)) ff)
  cases ok with
  | false=>exact zab ⟨rfl,h₃⟩
  | true=>
   exact zaa (zaa (za0 h₃ (fun x s₄ h₄=>zaa (za0 h₄ (fun _ s₅ h₅=>zab (zab ⟨rfl,h₅⟩)) ff)) ff))
theorem qe3{elt tg iter:Expr}{ifs:List Expr}{scope:Scope}{pos:Pos}{N:List Str}{cl:List (Str × Addr)}{wi:TI}{g:TG}{tt:TT}{te:TE}{RR:Value->Addr->Result->Shared->Prop}{pins:List (Addr × Obj)}{σ σ':L2.St}{Q:VK}{J:It}{H2:Hp}{s2:Shared}{it:Addr}{fp:List Addr}{tn:Nat->Heap->Prop}{E:Value->Shared->Prop}
  (hc:X.calm=true) (cc:Clo X N scope cl) (hg:∀ C s H fp,PG (qad X N scope cl C s H fp) tg g) (ht:∀ C s H fp,PTs (qad X N scope cl C s H fp) ifs tt) (he:∀ C s H fp,PE (qad X N scope cl C s H fp) elt te)
  (I2:Inv X pins σ H2 s2) (T:Turn X.prog X.w X.K tg J fp it tn) (st2:tn 0 s2.heap) (f2:∀ b∈fp,FpOk X pins H2 b) (sS:Start X N scope σ σ')
  (q2 : ∀ D, H2 D = none -> ∃ W : Nat -> Nat -> L2.St -> List V -> Hp -> Prop, (∃ m, W 0 m σ' [] (upd H2 D (.lst []))) /\
   ∀ i m σ2 us H2,W i m σ2 us H2->(J.stop i H2/\Q (.ref D) H2)\/(J.go i H2/\us.length < zal/\∀ x H3,J.yld i H2 x H3->g x σ2 H3 fun σ3 H4=>tt σ3 H4 fun ok H5=>
    if ok=true then te σ3 H5 fun v H6=>H6 D=some (.lst us)/\∃ m',m' < m/\W (i + 1) m' σ3 (us ++ [v]) (upd H6 D (.lst (us ++ [v]))) else H5 D=some (.lst us)/\∃ m',m' < m/\W (i + 1) m' σ3 us H5))
  (hRR:∀ (s3 s5:Shared) (H3 H5:Hp) (σ5:L2.St) (D:Addr),Inv X pins σ H3 s3->(∀ b∈fp,FpOk X pins H3 b)->Inv (qad X N scope cl s3.heap.objs.size s3 H3 fp) [] σ5 H5 s5->Q (.ref D) H5->RR (.ref D) s3.heap.objs.size (.ok .next) s5) :
  wpAny (model X.prog X.w) X.A (newList []) (fun acc s₃=>wpAny (model X.prog X.w) X.A (newFunctionEnv scope X.env.globals cl [] X.env.qual none .none (some X.env)) (fun cenv s₄=>
   codeAny (model X.prog X.w) X.A (.compStart (.ListComp elt [⟨tg,iter,ifs,0⟩] scope pos) 0 (.ref it) acc { cenv with scope:=relabel scope X.env }) (RR acc cenv.locals) s₄) E s₃) E s2:=by
 refine zbe (wpAny_newFunctionEnv cc.nocell (by intro y hy; simp at hy) (fun h1 hns1 hsb1=>?_) cc.kind)
 dsimp only at hns1 hsb1 ⊢
 have I3:Inv X pins σ (upd H2 s2.heap.objs.size (.lst [])) { s2 with heap:=s2.heap.push { cls:=.type "list",dict:=none,data:=.seq ([]:List Value).toArray } }:=I2.lnew (t':=s2.toks) .nil (zau _)
 have hD:H2 s2.heap.objs.size=none:=I2.fresh
 have fne:∀ b∈fp,b≠s2.heap.objs.size:=fun b hb=>by
  obtain⟨o,e,_⟩:=T.obj 0 _ st2 b hb
  exact zaA (zag e)
 have fe:∀ b∈fp,∃ o,(s2.heap.push { cls:=.type "list",dict:=none,data:=.seq ([]:List Value).toArray }).get? b=some o:=fun b hb=>by
  obtain⟨o,e,_⟩:=T.obj 0 _ st2 b hb
  exact⟨o,zah _ e⟩
 have f3:∀ b∈fp,FpOk X pins (upd H2 s2.heap.objs.size (.lst [])) b:=fun b hb=>⟨by rw[qt (fne b hb)]; exact(f2 b hb).1,(f2 b hb).2⟩
 obtain⟨W,⟨m0,w0⟩,turn⟩:=q2 s2.heap.objs.size hD
 have hDl:(upd H2 s2.heap.objs.size (.lst [])) s2.heap.objs.size=some (.lst []):=qw
 generalize hs3:({ s2 with heap:=s2.heap.push { cls:=.type "list",dict:=none,data:=.seq ([]:List Value).toArray } }:Shared)=s3 at I3
 have e3:s2.heap.push { cls:=.type "list",dict:=none,data:=.seq ([]:List Value).toArray }=s3.heap:=by rw[<- hs3]
 rw[e3] at hns1 hsb1 fe ⊢
 generalize s2.heap.objs.size=D at *
 generalize upd H2 D (.lst [])=H3 at *
 have hk4:∀ b o,s3.heap.get? b=some o->h1.get? b=some o:=fun b o e=>(hsb1.2 b (zaA (zag e))).trans (zah _ e)
 have st3:tn 0 s3.heap:=by
  refine T.keep 0 _ _ st2 fun b hb o e=>?_
  rw[<- e3]
  exact zah _ e
 have loop:∀ s4:Shared,s4={ s2 with heap:=h1,toks:=s2.toks + ([]:List (Str × Value)).length }->
   codeAny (model X.prog X.w) X.A (.compLoop (.ListComp elt [⟨tg,iter,ifs,0⟩] scope pos) 0 (.ref it) (.ref D) (compEnvC scope cl s3.heap.objs.size X.env)) (RR (.ref D) s3.heap.objs.size) s4:=by
  rintro s4 rfl
  have I4:Inv (qad X N scope cl s3.heap.objs.size s3 H3 fp) [] σ' H3 { s2 with heap:=h1,toks:=s2.toks + ([]:List (Str × Value)).length }:=
   qkB (m:=fun x=>([]:List (Str × Value)).reverse.lookup x) I3 cc f3 fe sS (by rw[<- hs3]) (by rw[<- hs3]) hk4 hns1
  have fp0:∀ {H':Hp},(∀ b∈fp,H' b=none)->∀ b∈fp,FpOk (qad X N scope cl s3.heap.objs.size s3 H3 fp) [] H' b:=fun hn b hb=>by
   have ok:=I4.ok
   exact⟨hn b hb,(ok.exf b hb).1,ok.exfs b hb,.inl hb,(ok.exf b hb).2,fun p hp=>nomatch hp⟩
  refine qh0 (fun n s'=>∃ i σ2 us H',Inv (qad X N scope cl s3.heap.objs.size s3 H3 fp) [] σ2 H' s'/\tn i s'.heap/\(∀ b∈fp,H' b=none)/\H' D=some (.lst us)/\W i n σ2 us H') ?_ m0 ⟨0,σ',[],H3,I4,T.keep 0 _ _ st3 fun b hb o e=>hk4 b o e,fun b hb=>(f3 b hb).1,hDl,w0⟩
  rintro n s5 ⟨i,σ5,us,H5,I5,st5,fr5,hD5,w5⟩
  rcases turn i n σ5 us H5 w5 with⟨stop,qn⟩ | ⟨go,hlen,step⟩
  ·refine thn (T.done (qad X N scope cl s3.heap.objs.size s3 H3 fp) rfl rfl rfl hc i [] s5 σ5 H5 _ I5 (fp0 fr5) st5 stop) fun r s6 ⟨hr,I6⟩=>?_
   subst hr
   exact hRR s3 s6 H3 H5 σ5 D I3 f3 I6 qn
  ·refine thn (T.item (qad X N scope cl s3.heap.objs.size s3 H3 fp) rfl rfl rfl hc i [] s5 σ5 H5 _ I5 (fp0 fr5) st5 go) fun r s6 ⟨u,hr,h6⟩=>?_
   subst hr
   refine thn h6 fun _ s7 ⟨x,H7,I7,r7,y7,st7,fr7⟩=>?_
   have I7':=I7.pinned (fp0 fr7) (T.obj _ _ st7)
   refine thn (hg _ _ _ _ _ s7 σ5 H7 x u _ I7' r7 (step x H7 y7)) fun _ s8 ⟨σ8,H8,I8,q8⟩=>?_
   refine thn (ht _ _ _ _ _ s8 σ8 H8 _ I8 q8) fun ok s9 ⟨H9,I9,q9⟩=>?_
   have fin:∀ {s10:Shared} {H10:Hp} {vs:List V},Inv (qad X N scope cl s3.heap.objs.size s3 H3 fp) ([] ++ qft fp s7.heap) σ8 H10 s10->H10 D=some (.lst vs)->(∃ m',m' < n/\W (i + 1) m' σ8 vs H10)->
     ∃ m,m < n/\∃ i σ2 us H',Inv (qad X N scope cl s3.heap.objs.size s3 H3 fp) [] σ2 H' s10/\tn i s10.heap/\(∀ b∈fp,H' b=none)/\H' D=some (.lst us)/\W i m σ2 us H':=fun {s10 H10 vs} I10 hd ⟨m',hm,w10⟩=>by
    refine⟨m',hm,i + 1,σ8,vs,H10,I10.unpinned,T.keep _ _ _ st7 fun b hb o e=>(I10.pin (b,o) (zbt _ (zbt _ (qbC hb e)))).1,fun b hb=>?_,hd,w10⟩
    obtain⟨o,e,d⟩:=T.obj _ _ st7 b hb
    exact(I10.pin (b,o) (zbt _ (zbt _ (qbC hb e)))).2.1
   cases ok with
   | false=>
    rw[if_neg zax] at q9 ⊢
    exact fin I9 q9.1 q9.2
   | true=>
    rw[if_pos rfl] at q9 ⊢
    refine thn (he _ _ _ _ _ s9 σ8 H9 _ I9 q9) fun y s10 ⟨v,H10,I10,r10,hD10,q10⟩=>?_
    refine thn (qeV (X:=qad X N scope cl s3.heap.objs.size s3 H3 fp) _ s10 σ8 H10 (.ref D) [v] (.ref D) [y] (fun _ H11=>H11 D=some (.lst (us ++ [v]))/\∃ m',m' < n/\W (i + 1) m' σ8 (us ++ [v]) H11) I10 rfl (.cons r10 .nil) ⟨D,us,v,rfl,rfl,hD10,hlen,qw,q10⟩) fun _ s11 ⟨z,H11,I11,_,hD11,q11⟩=>?_
    exact fin I11 hD11 q11
 exact codeAny_compStart_list (loop _ rfl) (T.self X.A 0 _ _ _ (T.keep 0 _ _ st3 fun b hb o e=>hk4 b o e) (loop _ rfl))
theorem qmP{elt tg iter:Expr}{ifs:List Expr}{scope:Scope}{pos:Pos}{N:List Str}{cl:List (Str × Addr)}{wi:TI}{g:TG}{tt:TT}{te:TE}
  (hc:X.calm=true) (cc:Clo X N scope cl) (hi:PI X tg iter wi) (hg:∀ C s H fp,PG (qad X N scope cl C s H fp) tg g) (ht:∀ C s H fp,PTs (qad X N scope cl C s H fp) ifs tt) (he:∀ C s H fp,PE (qad X N scope cl C s H fp) elt te)
  (hs:∀ x,foldedSetIterable iter X.env x=pure x:=by intro _; rfl) :
  PE X (.ListComp elt [⟨tg,iter,ifs,0⟩] scope pos) (qml wi g tt te (Start X N scope)):=by
 intro pins s σ H Q I h
 obtain⟨σ',sS,hw⟩:=h
 rw[eval_ListComp]
 refine wpAny_comprehension_free (use:=none) rfl hs cc.clos cc.kind cc.names (thn (hi pins s σ H _ I hw) fun v s1 h1=>thn h1 fun itv s2 h2=>?_)
 obtain⟨it,fp,tn,J,H2,e,I2,T,st2,f2,q2⟩:=h2
 subst e
 refine qe3 (wi:=wi) (Q:=Q) (RR:=fun acc C=>compPost (model X.prog X.w) X.A X.xe none (EP X pins σ Q) acc C) hc cc hg ht he I2 T st2 f2 sS q2 ?_
 intro s3 s5 H3 H5 σ5 D I3 f3 I5 q
 obtain⟨m,hn,_⟩:=id I5.loc
 exact⟨m,hn,fun h' hs'=>⟨.ref D,H5,comp_back I3 f3 I5 hs',rfl,q⟩⟩
end
end My
namespace My
open PySem PySem.W PyProof.Rows
structure Ord(n:Nat)(lt:Nat->Nat->Bool):Prop where
 irr:∀ i,i < n->lt i i=false
 tr:∀ i j k,i < n->j < n->k < n->lt i j=true->lt j k=true->lt i k=true
 tot:∀ i j,i < n->j < n->i≠j->lt i j=true\/lt j i=true
noncomputable def cmpP(n:Nat)(lt:Nat->Nat->Bool):Nat->Nat->(Bool->Shared->Prop)->Shared->Prop:=fun i j C s=>i < n/\j < n/\i≠j/\C (lt i j) s
noncomputable def PermR(n:Nat)(p:Array Nat):Prop:=p.Perm (List.toArray (zbc n))
theorem PermR.size{n:Nat}{p:Array Nat}(h:PermR n p):p.size=n:=by
 have:=Array.Perm.size_eq h
 simpa using this
theorem PermR.lt{n:Nat}{p:Array Nat}(h:PermR n p){i:Nat}(hi:i < n):p.getD i 0 < n:=by
 have hs:=h.size
 have hi':i < p.size:=by omega
 have e:p.getD i 0=p[i]:=by simp[Array.getD,hi']
 rw[e]
 have hm:p[i]∈p.toList:=by simp
 have:=(Array.perm_iff_toList_perm.mp h).mem_iff.mp hm
 simpa using this
theorem PermR.nodup{n:Nat}{p:Array Nat}(h:PermR n p):p.toList.Nodup:=by
 have:=Array.perm_iff_toList_perm.mp h
 exact this.symm.nodup (by simpa using List.nodup_range)
theorem PermR.ne{n:Nat}{p:Array Nat}(h:PermR n p){i j:Nat}(hi:i < n)(hj:j < n)(hne:i≠j):p.getD i 0≠p.getD j 0:=by
 have hs:=h.size
 have hi':i < p.toList.length:=by rw[zaN]; omega
 have hj':j < p.toList.length:=by rw[zaN]; omega
 have e1:p.getD i 0=p.toList[i]:=by simp[Array.getD,show i < p.size by omega]
 have e2:p.getD j 0=p.toList[j]:=by simp[Array.getD,show j < p.size by omega]
 rw[e1,e2]
 intro z
 exact hne ((zbO h.nodup).mp z)
noncomputable def qbn(lt:Nat->Nat->Bool)(p:Array Nat)(k:Nat):Prop:=∀ i j,i < j->j < k->lt (p.getD i 0) (p.getD j 0)=true
section
variable {n:Nat}{lt:Nat->Nat->Bool}(O:Ord n lt)
include O
theorem qcE{p:Array Nat}(hp:PermR n p){r:Nat}(hr:r<=n)(h:∀ i,i + 1 < r->lt (p.getD i 0) (p.getD (i + 1) 0)=true):qbn lt p r:=by
 intro i j hij hj
 obtain⟨d,rfl⟩:∃ d,j=i + 1 + d:=⟨j - i - 1,by omega⟩
 clear hij
 induction d with
 | zero=>exact h i (by omega)
 | succ d ih=>exact O.tr _ _ _ (hp.lt (by omega)) (hp.lt (by omega)) (hp.lt (by omega)) (ih (by omega)) (h (i + 1 + d) (by omega))
theorem tot'{p:Array Nat}(hp:PermR n p){i j:Nat}(hi:i < n)(hj:j < n)(hne:i≠j)(h:lt (p.getD i 0) (p.getD j 0)=false):lt (p.getD j 0) (p.getD i 0)=true:=by
 rcases O.tot _ _ (hp.lt hi) (hp.lt hj) (hp.ne hi hj hne) with z | z
 ·rw[h] at z; cases z
 ·exact z
theorem qip{p:Array Nat}(hp:PermR n p){G:Nat->Shared->Prop}{s:Shared}:∀ (f m:Nat),1<=m->m + f<=n->(∀ i,i + 1 < m->lt (p.getD i 0) (p.getD (i + 1) 0)=true)->
  (∀ r,m<=r->r<=m + f->(∀ i,i + 1 < r->lt (p.getD i 0) (p.getD (i + 1) 0)=true)->(r < m + f->lt (p.getD r 0) (p.getD (r - 1) 0)=true)->G r s)->(kas_asc p f m).kasWp (cmpP n lt) G s
 | 0,m,h1,h2,ha,hG=>hG m (zae _) (zae _) ha fun z=>absurd z (by omega)
 | f + 1,m,h1,h2,ha,hG=>by
  show cmpP n lt _ _ _ s
  refine⟨hp.lt (by omega),hp.lt (by omega),hp.ne (by omega) (by omega) (by omega),?_⟩
  cases hc:lt (p.getD m 0) (p.getD (m - 1) 0) with
  | true=>
   show(KasT.ret m).kasWp (cmpP n lt) G s
   exact hG m (zae _) (by omega) ha fun _=>hc
  | false=>
   show(kas_asc p f (m + 1)).kasWp (cmpP n lt) G s
   refine qip hp f (m + 1) (by omega) (by omega) (fun i hi=>?_) (fun r h3 h4 h5 h6=>hG r (by omega) (by omega) h5 fun z=>h6 (by omega))
   by_cases e:i + 1 < m
   ·exact ha i e
   ·have:i=m - 1:=by omega
    subst this
    have e2:m - 1 + 1=m:=by omega
    rw[e2]
    exact tot' O hp (by omega) (by omega) (by omega) hc
theorem qh1{p:Array Nat}(hp:PermR n p){G:Array Nat × Nat × Nat->Shared->Prop}{s:Shared}:∀ (f m:Nat),1<=m->m + f<=n->(∀ i,i + 1 < m->lt (p.getD (i + 1) 0) (p.getD i 0)=true)->
  (∀ r,m<=r->r<=m + f->(∀ i,i + 1 < r->lt (p.getD (i + 1) 0) (p.getD i 0)=true)->G (p,r,0) s)->(kas_desc f p m 0).kasWp (cmpP n lt) G s
 | 0,m,h1,h2,ha,hG=>hG m (zae _) (zae _) ha
 | f + 1,m,h1,h2,ha,hG=>by
  show cmpP n lt _ _ _ s
  refine⟨hp.lt (by omega),hp.lt (by omega),hp.ne (by omega) (by omega) (by omega),?_⟩
  cases hc:lt (p.getD m 0) (p.getD (m - 1) 0) with
  | true=>
   show(kas_desc f p (m + 1) 0).kasWp (cmpP n lt) G s
   refine qh1 hp f (m + 1) (by omega) (by omega) (fun i hi=>?_) (fun r h3 h4 h5=>hG r (by omega) (by omega) h5)
   by_cases e:i + 1 < m
   ·exact ha i e
   ·have:i=m - 1:=by omega
    subst this
    have e2:m - 1 + 1=m:=by omega
    rw[e2]
    exact hc
  | false=>
   show cmpP n lt _ _ _ s
   refine⟨hp.lt (by omega),hp.lt (by omega),hp.ne (by omega) (by omega) (by omega),?_⟩
   rw[tot' O hp (by omega) (by omega) (by omega) hc]
   exact hG m (zae _) (by omega) ha
theorem qkX{p:Array Nat}(hp:PermR n p){r:Nat}(hr:r<=n)(k:Nat):(kas_rev p 0 r).getD k 0=if k < r then p.getD (r - 1 - k) 0 else p.getD k 0:=by
 have hs:=hp.size
 have e:=getElem?_mirror_all (xs:=p) (i:=0) (j:=r) (by omega) k
 have g:∀ (q:Array Nat) (k:Nat),q.getD k 0=(q[k]?).getD 0:=fun q k=>by
  by_cases h:k < q.size <;> simp[Array.getD,h]
 unfold kas_rev
 rw[g,e]
 by_cases h:k < r
 ·rw[if_pos ⟨zau _,h⟩,if_pos h,g]
  congr 2
  omega
 ·rw[if_neg (fun z=>h z.2),if_neg h,g]
omit O in
theorem qkl{p:Array Nat}(hp:PermR n p)(r:Nat):PermR n (kas_rev p 0 r):=(mirror_perm p 0 r _).trans hp
theorem qkL{p:Array Nat}(hp:PermR n p)(hn:1<=n){G:Nat × Array Nat->Shared->Prop}{s:Shared}(hG:∀ m p',1<=m->m<=n->PermR n p'->qbn lt p' m->G (m,p') s):(kas_count n p).kasWp (cmpP n lt) G s:=by
 unfold kas_count
 rw[KasT.kasWp_bind]
 refine qip O hp (n - 1) 1 (zae _) (by omega) (fun i hi=>absurd hi (by omega)) fun r h1 h2 h3 h4=>?_
 by_cases e:r=n
 ·have:(r == n)=true:=by simp[e]
  rw[if_pos this]
  exact hG r p h1 (by omega) hp (qcE O hp (by omega) h3)
 ·have:¬ (r == n)=true:=by simp[e]
  rw[if_neg this]
  have hs:=qcE O hp (r:=r) (by omega) h3
  by_cases h5:r > 1
  ·rw[if_pos h5]
   show cmpP n lt _ _ _ s
   refine⟨hp.lt (by omega),hp.lt (by omega),hp.ne (by omega) (by omega) (by omega),?_⟩
   rw[hs 0 (r - 1) (by omega) (by omega)]
   exact hG r p h1 (by omega) hp hs
  ·rw[if_neg h5]
   have r1:r=1:=by omega
   subst r1
   unfold kas_descPart
   rw[KasT.kasWp_bind]
   have h10:=h4 (by omega)
   refine qh1 O hp (n - (1 + 1)) (1 + 1) (by omega) (by omega) (fun i hi=>?_) fun r' h6 h7 h8=>?_
   ·have:i=0:=by omega
    subst this
    exact h10
   ·show(kas_tail3 r' n p).kasWp (cmpP n lt) G s
    unfold kas_tail3
    rw[KasT.kasWp_bind]
    have hr':r'<=n:=by omega
    have hp':PermR n (kas_rev p 0 r'):=qkl hp r'
    refine qip O hp' (n - r') r' (by omega) (by omega) (fun i hi=>?_) fun m h9 h11 h12 _=>?_
    ·rw[qkX O hp hr',qkX O hp hr',if_pos (by omega),if_pos hi]
     have:=h8 (r' - 1 - (i + 1)) (by omega)
     have e2:r' - 1 - (i + 1) + 1=r' - 1 - i:=by omega
     rw[e2] at this
     exact this
    ·exact hG m _ (by omega) (by omega) hp' (qcE O hp' (by omega) h12)
theorem qew{p:Array Nat}(hp:PermR n p){k:Nat}(hk:k < n)(hs:qbn lt p k){G:Nat->Shared->Prop}{s:Shared}:∀ (f l r:Nat),l<=r->r<=k->r - l<=f->(∀ i,i < l->lt (p.getD i 0) (p.getD k 0)=true)->(∀ i,r<=i->i < k->lt (p.getD k 0) (p.getD i 0)=true)->
  (∀ l,l<=k->(∀ i,i < l->lt (p.getD i 0) (p.getD k 0)=true)->(∀ i,l<=i->i < k->lt (p.getD k 0) (p.getD i 0)=true)->G l s)->(kas_place p k f l r).kasWp (cmpP n lt) G s
 | 0,l,r,h1,h2,h3,h4,h5,hG=>by
  have:l=r:=by omega
  subst this
  exact hG l h2 h4 h5
 | f + 1,l,r,h1,h2,h3,h4,h5,hG=>by
  unfold kas_place
  by_cases e:l ≥ r
  ·rw[if_pos e]
   have:l=r:=by omega
   subst this
   exact hG l h2 h4 h5
  ·rw[if_neg e]
   show cmpP n lt _ _ _ s
   refine⟨hp.lt (by omega),hp.lt (by omega),hp.ne (by omega) (by omega) (by omega),?_⟩
   have hm:(l + r) / 2 < k:=by omega
   have hm1:l<=(l + r) / 2:=by omega
   have hm2:(l + r) / 2 < r:=by omega
   generalize (l + r) / 2=mid at *
   cases hc:lt (p.getD k 0) (p.getD mid 0) with
   | true=>
    show(kas_place p k f l mid).kasWp (cmpP n lt) G s
    refine qew hp hk hs f l mid hm1 (by omega) (by omega) h4 (fun i hi hik=>?_) hG
    by_cases z:i=mid
    ·rw[z]; exact hc
    ·exact O.tr _ _ _ (hp.lt (by omega)) (hp.lt (by omega)) (hp.lt (by omega)) hc (hs mid i (by omega) hik)
   | false=>
    show(kas_place p k f (mid + 1) r).kasWp (cmpP n lt) G s
    have hc':=tot' O hp (by omega) (by omega) (by omega) hc
    refine qew hp hk hs f (mid + 1) r (by omega) h2 (by omega) (fun i hi=>?_) h5 hG
    by_cases z:i=mid
    ·rw[z]; exact hc'
    ·exact O.tr _ _ _ (hp.lt (by omega)) (hp.lt (by omega)) (hp.lt (by omega)) (hs i mid (by omega) hm) hc'
theorem qlh{p:Array Nat}(hp:PermR n p){k l:Nat}(hk:k < n)(hl:l<=k)(j:Nat):(bubble p k (k - l)).getD j 0=if j=l then p.getD k 0 else if l < j/\j<=k then p.getD (j - 1) 0 else p.getD j 0:=by
 have hs:=hp.size
 have e:=getElem?_bubble (xs:=p) (src:=k) (by omega) (k - l) (by omega) j
 have g:∀ (q:Array Nat) (k:Nat),q.getD k 0=(q[k]?).getD 0:=fun q k=>by
  by_cases h:k < q.size <;> simp[Array.getD,h]
 have e2:k - (k - l)=l:=by omega
 rw[e2] at e
 rw[g,e]
 by_cases h:j=l
 ·rw[if_pos h,if_pos h,g]
 ·rw[if_neg h,if_neg h]
  by_cases h2:l < j/\j<=k
  ·rw[if_pos h2,if_pos h2,g]
  ·rw[if_neg h2,if_neg h2,g]
theorem qkO{G:Array Nat->Shared->Prop}{s:Shared}(hG:∀ p,PermR n p->qbn lt p n->G p s):∀ (f:Nat) (p:Array Nat) (k:Nat),k + f=n->PermR n p->qbn lt p k->(kas_bin f p k).kasWp (cmpP n lt) G s
 | 0,p,k,h1,hp,hs=>by
  have:k=n:=by omega
  subst this
  exact hG p hp hs
 | f + 1,p,k,h1,hp,hs=>by
  unfold kas_bin
  rw[KasT.kasWp_bind]
  have hk:k < n:=by omega
  refine qew O hp hk hs k 0 k (zau _) (zae _) (by omega) (fun i hi=>absurd hi (by omega)) (fun i h2 h3=>absurd h3 (by omega)) fun l hl h4 h5=>?_
  refine qkO hG f _ (k + 1) (by omega) ((bubble_perm p k _).trans hp) fun i j hij hj=>?_
  rw[qlh O hp hk hl,qlh O hp hk hl]
  by_cases a1:i=l
  ·rw[if_pos a1,if_neg (by omega),if_pos (by omega)]
   exact h5 (j - 1) (by omega) (by omega)
  ·rw[if_neg a1]
   by_cases b1:j=l
   ·rw[if_pos b1,if_neg (by omega)]
    exact h4 i (by omega)
   ·rw[if_neg b1]
    by_cases a2:l < i/\i<=k
    ·rw[if_pos a2,if_pos (by omega)]
     exact hs (i - 1) (j - 1) (by omega) (by omega)
    ·rw[if_neg a2]
     by_cases b2:l < j/\j<=k
     ·rw[if_pos b2]
      by_cases c:i=j - 1
      ·omega
      ·exact hs i (j - 1) (by omega) (by omega)
     ·rw[if_neg b2]
      exact hs i j hij (by omega)
theorem qme(hn:1<=n){G:Array Nat->Shared->Prop}{s:Shared}(hG:∀ p,PermR n p->qbn lt p n->G p s):(kas_sort n).kasWp (cmpP n lt) G s:=by
 unfold kas_sort
 rw[KasT.kasWp_bind]
 refine qkL O (Array.Perm.refl _) hn fun m p' h1 h2 hp hs=>?_
 show(if m < n then kas_bin (n - max m 1) p' (max m 1) else KasT.ret p').kasWp (cmpP n lt) G s
 have e:max m 1=m:=by omega
 rw[e]
 by_cases h:m < n
 ·rw[if_pos h]
  exact qkO O hG (n - m) p' m (by omega) hp hs
 ·rw[if_neg h]
  have:m=n:=by omega
  subst this
  exact hG p' hp hs
end
theorem qiw{α:Type}{n:Nat}{lt:Nat->Nat->Bool}{c:Nat->Nat->(Bool->Shared->Prop)->Shared->Prop}{s:Shared}(hc:∀ i j C,i < n->j < n->i≠j->C (lt i j) s->c i j C s){Q:α->Shared->Prop}:∀ (t:KasT α),t.kasWp (cmpP n lt) Q s->t.kasWp c Q s
 | .ret a,h=>h
 | .ask i j k,h=>by
  obtain⟨h1,h2,h3,h4⟩:=(show i < n/\j < n/\i≠j/\(k (lt i j)).kasWp (cmpP n lt) Q s from h)
  exact hc i j _ h1 h2 h3 (qiw hc (k (lt i j)) h4)
end My
namespace My
open PySem PySem.Spec PyProof.Rows PySem.W
section
variable {prog:zai}{w:World}{A:Around}{E:Value->Shared->Prop}{s:Shared}{it d:Addr}{i ep:Nat}{od:Obj}{es:Array zbo}
noncomputable def RawD(h:Heap)(d:Addr)(es:Array zbo)(ep:Nat):Prop:=∃ o,h.get? d=some o/\o.ExactDict/\o.data=.dict es ep
theorem RawD.at'{h h':Heap}(x:RawD h d es ep)(k:∀ o,h.get? d=some o->h'.get? d=some o):RawD h' d es ep:=let ⟨o,a,b⟩:=x; ⟨o,k o a,b⟩
theorem RawD.typ(x:RawD s.heap d es ep):s.TypeIs (.ref d) "dict" := let ⟨o,a,b,_⟩:=x; ⟨o,a,b.1⟩
theorem qgZ{Q:Value->Shared->Prop}(hd:(d == za9)=false)(hm:RawD s.heap d es ep)
  (hQ:Q (.ref s.heap.objs.size) { s with heap:=s.heap.push { cls:=.type "dict_keyiterator",data:=.fields #[.ref d,.int 0 0,.int es.size 0,.int ep 0] } }):wpAny (model prog w) A (pyIter (.ref d)) Q E s:=by
 have tt:=hm.typ
 obtain⟨o,g1,g2,g3⟩:=hm
 refine wpAny_pyIter_slot tt PySem.F.slot_dict_iter (zbd PySem.F.slot_dict_iter tt PySem.F.entry_dict_iter ?_ (PySem.F.args_dict_iter_1 _)); unfold Builtin.«dict.__iter__»
 refine zaa ?_; unfold Builtin.Dict.dictSlotNone
 refine zaa (wpAny_notOrdered_dict tt ?_); show wpAny _ _ (pure (zaj d)) _ _ s; refine zab ?_
 show wpAny _ _ (zck d >>= _) _ _ s; unfold zck; rw[if_neg (by rw[hd]; exact zax)]
 refine zaa (zab (zaa (zbM g1 g3 (zaa (zb7 g1 g3 ?_)))))
 refine zaa (zbe (zab ⟨_,rfl, "dict_keyiterator",_,⟨_,zay _ rfl,rfl⟩,PySem.F.slot_dict_keyiterator_next.lookup,?_⟩)); simpa[rawInt] using hQ
theorem qgm{Q:Option Value->Shared->Prop}(hit:s.heap.IsKeyIter it d i es.size ep)(hm:RawD s.heap d es ep)(hx:i < es.size)
  (hQ:∀ h',h'.IsKeyIter it d (i + 1) es.size ep->za3 it s.heap h'->Q (some es[i].key) { s with heap:=h' }):wpAny (model prog w) A (pyNext (.ref it)) Q E s:=by
 have tt:=hit.typeIs
 obtain⟨o,ho,hc,hd⟩:=id hit; obtain⟨od,g1,g2,g3⟩:=hm
 unfold pyNext; refine zaa (wpAny_attempt (zbJ (name:=za5 "__next__") tt zct (zbd zct tt PySem.F.entry_dict_keyiterator_next ?_ (PySem.F.args_dict_keyiterator_next_1 _))))
 refine zaa (zab (zaa (zaa ?_)))
 first | refine zaa (zcu tt (zab ?_)) | refine zaa (wpAny_typeNameOf_keyiter tt (zab ?_))
 refine zaa (wpAny_fieldsOf ho hd ?_); simp only[show zcl "dict_keyiterator" = false by decide,zbj,if_false]
 show wpAny _ _ (if (zaj d == zar)=true then _ else _) _ _ s; rw[if_neg (show ¬ ((zaj d == zar)=true) from zax)]
 refine zaa (zab (zaa (zbM g1 g3 ?_))); rw[if_neg (by simp)]
 refine zaa (zab (zaa (zb7 g1 g3 ?_))); rw[if_neg (by simp)]
 refine zab ?_; simp only[show ¬ ((i:Int) < 0) from by omega,if_false,zb8,Array.getElem?_eq_getElem hx]
 refine zaa ?_; first | refine zaa (zcu tt (zab ?_)) | refine zaa (wpAny_typeNameOf_keyiter tt (zab ?_))
 refine zaa (wpAny_isOneOf_keyiter tt ?_); show wpAny _ _ (setField (.ref it) 1 (rawInt ((i:Int) + 1)) >>= _) _ _ s
 refine zaa (wpAny_setField ho hd (by simp) ?_)
 have nx:(s.heap.update it (Obj.mapFields (·.setIfInBounds 1 (rawInt ((i:Int) + 1))))).IsKeyIter it d (i + 1) es.size ep:=⟨_,zbK _ ho (Obj.isFreed_of_fields (Obj.data_mapFields hd _)),(Obj.cls_mapFields ..).trans hc,by rw[Obj.data_mapFields hd]; simp[rawInt]⟩
 refine zaa (zba (zaa (wpAny_isOneOf_keyiter (s:={ s with heap:=s.heap.update it (Obj.mapFields (·.setIfInBounds 1 (rawInt ((i:Int) + 1)))) }) nx.typeIs ?_)))
 show wpAny _ _ (pure es[i].key) _ _ _; exact zab (zab ⟨_,rfl,zab (hQ _ nx (zbN ..))⟩)
theorem qiQ{Q:Option Value->Shared->Prop}(hh:A.handled=none)(hit:s.heap.IsKeyIter it d i es.size ep)(hm:RawD s.heap d es ep)(hx:es.size<=i)
  (hQ:∀ h',Heap.ExtBut it s.heap h'->Q none { s with heap:=h' }):wpAny (model prog w) A (pyNext (.ref it)) Q E s:=by
 have tt:=hit.typeIs
 obtain⟨o,ho,hc,hd⟩:=id hit; obtain⟨od,g1,g2,g3⟩:=hm
 unfold pyNext; refine zaa (wpAny_attempt (zbJ (name:=za5 "__next__") tt zct (zbd zct tt PySem.F.entry_dict_keyiterator_next ?_ (PySem.F.args_dict_keyiterator_next_1 _))))
 refine zaa (zab (zaa (zaa ?_)))
 first | refine zaa (zcu tt (zab ?_)) | refine zaa (wpAny_typeNameOf_keyiter tt (zab ?_))
 refine zaa (wpAny_fieldsOf ho hd ?_); simp only[show zcl "dict_keyiterator" = false by decide,zbj,if_false]
 show wpAny _ _ (if (zaj d == zar)=true then _ else _) _ _ s; rw[if_neg (show ¬ ((zaj d == zar)=true) from zax)]
 refine zaa (zab (zaa (zbM g1 g3 ?_))); rw[if_neg (by simp)]
 refine zaa (zab (zaa (zb7 g1 g3 ?_))); rw[if_neg (by simp)]
 refine zab ?_; simp only[show ¬ ((i:Int) < 0) from by omega,if_false,zb8,Array.getElem?_eq_none hx]
 refine zaa ?_; first | refine zaa (zcu tt (zab ?_)) | refine zaa (wpAny_typeNameOf_keyiter tt (zab ?_))
 show wpAny _ _ (setField (.ref it) 0 .none >>= _) _ _ s; refine zaa (wpAny_setField ho hd (by simp) ?_)
 show wpAny _ _ (newExc (.type "StopIteration") [] >>= _) _ _ _; refine zaa ?_; simp only[newExc,newTuple]
 refine zaa (zbe ?_ (by size_fits)); refine zaa (m:=firstArgMember _ _) (wpAny_of_eq (a:=zar) (by first | rfl | (simp only[firstArgMember]; rfl)) ?_)
 refine zbe ?_ (by size_fits); simp only[raiseNew]
 refine zaa (wpAny_handled ?_); rw[show A.in1.handled=none from hh]
 refine zaa (zab (wpAny_throw ?_)); refine zaa (wpAny_isInstance (T := "StopIteration") (b:=true) ⟨_,zay _ rfl,rfl⟩ isSubtype_stop ?_)
 exact zab (hQ _ (((zbN ..).extBut.push _).push _))
theorem qid(hh:A.handled=none)(I d:Addr)(hne:d≠I)(es:Array zbo)(ep:Nat) :
  Walks prog w A I [I,d] [I] es.size (fun i v=>∃ e,es[i]?=some e/\e.key=v) (fun i h=>h.IsKeyIter I d i es.size ep/\RawD h d es ep) where
 sub:=fun b hb=>by simp at hb; simp[hb]
 frame:=fun _ _ _ st hk=>⟨st.1.at fun o e=>hk I (by simp) o e,st.2.at' fun o e=>hk d (by simp) o e⟩
 item:=fun i s Q E hi st hQ=>qgm st.1 st.2 hi fun h' a b=>hQ es[i].key h' s.toks ⟨es[i],by simp[hi],rfl⟩ ⟨a,st.2.at' fun o e=>b.extBut d o hne e⟩ fun c o hb e=>b.extBut c o (fun h=>hb (by simp[h])) e
 done:=fun s Q E st hQ=>qiQ hh st.1 st.2 (zae _) fun h' he'=>hQ h' s.toks fun b o hb e=>he' b o (fun h=>hb (by simp[h])) e
 self:=fun _ _ _ _ st hQ=>wpAny_pyIter_keyiter st.1 hQ
theorem qjU(lo:(d == za9)=false)(es:Array zbo)(ep:Nat):KdlSrc prog w "dict" d d es.size (fun i v=>∃ e,es[i]?=some e/\e.key=v) (fun h=>RawD h d es ep) where
 type:=fun s h=>h.typ
 there:=fun h x=>by
  obtain⟨o,e,_⟩:=x
  exact⟨zag e,zag e⟩
 keep:=fun h h' x k=>x.at' fun o e=>k d (.inl rfl) o e
 notList:=by decide
 notTuple:=by decide
 hint:=fun A E s Q h q=>kdl_hint_dict h.typ q
 iter:=fun A s hh ok=>by
  have hlt:d < s.heap.objs.size:=by
   obtain⟨o,e,_⟩:=ok
   exact zag e
  exact⟨_,_,fun E Q q=>qgZ lo ok q,qid hh _ d (zaA hlt) es ep,⟨_,zay _ rfl,rfl,rfl⟩,ok.at' fun o e=>zah _ e⟩
noncomputable def ItI(h:Heap)(it d:Addr)(i n ep:Nat)(own fl:Value)(ok ov:Value):Prop:=
 h.get? it=some { cls:=.type "dict_itemiterator",dict:=none,data:=.fields #[own,fl,.ref d,.int i 0,.int n 0,.int ep 0,ok,ov],slots:=#[] }
noncomputable def ItSt(h:Heap)(it d S:Addr)(i n ep:Nat):Prop:=
 (i=0/\∃ ok ov,ItI h it d i n ep .none (.bool false) ok ov)\/∃ ok ov a f oa,ItI h it d i n ep (rawInt (a:Nat)) (.bool f) ok ov/\h.get? a=some oa/\a≠it/\a≠S
theorem qfA{own fl ok ov:Value}{Q:Option Value->Shared->Prop}(hit:ItI s.heap it d i es.size ep own fl ok ov)(hm:RawD s.heap d es ep)(hx:i < es.size)
  (hQ : ∀ h1 : Heap, ItI h1 it d (i + 1) es.size ep own fl ok ov -> za3 it s.heap h1 ->
   wpAny (model prog w) A.in1 (zcv (.ref it) 6 es[i].key es[i].val) (fun v s'=>Q (some v) s') (fun _ _=>False) { s with heap:=h1 }):wpAny (model prog w) A (pyNext (.ref it)) Q E s:=by
 obtain⟨od,g1,g2,g3⟩:=hm
 have tt:s.TypeIs (.ref it) "dict_itemiterator" := ⟨_,hit,rfl⟩
 unfold pyNext; refine zaa (wpAny_attempt (zbJ (name:=za5 "__next__") tt zcw (zbd zcw tt PySem.F.entry_dict_itemiterator_next ?_ (PySem.F.args_dict_itemiterator_next_1 _))))
 refine zaa (zab (zaa (zaa ?_)))
 first | refine zaa (zcx tt (zab ?_)) | refine zaa (wpAny_typeNameOf_itemiter tt (zab ?_))
 refine zaa (wpAny_fieldsOf hit rfl ?_); simp only[show zcl "dict_itemiterator" = true by decide,if_true]
 show wpAny _ _ (if (zaj d == zar)=true then _ else _) _ _ s; rw[if_neg (show ¬ ((zaj d == zar)=true) from zax)]
 refine zaa (zab (zaa (zbM g1 g3 ?_))); rw[if_neg (by simp)]
 refine zaa (zab (zaa (zb7 g1 g3 ?_))); rw[if_neg (by simp)]
 refine zab ?_; simp only[show ¬ ((i:Int) < 0) from by omega,if_false,zb8,Array.getElem?_eq_getElem hx]
 refine zaa ?_; first | refine zaa (zcx tt (zab ?_)) | refine zaa (wpAny_typeNameOf_itemiter tt (zab ?_))
 refine zaa (wpAny_isOneOf_itemiter tt ?_); show wpAny _ _ (setField (.ref it) 3 (rawInt ((i:Int) + 1)) >>= _) _ _ s
 refine zaa (zbv hit (by simp) fun h1 k1 k2=>?_)
 have k3:ItI h1 it d (i + 1) es.size ep own fl ok ov:=by
  have e:((i + 1:Nat):Int)=(i:Int) + 1:=by omega
  unfold ItI; rw[e]; simpa[rawInt] using k1
 have t1:Shared.TypeIs { s with heap:=h1 } (.ref it) "dict_itemiterator" := ⟨_,k3,rfl⟩
 refine zaa (zba (zaa (wpAny_isOneOf_itemiter t1 ?_))); refine zaa (wpAny_isOneOf_itemiter t1 ?_)
 show wpAny _ _ (zcv (.ref it) 6 es[i].key es[i].val) _ _ { s with heap:=h1 }
 exact za0 (hQ h1 k3 k2) (fun v s' q=>zab ⟨_,rfl,zab q⟩) fun _ _ z=>z.elim
theorem qiW{S:Addr}{Q:Option Value->Shared->Prop}(hst:ItSt s.heap it d S i es.size ep)(hS:S < s.heap.objs.size)(hm:RawD s.heap d es ep)(hx:i < es.size)
  (hQ : ∀ h', ItSt h' it d S (i + 1) es.size ep -> h'.get? s.heap.objs.size = some { cls := .type "tuple", data := .seq #[es[i].key, es[i].val] } -> h'.objs.size = s.heap.objs.size + 1 ->
   (∀ b o,b≠it->s.heap.get? b=some o->h'.get? b=some o)->Q (some (.ref s.heap.objs.size)) { s with heap:=h' }):wpAny (model prog w) A (pyNext (.ref it)) Q E s:=by
 have hil:it < s.heap.objs.size:=by
  rcases hst with⟨_,ok,ov,hit⟩ | ⟨ok,ov,a,f,oa,hit,_⟩ <;> exact zag hit
 rcases hst with⟨_,ok,ov,hit⟩ | ⟨ok,ov,a,f,oa,hit,ha,hai,haS⟩
 ·refine qfA hit hm hx fun h1 k1 k2=>?_
  have z1:h1.objs.size=s.heap.objs.size:=k2.1
  unfold zcv; refine zaa (wpAny_newTuple ?_)
  have m1:ItI (h1.push { cls:=.type "tuple",data:=.seq #[es[i].key,es[i].val] }) it d (i + 1) es.size ep .none (.bool false) ok ov:=zah _ k1
  have m2:(h1.push { cls:=.type "tuple",data:=.seq #[es[i].key,es[i].val] }).get? s.heap.objs.size=some { cls:=.type "tuple",data:=.seq #[es[i].key,es[i].val] }:=by rw[<- z1]; exact zay _ rfl
  have m3:(h1.push { cls:=.type "tuple",data:=.seq #[es[i].key,es[i].val] }).objs.size=s.heap.objs.size + 1:=by rw[zbV,z1]
  have m4:∀ b o,b≠it->s.heap.get? b=some o->(h1.push { cls:=.type "tuple",data:=.seq #[es[i].key,es[i].val] }).get? b=some o:=fun b o hb e=>zah _ (k2.extBut b o hb e)
  show wpAny _ _ (zcy (.ref it) >>= _) _ _ { s with heap:=h1.push { cls:=.type "tuple",data:=.seq #[es[i].key,es[i].val] } }
  dsimp only; rw[z1]
  generalize h1.push { cls:=.type "tuple",data:=.seq #[es[i].key,es[i].val] }=h2 at *
  refine zaa ?_; unfold zcy; refine zaa (zaX m1 rfl (x:=.none) rfl (zab ?_)); simp only[if_true]
  refine zaa (zaX m1 rfl (x:=ok) rfl (zaa (zaX m1 rfl (x:=ov) rfl ?_)))
  refine zaa (zbv m1 (by simp) fun h3 e3 s3=>?_)
  have e3':ItI h3 it d (i + 1) es.size ep .none (.bool false) es[i].key ov:=e3
  refine zaa (zbv e3' (by simp) fun h4 e4 s4=>?_)
  have e4':ItI h4 it d (i + 1) es.size ep .none (.bool false) es[i].key es[i].val:=e4
  refine zaa (zbv e4' (by simp) fun h5 e5 s5=>?_)
  have e5':ItI h5 it d (i + 1) es.size ep (rawInt (s.heap.objs.size:Nat)) (.bool false) es[i].key es[i].val:=e5
  refine zaa (zbv e5' (by simp) fun h6 e6 s6=>?_)
  have e6':ItI h6 it d (i + 1) es.size ep (rawInt (s.heap.objs.size:Nat)) (.bool false) es[i].key es[i].val:=e6
  have ex:∀ b o,b≠it->h2.get? b=some o->h6.get? b=some o:=fun b o hb e=>(show za3 it h5 h6 from s6).extBut b o hb ((show za3 it h4 h5 from s5).extBut b o hb ((show za3 it h3 h4 from s4).extBut b o hb ((show za3 it h2 h3 from s3).extBut b o hb e)))
  have sz:h6.objs.size=s.heap.objs.size + 1:=by
   rw[(show za3 it h5 h6 from s6).1,(show za3 it h4 h5 from s5).1,(show za3 it h3 h4 from s4).1,(show za3 it h2 h3 from s3).1,m3]
  exact zaa (wpAny_letGo (zab (hQ h6 (.inr ⟨_,_,_,false,_,e6',ex _ _ (zaO hil) m2,zaO hil,zaO hS⟩) (ex _ _ (zaO hil) m2) sz fun b o hb e=>ex b o hb (m4 b o hb e))))
 ·refine qfA hit hm hx fun h1 k1 k2=>?_
  have z1:h1.objs.size=s.heap.objs.size:=k2.1
  unfold zcv; refine zaa (wpAny_newTuple ?_)
  have m1:ItI (h1.push { cls:=.type "tuple",data:=.seq #[es[i].key,es[i].val] }) it d (i + 1) es.size ep (rawInt (a:Nat)) (.bool f) ok ov:=zah _ k1
  have m2:(h1.push { cls:=.type "tuple",data:=.seq #[es[i].key,es[i].val] }).get? s.heap.objs.size=some { cls:=.type "tuple",data:=.seq #[es[i].key,es[i].val] }:=by rw[<- z1]; exact zay _ rfl
  have m3:(h1.push { cls:=.type "tuple",data:=.seq #[es[i].key,es[i].val] }).objs.size=s.heap.objs.size + 1:=by rw[zbV,z1]
  have m4:∀ b o,b≠it->s.heap.get? b=some o->(h1.push { cls:=.type "tuple",data:=.seq #[es[i].key,es[i].val] }).get? b=some o:=fun b o hb e=>zah _ (k2.extBut b o hb e)
  show wpAny _ _ (zcy (.ref it) >>= _) _ _ { s with heap:=h1.push { cls:=.type "tuple",data:=.seq #[es[i].key,es[i].val] } }
  dsimp only; rw[z1]
  generalize h1.push { cls:=.type "tuple",data:=.seq #[es[i].key,es[i].val] }=h2 at *
  refine zaa ?_; unfold zcy; refine zaa (zaX m1 rfl (x:=rawInt (a:Nat)) rfl ?_)
  show wpAny _ _ (loadIfAlive ((a:Int).toNat) >>= _) _ _ _; rw[zb8]
  refine zaa (kdx_alive (m4 a oa hai ha) ?_); simp only[Option.isNone_some,zbj,if_false]
  refine zaa (zaX m1 rfl (x:=.bool f) rfl ?_)
  have fin:∀ h3:Heap,ItI h3 it d (i + 1) es.size ep (rawInt (a:Nat)) (.bool true) ok ov->za3 it h2 h3->Q (some (.ref s.heap.objs.size)) { s with heap:=h3 }:=fun h3 e3 s3=>
   hQ h3 (.inr ⟨_,_,a,true,oa,e3,s3.extBut a oa hai (m4 a oa hai ha),hai,haS⟩) (s3.extBut _ _ (zaO hil) m2) (by rw[s3.1,m3]) fun b o hb e=>s3.extBut b o hb (m4 b o hb e)
  cases f with
  | true=>
   rw[if_neg (show ¬ ((Value.bool true != Value.bool true)=true) from zax)]; refine zab ?_
   simp only[zbj,if_false]; exact zab (fin h2 m1 (Heap.SameBut.refl _ _))
  | false=>
   rw[if_pos (show(Value.bool false != Value.bool true)=true from rfl)]; refine zaa (zbv m1 (by simp) fun h3 e3 s3=>?_)
   refine zab ?_; simp only[zbj,if_false]; exact zab (fin h3 e3 s3)
theorem qgM{own fl ok ov:Value}{Q:Option Value->Shared->Prop}(hh:A.handled=none)(hit:ItI s.heap it d i es.size ep own fl ok ov)(hm:RawD s.heap d es ep)(hx:es.size<=i)
  (hQ:∀ h',Heap.ExtBut it s.heap h'->Q none { s with heap:=h' }):wpAny (model prog w) A (pyNext (.ref it)) Q E s:=by
 obtain⟨od,g1,g2,g3⟩:=hm
 have tt:s.TypeIs (.ref it) "dict_itemiterator" := ⟨_,hit,rfl⟩
 unfold pyNext; refine zaa (wpAny_attempt (zbJ (name:=za5 "__next__") tt zcw (zbd zcw tt PySem.F.entry_dict_itemiterator_next ?_ (PySem.F.args_dict_itemiterator_next_1 _))))
 refine zaa (zab (zaa (zaa ?_)))
 first | refine zaa (zcx tt (zab ?_)) | refine zaa (wpAny_typeNameOf_itemiter tt (zab ?_))
 refine zaa (wpAny_fieldsOf hit rfl ?_); simp only[show zcl "dict_itemiterator" = true by decide,if_true]
 show wpAny _ _ (if (zaj d == zar)=true then _ else _) _ _ s; rw[if_neg (show ¬ ((zaj d == zar)=true) from zax)]
 refine zaa (zab (zaa (zbM g1 g3 ?_))); rw[if_neg (by simp)]
 refine zaa (zab (zaa (zb7 g1 g3 ?_))); rw[if_neg (by simp)]
 refine zab ?_; simp only[show ¬ ((i:Int) < 0) from by omega,if_false,zb8,Array.getElem?_eq_none hx]
 refine zaa ?_; first | refine zaa (zcx tt (zab ?_)) | refine zaa (wpAny_typeNameOf_itemiter tt (zab ?_))
 show wpAny _ _ (setField (.ref it) 2 .none >>= _) _ _ s; refine zaa (wpAny_setField hit rfl (by simp) ?_)
 show wpAny _ _ (newExc (.type "StopIteration") [] >>= _) _ _ _; refine zaa ?_; simp only[newExc,newTuple]
 refine zaa (zbe ?_ (by size_fits)); refine zaa (m:=firstArgMember _ _) (wpAny_of_eq (a:=zar) (by first | rfl | (simp only[firstArgMember]; rfl)) ?_)
 refine zbe ?_ (by size_fits); simp only[raiseNew]
 refine zaa (wpAny_handled ?_); rw[show A.in1.handled=none from hh]
 refine zaa (zab (wpAny_throw ?_)); refine zaa (wpAny_isInstance (T := "StopIteration") (b:=true) ⟨_,zay _ rfl,rfl⟩ isSubtype_stop ?_)
 exact zab (hQ _ (((zbN ..).extBut.push _).push _))
theorem ItSt.keep{h h':Heap}{S:Addr}{n:Nat}(x:ItSt h it d S i n ep)(hk:∀ b o,b≠S->h.get? b=some o->h'.get? b=some o)(hI:it≠S):ItSt h' it d S i n ep:=by
 rcases x with⟨e,ok,ov,hit⟩ | ⟨ok,ov,a,f,oa,hit,ha,hai,haS⟩
 ·exact .inl ⟨e,ok,ov,hk _ _ hI hit⟩
 ·exact .inr ⟨ok,ov,a,f,oa,hk _ _ hI hit,hk _ _ haS ha,hai,haS⟩
structure Made(es:Array zbo)(lo:Addr)(h:Heap)(as:List Addr):Prop where
 above:∀ a∈as,lo < a
 pair:∀ (j:Nat) (a:Addr),as[j]?=some a->∃ e,es[j]?=some e/\h.get? a=some { cls:=.type "tuple",data:=.seq #[e.key,e.val] }
end
section
variable {prog:zai}{w:World}{A:Around}{s:Shared}{R:Result->Shared->Prop}{es:Array zbo}{ep:Nat}
theorem qiy{S I d:Addr}(hh:A.handled=none)(hSI:S < I)(hSd:d≠S)(hId:d≠I)(hn:es.size<=zal)(res:Value){h0:Heap}
  (hR:∀ h' tk acc c as,(∀ b o,b≠S->b≠I->h0.get? b=some o->h'.get? b=some o)->h'.get? S=some { cls:=.type "list",dict:=none,data:=.seq acc c,slots:=#[] }->as.length=es.size->Made es I h' as->acc.toList=as.map zaj->R (.ok (.ret res)) { s with heap:=h',toks:=tk }) :
  ∀ (k i:Nat) (h:Heap) (tk c:Nat) (acc:Array Value) (as:List Addr),es.size - i=k->i<=es.size->ItSt h I d S i es.size ep->RawD h d es ep->(∀ b o,b≠S->b≠I->h0.get? b=some o->h.get? b=some o)->
   h.get? S=some { cls:=.type "list",dict:=none,data:=.seq acc c,slots:=#[] }->acc.toList=as.map zaj->as.length=i->Made es I h as->I < h.objs.size->
   codeAny (model prog w) A (.builtin "list.extend.loop" ⟨[.ref S,.ref I,res],[]⟩) R { s with heap:=h,toks:=tk }:=by
 have hne:S≠I:=zaA hSI
 intro k
 induction k with
 | zero=>
  intro i h tk c acc as hk hi hst hD hkeep hS hacc hal hG hIs
  have hin:es.size<=i:=by omega
  refine zbW PySem.F.entry_extend_loop ?_; rw[zbX zcm _]
  show wpAny _ A.in1 (pyNext (.ref I) >>= _) _ _ _
  have fin:∀ h',Heap.ExtBut I h h'->R (.ok (.ret res)) { s with heap:=h',toks:=tk }:=fun h' he=>by
   refine hR h' tk acc c as (fun b o h1 h2 e=>he b o h2 (hkeep b o h1 h2 e)) (he S _ hne hS) (by omega) ⟨hG.above,fun j a hj=>?_⟩ hacc
   obtain⟨e,e1,e2⟩:=hG.pair j a hj
   exact⟨e,e1,he a _ (zaO (hG.above a (za4 hj))) e2⟩
  rcases hst with⟨_,ok,ov,hit⟩ | ⟨ok,ov,a,f,oa,hit,_⟩
  ·exact zaa (qgM (s:={ s with heap:=h,toks:=tk }) (A:=A.in1) hh hit hD hin fun h' he=>zab (fin h' he))
  ·exact zaa (qgM (s:={ s with heap:=h,toks:=tk }) (A:=A.in1) hh hit hD hin fun h' he=>zab (fin h' he))
 | succ k ih=>
  intro i h tk c acc as hk hi hst hD hkeep hS hacc hal hG hIs
  have hlt:i < es.size:=by omega
  have hsz:acc.size=i:=by rw[<- zaN,hacc,zaq,hal]
  refine zbW PySem.F.entry_extend_loop ?_; rw[zbX zcm _]
  show wpAny _ A.in1 (pyNext (.ref I) >>= _) _ _ _
  refine zaa (qiW (s:={ s with heap:=h,toks:=tk }) (S:=S) hst (zag hS) hD hlt fun h' hst' ht hz hkp=>?_)
  dsimp only at ht hz hkp ⊢
  have hS':=hkp S _ hne hS
  have hSl:S < h.objs.size:=zag hS
  have up:∀ b o,b≠S->h'.get? b=some o->(h'.update S (zaI (·.push (zaj h.objs.size)))).get? b=some o:=fun b o hb e=>(zbC _ _ (zaK hb)).trans e
  show wpAny _ A.in1 (updateSeq S (·.push (zaj h.objs.size)) >>= _) _ _ _
  refine zaa (zb9 hS' rfl ?_ (by rw[hsz]; omega) (by show(acc.push (zaj h.objs.size)).size<=zal + 1; rw[Array.size_push,hsz]; omega))
  refine zab ⟨zbE zcm _,ih (i + 1) _ tk _ (acc.push (zaj h.objs.size)) (as ++ [h.objs.size]) (by omega) hlt (hst'.keep up (zaK hne)) (hD.at' fun o e=>up d o hSd (hkp d o hId e)) (fun b o h1 h2 e=>up b o h1 (hkp b o h2 (hkeep b o h1 h2 e))) (zbK _ hS' rfl) (by rw[za7,hacc,List.map_append]; rfl) (by rw[zbA,hal]; rfl) ⟨fun a ha=>?_,fun j b hj=>?_⟩ ?_⟩
  ·rcases List.mem_append.mp ha with ha | ha
   ·exact hG.above a ha
   ·rw[List.mem_singleton.mp ha]; exact hIs
  ·by_cases h1:j < as.length
   ·rw[zcj h1] at hj
    obtain⟨e,e1,e2⟩:=hG.pair j b hj
    have hb:=hG.above b (za4 hj)
    exact⟨e,e1,up b _ (zaO (zbQ hSI hb)) (hkp b _ (zaO hb) e2)⟩
   ·rw[List.getElem?_append_right (by omega)] at hj
    have:j - as.length=0:=by
     by_cases z:j - as.length=0
     ·exact z
     ·rw[List.getElem?_eq_none (by simp only[List.length_singleton]; omega)] at hj; cases hj
    rw[this] at hj
    cases hj
    have e:j=i:=by omega
    subst e
    exact⟨es[j],by simp[hlt],up _ _ (zaO hSl) ht⟩
  ·have e:=up _ _ (zaO hSl) ht
   exact zbQ hIs (zag e)
end
section
variable {prog:zai}{w:World}{A:Around}{E:Value->Shared->Prop}{s:Shared}{r d:Addr}{es:Array zbo}{ep:Nat}
theorem qhR{Q:Value->Shared->Prop}(hv:s.heap.IsItemsView r d)(hm:RawD s.heap d es ep)
  (hQ:Q (.ref s.heap.objs.size) { s with heap:=s.heap.push { cls:=.type "dict_itemiterator",data:=.fields #[.none,.bool false,.ref d,.int 0 0,.int es.size 0,.int ep 0,.none,.none] } }):wpAny (model prog w) A (pyIter (.ref r)) Q E s:=by
 have tt:=hv.typeIs
 obtain⟨ov,v1,v2,v3⟩:=id hv; obtain⟨o,g1,g2,g3⟩:=hm
 refine wpAny_pyIter_slot tt PySem.F.slot_dict_items_iter (zbd PySem.F.slot_dict_items_iter tt PySem.F.entry_dict_items_iter ?_ (PySem.F.args_dict_items_iter_1 _)); unfold Builtin.«dict_items.__iter__»
 refine zaa (zab (zaa ?_)); unfold Builtin.Dict_items.dictOf; refine zaa (zaX v1 v3 (x:=.ref d) rfl (zab ?_))
 refine zaa ?_; unfold Builtin.Dict_items.newIterator
 refine zaa (zbM g1 g3 (zaa (zb7 g1 g3 ?_))); simp only[show zcl "dict_itemiterator" = true by decide,if_true]
 refine zbe (zab ⟨_,rfl, "dict_itemiterator",_,⟨_,zay _ rfl,rfl⟩,PySem.F.slot_dict_itemiterator_next.lookup,?_⟩) (by simp only[sizeOk,Builtin.Dict_items.ownedTupleFields,zat,zbA,zaW,List.length_nil,zbz]; omega)
 simpa[rawInt,Builtin.Dict_items.ownedTupleFields] using hQ
theorem qde{R:Result->Shared->Prop}(hh:A.handled=none)(hv:s.heap.IsItemsView r d)(hm:RawD s.heap d es ep)(S:Addr)(hSr:S≠r)(hSd:d≠S)(res:Value)(c₀:Nat)(hS:s.heap.get? S=some { cls:=.type "list",data:=.seq #[] c₀ })
  (hR:∀ h' tk acc c as,(∀ b o,b≠S->s.heap.get? b=some o->h'.get? b=some o)->h'.get? S=some { cls:=.type "list",dict:=none,data:=.seq acc c,slots:=#[] }->as.length=es.size->Made es s.heap.objs.size h' as->acc.toList=as.map zaj->R (.ok (.ret res)) { s with heap:=h',toks:=tk }) (hn:es.size<=zal) :
  wpAny (model prog w) A.in1 (zcn (.ref S) (.ref r) res)
   (fun fin s'=>match fin with | .done f=>R (.ok f) s' | .again c'=>c'.quiet=true/\codeAny (model prog w) A c' R s') (fun e s'=>R (.error e) s') s:=by
 have hSI:S < s.heap.objs.size:=zag hS
 have hdI:d < s.heap.objs.size:=by
  obtain⟨o,e,_⟩:=hm
  exact zag e
 have key:∀ (h:Heap) (c₁ tk:Nat),(∀ b o,b≠S->(s.heap.push { cls:=.type "dict_itemiterator",data:=.fields #[.none,.bool false,.ref d,.int 0 0,.int es.size 0,.int ep 0,.none,.none] }).get? b=some o->h.get? b=some o)->
   h.get? S=some { cls:=.type "list",data:=.seq #[] c₁ }->codeAny (model prog w) A (.builtin "list.extend.loop" ⟨[.ref S,.ref s.heap.objs.size,res],[]⟩) R { s with heap:=h,toks:=tk }:=by
  intro h c₁ tk hk hS1
  have hI:=hk s.heap.objs.size _ (zaO hSI) (zay _ rfl)
  exact qiy (es:=es) (ep:=ep) (s:=s) (h0:=s.heap) hh hSI hSd (zaA hdI) hn res (fun h' tk' acc c as hk' hS' hl hG hacc=>hR h' tk' acc c as (fun b o hb e=>hk' b o hb (zaA (zag e)) e) hS' hl hG hacc)
   es.size 0 h tk c₁ #[] [] (Nat.sub_zero _) (zau _) (.inl ⟨rfl,.none,.none,hI⟩) (hm.at' fun o e=>hk d o hSd (zah _ e)) (fun b o hb _ e=>hk b o hb (zah _ e)) hS1 rfl rfl ⟨(fun _ ha=>nomatch ha),(fun j a hj=>by simp at hj)⟩ (zag hI)
 unfold zcn; refine zaa (wpAny_typeOf (T := "dict_items") hv.typeIs ?_)
 simp only[show Builtin.List.listSameRef (.ref S) (.ref r)=false by simp[Builtin.List.listSameRef,hSr],show(Value.type "dict_items" == Value.type "list")=false by decide,show(Value.type "dict_items" == Value.type "tuple")=false by decide,Bool.or_false,zbj,if_false]
 refine zaa (qhR hv hm ?_)
 have p1:=zah { cls:=.type "dict_itemiterator",data:=.fields #[.none,.bool false,.ref d,.int 0 0,.int es.size 0,.int ep 0,.none,.none] } hS
 refine zaa (zba (kdx_hint (let ⟨o,ho,hc,_⟩:=hv; ⟨o,zah _ ho,hc⟩) ?_)); refine wpAny_ite_split (fun _=>?_) (fun _=>zab ⟨zbE zcm _,key _ c₀ _ (fun b o _ e=>e) p1⟩)
 refine zaa (zbh (zaa ?_)); show wpAny _ _ (updateSeq S (·.push .none) >>= fun _=>updateSeq S (·.pop)) _ _ _
 refine zaa (zb9 p1 rfl ?_)
 have p2:=zbK (zaI (·.push zar)) p1 rfl
 refine zb9 (hz:=by seq_fits) p2 rfl ?_
 have p3:=zbK (zaI (·.pop)) p2 rfl
 exact zab ⟨zbE zcm _,key _ _ _ (fun b o hb e=>(zbC _ _ (zaK hb)).trans ((zbC _ _ (zaK hb)).trans e)) p3⟩
theorem qfv{R:List Value->Shared->Prop}(hh:A.handled=none)(hv:s.heap.IsItemsView r d)(hm:RawD s.heap d es ep)(hn:es.size<=zal)
  (h:∀ (h':Heap) (tk:Nat) (as:List Addr),(∀ b o,s.heap.get? b=some o->h'.get? b=some o)->as.length=es.size->Made es s.heap.objs.size h' as->R (as.map zaj) { s with heap:=h',toks:=tk }) :
  wpAny (model prog w) A (collect (.ref r)) R E s:=by
 have hr:r < s.heap.objs.size:=let ⟨_,ho,_⟩:=hv; zag ho
 have hd:d < s.heap.objs.size:=let ⟨_,ho,_⟩:=hm; zag ho
 unfold collect; refine zaa (wpAny_runValue (zbW entry_proto_collect' ?_)); rw[zbX PySem.F.plain_proto_collect _]
 show wpAny _ A.in1 (newList [] >>= fun l=>again (.builtin "list.__iadd__" ⟨[l,.ref r],[]⟩)) _ _ s; refine zaa (zbe ?_)
 refine zab ⟨zbE PySem.F.plain_list_iadd _,zbW entry_list_iadd' ?_⟩; rw[zbX PySem.F.plain_list_iadd _]
 have p1:(s.heap.push { cls:=.type "list",data:=.seq ([]:List Value).toArray }).get? s.heap.objs.size=some { cls:=.type "list",data:=.seq #[] }:=zay _ rfl
 show wpAny _ A.in1 (zcn (.ref s.heap.objs.size) (.ref r) (.ref s.heap.objs.size)) _ _ _
 have key:=qde (prog:=prog) (w:=w) (A:=A) (s:={ s with heap:=s.heap.push { cls:=.type "list",data:=.seq ([]:List Value).toArray } }) (es:=es) (ep:=ep)
  (R := fun (q : Result) (s' : Shared) => ∃ (h' : Heap) (tk : Nat) (acc' : Array Value) (c' : Nat) (as : List Addr), q = .ok (.ret (.ref s.heap.objs.size)) /\ s' = { s with heap := h', toks := tk } /\
   (∀ b o,s.heap.get? b=some o->h'.get? b=some o)/\h'.get? s.heap.objs.size=some { cls:=.type "list",dict:=none,data:=.seq acc' c',slots:=#[] }/\as.length=es.size/\Made es s.heap.objs.size h' as/\acc'.toList=as.map zaj)
  hh (let ⟨o,ho,x⟩:=hv; ⟨o,zah _ ho,x⟩) (hm.at' fun o e=>zah _ e) s.heap.objs.size (zaO hr) (zaA hd) (.ref s.heap.objs.size) 0 p1
  (fun h' tk acc' c' as hk hS' hl hG hacc=>⟨h',tk,acc',c',as,rfl,rfl,fun b o e=>hk b o (zaA (zag e)) (zah _ e),hS',hl,⟨fun a ha=>zbL (by show s.heap.objs.size<=(s.heap.push _).objs.size; rw[zbV]; exact Nat.le_succ _) (hG.above a ha),hG.pair⟩,hacc⟩) hn
 refine za0 key (fun fin s' x=>?_) fun e s' x=>?_
 ·cases fin with
  | done f=>
   obtain⟨h',tk,acc',c',as,e,rfl,hk,hS',hl,hG,hacc⟩:=x
   cases e; show wpAny _ A (load s.heap.objs.size >>= _) _ _ _; refine zaa (wpAny_load hS' (zab ?_))
   rw[hacc]; exact h h' tk as hk hl hG
  | again c₁=>
   refine⟨x.1,codeAny_mono x.2 fun q s₂ y=>?_⟩
   obtain⟨h',tk,acc',c',as,e,rfl,hk,hS',hl,hG,hacc⟩:=y
   cases e; show wpAny _ A (load s.heap.objs.size >>= _) _ _ _; refine zaa (wpAny_load hS' (zab ?_))
   rw[hacc]; exact h h' tk as hk hl hG
 ·obtain⟨_,_,_,_,_,z,_⟩:=x
  cases z
end
structure Rk(prog:zai)(w:World)(A:Around)(s:Shared)(κ:SortKind)(a0:Array Keyed)(r:Keyed->Nat):Prop where
 ask:∀ x y,x∈a0.toList->y∈a0.toList->r x≠r y->∀ (Q:Bool->Shared->Prop),Q (decide (r x < r y)) s->wpAny (model prog w) A (keyLt' κ x.1 y.1) Q (fun _ _=>False) s
 nd:(a0.toList.map r).Nodup
noncomputable def rkA(r:Keyed->Nat)(xs:Array Keyed)(i:Nat):Nat:=r (xs.getD i (zar,zar))
structure SB(κ:SortKind)(a0:Array Keyed)(st:SortSt):Prop where
 perm:(arrOf st).Perm a0
 kind:kindOf st=κ
 fail:zaR st=none
noncomputable def Sd(r:Keyed->Nat)(xs:Array Keyed)(lo hi:Nat):Prop:=∀ i j,lo<=i->i < j->j < hi->rkA r xs i < rkA r xs j
section
variable {prog:zai}{w:World}{A:Around}{E:Value->Shared->Prop}{s:Shared}{κ:SortKind}{a0:Array Keyed}{r:Keyed->Nat}
theorem SB.size{st:SortSt}(h:SB κ a0 st):(arrOf st).size=a0.size:=h.perm.size_eq
theorem SB.set{st:SortSt}(h:SB κ a0 st){xs:Array Keyed}(hp:xs.Perm (arrOf st)):SB κ a0 (setArr st xs):=⟨hp.trans h.perm,h.kind,h.fail⟩
theorem getD_at{xs:Array Keyed}{i:Nat}(h:i < xs.size):xs.getD i (zar,zar)=xs[i]:=by simp[Array.getD,h]
theorem qbz{xs:Array Keyed}(hp:xs.Perm a0){i:Nat}(h:i < xs.size):xs.getD i (zar,zar)∈a0.toList:=by
 rw[getD_at h]
 exact(Array.perm_iff_toList_perm.mp hp).mem_iff.mp (by simp)
theorem qhM{xs:Array Keyed}(R:Rk prog w A s κ a0 r)(hp:xs.Perm a0){i j:Nat}(hi:i < xs.size)(hj:j < xs.size)(n:i≠j):rkA r xs i≠rkA r xs j:=by
 have nd:(xs.toList.map r).Nodup:=((Array.perm_iff_toList_perm.mp hp).map r).nodup_iff.mpr R.nd
 unfold rkA
 rw[getD_at hi,getD_at hj]
 intro e
 have hi':i < (xs.toList.map r).length:=by simpa using hi
 have hj':j < (xs.toList.map r).length:=by simpa using hj
 exact n ((zbO nd).mp (show(xs.toList.map r)[i]=(xs.toList.map r)[j] by simpa using e))
theorem qjv{st:SortSt}{x y:Keyed}{Q:Option Bool->SortSt->Prop}(R:Rk prog w A s κ a0 r)(hk:kindOf st=κ)(hx:x∈a0.toList)(hy:y∈a0.toList)(n:r x≠r y)(h:Q (some (decide (r x < r y))) st):wpS (model prog w) A E s (lt' x y) Q st:=by
 rw[lt'_eq]
 refine zac (wpS_get ?_)
 rw[hk]
 refine zac (wpS_lift (wpAny_attempt (za0 (R.ask x y hx hy n (fun b s'=>s'=s/\b=decide (r x < r y)) ⟨rfl,rfl⟩) (fun b s' hb=>?_) fun _ _ z=>z.elim)))
 obtain⟨rfl,rfl⟩:=hb
 exact⟨rfl,zak h⟩
theorem qY{st:SortSt}{xs:Array Keyed}{i:Nat}{Q:Keyed->SortSt->Prop}(hi:i < xs.size)(h:Q (xs.getD i (zar,zar)) st):wpS (model prog w) A E s (elem' xs i) Q st:=by
 rw[elem'_eq,getElem?_pos xs i hi]
 rw[getD_at hi] at h
 exact zak h
theorem qcA{st:SortSt}{i j:Nat}{Q:Option Bool->SortSt->Prop}(R:Rk prog w A s κ a0 r)(B:SB κ a0 st)(hi:i < a0.size)(hj:j < a0.size)(n:i≠j)(h:Q (some (decide (rkA r (arrOf st) i < rkA r (arrOf st) j))) st):wpS (model prog w) A E s (ltAt' i j) Q st:=by
 rw[<- B.size] at hi hj
 rw[ltAt'_eq]
 refine zac (wpS_get ?_)
 show wpS _ _ _ _ (do let x <- elem' (arrOf st) i; let y <- elem' (arrOf st) j; lt' x y) Q st
 exact zac (qY hi (zac (qY hj (qjv R B.kind (qbz B.perm hi) (qbz B.perm hj) (qhM R B.perm hi hj n) h))))
theorem qbq{xs ys:Array Keyed}{i j:Nat}(h:xs[i]?=ys[j]?):rkA r xs i=rkA r ys j:=by
 unfold rkA
 rw[zcc,zcc,h]
noncomputable def Low(lo:Nat)(xs ys:Array Keyed):Prop:=∀ i,i < lo->ys[i]?=xs[i]?
theorem Low.sd{lo b:Nat}{xs ys:Array Keyed}(h:Low lo xs ys)(hb:b<=lo)(hs:Sd r xs 0 b):Sd r ys 0 b:=fun i j h1 h2 h3=>by
 rw[qbq (h i (by omega)),qbq (h j (by omega))]
 exact hs i j h1 h2 h3
structure SC(st st':SortSt)(lo:Nat):Prop where
 low:Low lo (arrOf st) (arrOf st')
 pend:zaB st'=zaB st
 gal:gallopOf st'=gallopOf st
theorem SC.refl{st:SortSt}{lo:Nat}:SC st st lo:=⟨fun _ _=>rfl,rfl,rfl⟩
theorem qdw{st:SortSt}{lo nrem:Nat}{Q:Option Nat->SortSt->Prop}(R:Rk prog w A s κ a0 r)(B:SB κ a0 st)(h1:1<=nrem)(hn:lo + nrem<=a0.size)
  (h:∀ m st',SB κ a0 st'->SC st st' lo->1<=m->m<=nrem->Sd r (arrOf st') lo (lo + m)->Q (some m) st'):wpS (model prog w) A E s (countRun' lo nrem) Q st:=by
 have sz:=B.size
 rw[countRun'_eq]
 refine zac (zaT (za8 (I:=fun x c st'=>st'=st/\c=(none,x)/\x<=nrem/\Sd r (arrOf st) lo (lo + x))
  (Q:=fun c st'=>st'=st/\∃ n,c=(none,n)/\1<=n/\n<=nrem/\Sd r (arrOf st) lo (lo + n)/\(n < nrem->rkA r (arrOf st) (lo + n) < rkA r (arrOf st) (lo + n - 1))) ?s1 ?f1 ⟨rfl,rfl,h1,fun i j a b c=>by omega⟩) ?p1)
 case f1=>
  rintro c st' ⟨rfl,rfl,hx,hs⟩
  exact⟨rfl,_,rfl,by omega,hx,hs,fun z=>by omega⟩
 case s1=>
  rintro x c st' hx1 hx2 ⟨rfl,rfl,hx,hs⟩
  refine zac (qcA R B (by omega) (by omega) (by omega) ?_)
  dsimp only
  by_cases hl:rkA r (arrOf st') (lo + x) < rkA r (arrOf st') (lo + x - 1)
  ·rw[decide_eq_true hl,if_pos rfl]
   exact zak ⟨rfl,x,rfl,hx1,hx,hs,fun _=>hl⟩
  ·rw[decide_eq_false hl,if_neg zax]
   refine zak ⟨rfl,rfl,by omega,fun i j a b c=>?_⟩
   have nn:=qhM R B.perm (i:=lo + x) (j:=lo + x - 1) (by omega) (by omega) (by omega)
   by_cases ej:j=lo + x
   ·subst ej
    by_cases ei:i=lo + x - 1
    ·subst ei; omega
    ·have:=hs i (lo + x - 1) a (by omega) (by omega); omega
   ·exact hs i j a b (by omega)
 case p1=>
  rintro c st' ⟨rfl,n,rfl,n1,n2,hs,hd⟩
  dsimp only
  by_cases e:(n == nrem)=true
  ·rw[if_pos e]
   exact zak (h n st' B .refl n1 n2 hs)
  rw[if_neg e]
  have nl:n < nrem:=by
   have:n≠nrem:=fun z=>e (by rw[z]; exact beq_self_eq_true _)
   omega
  by_cases g1:n > 1
  ·rw[if_pos g1]
   refine zac (qcA R B (by omega) (by omega) (by omega) ?_)
   dsimp only
   rw[decide_eq_true (hs lo (lo + n - 1) (zae _) (by omega) (by omega)),if_pos rfl]
   exact zak (h n st' B .refl n1 n2 hs)
  rw[if_neg g1]
  have en:n=1:=by omega
  subst en
  refine zac (wpS_lift (zbh ⟨rfl,?_⟩))
  -- downwards
  refine zac (zaT (za8 (I:=fun x c st''=>st''=st'/\c=(none,x,0)/\x<=nrem/\∀ i j,lo<=i->i < j->j < lo + x->rkA r (arrOf st') j < rkA r (arrOf st') i)
   (Q:=fun c st''=>st''=st'/\∃ m,c=(none,m,0)/\2<=m/\m<=nrem/\∀ i j,lo<=i->i < j->j < lo + m->rkA r (arrOf st') j < rkA r (arrOf st') i) ?s2 ?f2 ⟨rfl,rfl,by omega,?i2⟩) ?p2)
  case i2=>
   intro i j a b c
   have:=hd nl
   have e1:i=lo:=by omega
   have e2:j=lo + 1:=by omega
   subst e1 e2
   exact this
  case f2=>
   rintro c st'' ⟨rfl,rfl,hx,hs2⟩
   exact⟨rfl,_,rfl,by omega,hx,hs2⟩
  case s2=>
   rintro x c st'' hx1 hx2 ⟨rfl,rfl,hx,hs2⟩
   dsimp only
   refine zac (qcA R B (by omega) (by omega) (by omega) ?_)
   dsimp only
   by_cases hl:rkA r (arrOf st'') (lo + x) < rkA r (arrOf st'') (lo + x - 1)
   ·rw[decide_eq_true hl,if_pos rfl,if_neg (by omega)]
    refine zak ⟨rfl,rfl,by omega,fun i j a b c=>?_⟩
    by_cases ej:j=lo + x
    ·subst ej
     by_cases ei:i=lo + x - 1
     ·subst ei; exact hl
     ·have:=hs2 i (lo + x - 1) a (by omega) (by omega); omega
    ·exact hs2 i j a b (by omega)
   ·rw[decide_eq_false hl,if_neg zax]
    have nn:=qhM R B.perm (i:=lo + x) (j:=lo + x - 1) (by omega) (by omega) (by omega)
    refine zac (qcA R B (by omega) (by omega) (by omega) ?_)
    dsimp only
    rw[decide_eq_true (show rkA r (arrOf st'') (lo + x - 1) < rkA r (arrOf st'') (lo + x) by omega),if_pos rfl]
    exact zak ⟨rfl,x,rfl,by omega,hx,hs2⟩
  case p2=>
   rintro c st'' ⟨rfl,m,rfl,m1,m2,hs2⟩
   dsimp only
   rw[if_neg (by omega)]
   rw[reverseSlice'_eq]
   refine zac (zbk ?_)
   have B3:SB κ a0 (setArr st'' (mirror (arrOf st'') lo (lo + m) ((lo + m - lo) / 2))):=B.set (mirror_perm _ _ _ _)
   have C3:SC st'' (setArr st'' (mirror (arrOf st'') lo (lo + m) ((lo + m - lo) / 2))) lo:=⟨fun i hi=>by
    show(mirror (arrOf st'') lo (lo + m) ((lo + m - lo) / 2))[i]?=_
    rw[getElem?_mirror_all (by omega),if_neg (by omega)],rfl,rfl⟩
   have S3:Sd r (arrOf (setArr st'' (mirror (arrOf st'') lo (lo + m) ((lo + m - lo) / 2)))) lo (lo + m):=fun i j a b c=>by
    have e:∀ k,lo<=k->k < lo + m->rkA r (mirror (arrOf st'') lo (lo + m) ((lo + m - lo) / 2)) k=rkA r (arrOf st'') (lo + (lo + m) - 1 - k):=fun k k1 k2=>qbq (by rw[getElem?_mirror_all (by omega),if_pos ⟨k1,k2⟩])
    show rkA r (mirror _ _ _ _) i < rkA r (mirror _ _ _ _) j
    rw[e i a (by omega),e j (by omega) c]
    exact hs2 _ _ (by omega) (by omega) (by omega)
   generalize setArr st'' (mirror (arrOf st'') lo (lo + m) ((lo + m - lo) / 2))=t at B3 C3 S3
   have tz:=B3.size
   refine zac (zaT (za8 (I:=fun x c t'=>t'=t/\c=(none,x)/\x<=nrem/\Sd r (arrOf t) lo (lo + x))
    (Q:=fun c t'=>t'=t/\∃ n,c=(none,n)/\1<=n/\n<=nrem/\Sd r (arrOf t) lo (lo + n)) ?s3 ?f3 ⟨rfl,rfl,m2,S3⟩) ?p3)
   case f3=>
    rintro c t' ⟨rfl,rfl,hx,hs⟩
    exact⟨rfl,_,rfl,by omega,hx,hs⟩
   case s3=>
    rintro x c t' hx1 hx2 ⟨rfl,rfl,hx,hs⟩
    dsimp only
    refine zac (qcA R B3 (by omega) (by omega) (by omega) ?_)
    dsimp only
    by_cases hl:rkA r (arrOf t') (lo + x) < rkA r (arrOf t') (lo + x - 1)
    ·rw[decide_eq_true hl,if_pos rfl]
     exact zak ⟨rfl,x,rfl,by omega,hx,hs⟩
    ·rw[decide_eq_false hl,if_neg zax]
     refine zak ⟨rfl,rfl,by omega,fun i j a b c=>?_⟩
     have nn:=qhM R B3.perm (i:=lo + x) (j:=lo + x - 1) (by omega) (by omega) (by omega)
     by_cases ej:j=lo + x
     ·subst ej
      by_cases ei:i=lo + x - 1
      ·subst ei; omega
      ·have:=hs i (lo + x - 1) a (by omega) (by omega); omega
     ·exact hs i j a b (by omega)
   case p3=>
    rintro c t' ⟨rfl,n,rfl,n1',n2',hs'⟩
    exact zak (h n t' B3 C3 n1' n2' hs')
theorem qeZ{xs:Array Keyed}{src d:Nat}(hs:src < xs.size)(hd:d<=src)(k:Nat):rkA r (bubble xs src d) k=if k=src - d then rkA r xs src else if src - d < k/\k<=src then rkA r xs (k - 1) else rkA r xs k:=by
 have e:=getElem?_bubble hs d hd k
 by_cases h1:k=src - d
 ·rw[if_pos h1] at e ⊢; exact qbq e
 ·rw[if_neg h1] at e ⊢
  by_cases h2:src - d < k/\k<=src
  ·rw[if_pos h2] at e ⊢; exact qbq e
  ·rw[if_neg h2] at e ⊢; exact qbq e
theorem qfd{st:SortSt}{lo n ok:Nat}{Q:Bool->SortSt->Prop}(R:Rk prog w A s κ a0 r)(B:SB κ a0 st)(hn:lo + n<=a0.size)(h1:1<=ok)(hok:ok<=n)(hs:Sd r (arrOf st) lo (lo + ok))
  (h:∀ st',SB κ a0 st'->SC st st' lo->Sd r (arrOf st') lo (lo + n)->Q true st'):wpS (model prog w) A E s (binarySort' lo n ok) Q st:=by
 rw[binarySort'_eq]
 rw[show max ok 1=ok by omega]
 refine zac (zaT (za8 (I:=fun k c t=>c=(none,())/\SB κ a0 t/\SC st t lo/\k<=n/\Sd r (arrOf t) lo (lo + k))
  (Q:=fun c t=>c=(none,())/\SB κ a0 t/\SC st t lo/\Sd r (arrOf t) lo (lo + n)) ?step ?fin ⟨rfl,B,.refl,hok,hs⟩) ?post)
 case post=>
  rintro c t ⟨rfl,B',C',hs'⟩
  exact zak (h t B' C' hs')
 case fin=>
  rintro c t ⟨rfl,B',C',hk,hs'⟩
  rw[show max ok n=n by omega] at hs'
  exact⟨rfl,B',C',hs'⟩
 case step=>
  rintro k c t hak hkn ⟨rfl,B',C',hk,hs'⟩
  have tz:=B'.size
  refine zac (zaT (za8 (I:=fun x c t'=>t'=t/\∃ l q,c=(none,l,q)/\l<=q/\q<=k/\q - l<=k - x /\
    (∀ i,i < l->rkA r (arrOf t) (lo + i) < rkA r (arrOf t) (lo + k))/\(∀ i,q<=i->i < k->rkA r (arrOf t) (lo + k) < rkA r (arrOf t) (lo + i)))
   (Q := fun c t' => t' = t /\ ∃ l q, c = (none, l, q) /\ l <= k /\
    (∀ i,i < l->rkA r (arrOf t) (lo + i) < rkA r (arrOf t) (lo + k))/\(∀ i,l<=i->i < k->rkA r (arrOf t) (lo + k) < rkA r (arrOf t) (lo + i))) ?istep ?ifin ⟨rfl,0,k,rfl,by omega,by omega,by omega,fun i hi=>by omega,fun i _ _=>by omega⟩) ?ipost)
  case ifin=>
   rintro c t' ⟨rfl,l,q,rfl,hlq,hqk,hm,hlo,hhi⟩
   have:l=q:=by omega
   subst this
   exact⟨rfl,l,l,rfl,hqk,hlo,hhi⟩
  case istep=>
   rintro x c t' _ hxk ⟨rfl,l,q,rfl,hlq,hqk,hm,hlo,hhi⟩
   dsimp only
   by_cases hge:l ≥ q
   ·rw[if_pos hge]
    have:l=q:=by omega
    subst this
    exact zak ⟨rfl,l,l,rfl,hqk,hlo,hhi⟩
   ·rw[if_neg hge]
    have nn:=qhM R B'.perm (i:=lo + k) (j:=lo + (l + q) / 2) (by omega) (by omega) (by omega)
    refine zac (qcA R B' (by omega) (by omega) (by omega) ?_)
    dsimp only
    by_cases hless:rkA r (arrOf t') (lo + k) < rkA r (arrOf t') (lo + (l + q) / 2)
    ·rw[decide_eq_true hless,if_pos rfl]
     refine zak ⟨rfl,l,(l + q) / 2,rfl,by omega,by omega,by omega,hlo,fun i i1 i2=>?_⟩
     by_cases e:i=(l + q) / 2
     ·subst e; exact hless
     ·exact zbQ hless (hs' _ _ (by omega) (by omega) (by omega))
    ·rw[decide_eq_false hless,if_neg zax]
     refine zak ⟨rfl,(l + q) / 2 + 1,q,rfl,by omega,by omega,by omega,fun i i1=>?_,hhi⟩
     by_cases e:i=(l + q) / 2
     ·subst e; omega
     ·have:=hs' (lo + i) (lo + (l + q) / 2) (by omega) (by omega) (by omega)
      omega
  case ipost=>
   rintro c t' ⟨rfl,l,q,rfl,hlk,hlo,hhi⟩
   show wpS _ _ _ _ (do moveDown' (lo + k) (lo + l); pure (zb6 (none,()))) _ _
   rw[moveDown'_eq]
   have ks:lo + k < (arrOf t').size:=by omega
   refine zac (zbk (zak ⟨rfl,B'.set (bubble_perm _ _ _),⟨fun i hi=>?_,C'.pend,C'.gal⟩,by omega,fun i j a b c=>?_⟩))
   ·show(bubble (arrOf t') (lo + k) (lo + k - (lo + l)))[i]?=_
    rw[getElem?_bubble ks _ (by omega),if_neg (by omega),if_neg (by omega)]
    exact C'.low i hi
   ·show rkA r (bubble (arrOf t') (lo + k) (lo + k - (lo + l))) i < rkA r (bubble (arrOf t') (lo + k) (lo + k - (lo + l))) j
    rw[qeZ ks (by omega),qeZ ks (by omega),show lo + k - (lo + k - (lo + l))=lo + l by omega]
    have hl':∀ i,lo<=i->i < lo + l->rkA r (arrOf t') i < rkA r (arrOf t') (lo + k):=fun i i1 i2=>by
     have:=hlo (i - lo) (by omega); rwa [show lo + (i - lo)=i by omega] at this
    have hh':∀ i,lo + l<=i->i < lo + k->rkA r (arrOf t') (lo + k) < rkA r (arrOf t') i:=fun i i1 i2=>by
     have:=hhi (i - lo) (by omega) (by omega); rwa [show lo + (i - lo)=i by omega] at this
    repeat' split
    all_goals first
     | (exfalso; omega)
     | exact hl' _ (by omega) (by omega)
     | exact hh' _ (by omega) (by omega)
     | exact hs' _ _ (by omega) (by omega) (by omega)
end
noncomputable def gal':Bool->Keyed->Array Keyed->Nat->Nat->Nat->StateT SortSt Sem (Option Nat):=sortPriv% PySem.Builtin.gallop
noncomputable def qnn(lf:Bool)(ky:Keyed)(ar:Array Keyed)(ba i:Nat):StateT SortSt Sem (Option Bool):=do
 let x <- elem' ar (ba + i)
 if lf then lt' x ky else return (<- lt' ky x).map (!·)
noncomputable def galS(ps:Nat->StateT SortSt Sem (Option Bool))(n l0 h0:Nat):StateT SortSt Sem (Option Nat):=do
 let mut l:=l0
 let mut h:=h0
 for _ in [0:n] do
  if l ≥ h then break
  let c:=l + (h - l) / 2
  let some mo <- ps c | return none
  if mo then l:=c + 1 else h:=c
 return some h
noncomputable def galB(ps:Nat->StateT SortSt Sem (Option Bool))(n q:Nat):StateT SortSt Sem (Option Nat):=do
 let mut p:=0
 let mut o:=1
 let mut l:=0
 let mut h:=0
 let some rt <- ps q | return none
 if rt then
  let m:=n - q
  for _ in [0:n] do
   if o ≥ m then break
   let some mo <- ps (q + o) | return none
   if !mo then break
   p:=o
   o:=2 * o + 1
  l:=q + p + 1
  h:=q + min o m
 else
  let m:=q + 1
  for _ in [0:n] do
   if o ≥ m then break
   let some fd <- ps (q - o) | return none
   if fd then break
   p:=o
   o:=2 * o + 1
  l:=q + 1 - min o m
  h:=q - p
 galS ps n l h
theorem qnh(lf:Bool)(ky:Keyed)(ar:Array Keyed)(ba n q:Nat):gal' lf ky ar ba n q=galB (qnn lf ky ar ba) n q:=rfl
section
variable {prog:zai}{w:World}{A:Around}{E:Value->Shared->Prop}{s:Shared}{κ:SortKind}{a0:Array Keyed}{r:Keyed->Nat}
theorem qmC{st:SortSt}{ps:Nat->StateT SortSt Sem (Option Bool)}{n q:Nat}{P:Nat->Bool}{Q:Option Nat->SortSt->Prop}(hq:q < n)(mono:∀ i j,i < j->j < n->P j=true->P i=true)
  (hps:∀ i (Q:Option Bool->SortSt->Prop),i < n->Q (some (P i)) st->wpS (model prog w) A E s (ps i) Q st)
  (h:∀ k,k<=n->(∀ i,i < k->P i=true)->(∀ i,k<=i->i < n->P i=false)->Q (some k) st):wpS (model prog w) A E s (galB ps n q) Q st:=by
 have down:∀ i j,i < j->j < n->P i=false->P j=false:=fun i j a b c=>by
  cases e:P j with
  | false=>rfl
  | true=>rw[mono i j a b e] at c; cases c
 -- the search at the end
 have fin:∀ (l hh:Nat),l<=hh->hh<=n->(∀ i,i < l->P i=true)->(∀ i,hh<=i->i < n->P i=false)->
   wpS (model prog w) A E s (galS ps n l hh) Q st:=by
  intro l hh h1 h2 h3 h4
  unfold galS
  refine zac (zaT (za8 (I:=fun x c st'=>st'=st/\∃ l q,c=(none,l,q)/\l<=q/\q<=n/\q - l<=n - x/\(∀ i,i < l->P i=true)/\(∀ i,q<=i->i < n->P i=false))
   (Q:=fun c st'=>st'=st/\∃ k,c=(none,k,k)/\k<=n/\(∀ i,i < k->P i=true)/\(∀ i,k<=i->i < n->P i=false)) ?st ?fi ⟨rfl,l,hh,rfl,h1,h2,by omega,h3,h4⟩) ?po)
  case po=>
   rintro c st' ⟨rfl,k,rfl,k1,k2,k3⟩
   exact zak (h k k1 k2 k3)
  case fi=>
   rintro c st' ⟨rfl,l,q,rfl,a1,a2,a3,a4,a5⟩
   have:l=q:=by omega
   subst this
   exact⟨rfl,l,rfl,a2,a4,a5⟩
  case st=>
   rintro x c st' _ hx ⟨rfl,l,q,rfl,a1,a2,a3,a4,a5⟩
   dsimp only
   by_cases g:l ≥ q
   ·rw[if_pos g]
    have:l=q:=by omega
    subst this
    exact zak ⟨rfl,l,rfl,a2,a4,a5⟩
   ·rw[if_neg g]
    refine zac (hps _ _ (by omega) ?_)
    dsimp only
    cases e:P (l + (q - l) / 2) with
    | true=>
     rw[if_pos rfl]
     refine zak ⟨rfl,_,_,rfl,by omega,a2,by omega,fun i hi=>?_,a5⟩
     by_cases z:i=l + (q - l) / 2
     ·subst z; exact e
     ·exact mono i _ (by omega) (by omega) e
    | false=>
     rw[if_neg zax]
     refine zak ⟨rfl,_,_,rfl,by omega,by omega,by omega,a4,fun i i1 i2=>?_⟩
     by_cases z:i=l + (q - l) / 2
     ·subst z; exact e
     ·exact down _ i (by omega) i2 e
 unfold galB
 refine zac (hps q _ hq ?_)
 dsimp only
 cases e:P q with
 | true=>
  rw[if_pos rfl]
  refine zac (zaT (za8 (I:=fun x c st'=>st'=st/\∃ o p,c=(none,p,o)/\p < o/\x + 1<=o/\o<=2 * p + 1/\q + p < n/\P (q + p)=true)
   (Q:=fun c st'=>st'=st/\∃ o p,c=(none,p,o)/\p < o/\q + p < n/\P (q + p)=true/\(n - q<=o\/P (q + o)=false)) ?st1 ?fi1 ⟨rfl,1,0,rfl,by omega,by omega,by omega,by omega,e⟩) ?po1)
  case fi1=>
   rintro c st' ⟨rfl,o,p,rfl,a1,a2,a3,a4,a5⟩
   exact⟨rfl,o,p,rfl,a1,a4,a5,.inl (by omega)⟩
  case st1=>
   rintro x c st' _ hx ⟨rfl,o,p,rfl,a1,a2,a3,a4,a5⟩
   dsimp only
   by_cases g:o ≥ n - q
   ·rw[if_pos g]
    exact zak ⟨rfl,o,p,rfl,a1,a4,a5,.inl g⟩
   ·rw[if_neg g]
    refine zac (hps _ _ (by omega) ?_)
    dsimp only
    cases e2:P (q + o) with
    | true=>
     rw[if_neg (by decide)]
     exact zak ⟨rfl,_,_,rfl,by omega,by omega,by omega,by omega,e2⟩
    | false=>
     rw[if_pos (by decide)]
     exact zak ⟨rfl,o,p,rfl,a1,a4,a5,.inr e2⟩
  case po1=>
   rintro c st' ⟨rfl,o,p,rfl,a1,a4,a5,a6⟩
   dsimp only
   refine fin (q + p + 1) (q + min o (n - q)) (by omega) (by omega) (fun i hi=>?_) (fun i i1 i2=>?_)
   ·by_cases z:i=q + p
    ·subst z; exact a5
    ·exact mono i (q + p) (by omega) a4 a5
   ·rcases a6 with a6 | a6
    ·omega
    ·by_cases z:i=q + o
     ·subst z; exact a6
     ·exact down (q + o) i (by omega) i2 a6
 | false=>
  rw[if_neg zax]
  refine zac (zaT (za8 (I:=fun x c st'=>st'=st/\∃ o p,c=(none,p,o)/\p < o/\x + 1<=o/\o<=2 * p + 1/\p<=q/\P (q - p)=false)
   (Q:=fun c st'=>st'=st/\∃ o p,c=(none,p,o)/\p < o/\p<=q/\P (q - p)=false/\(q + 1<=o\/(o<=q/\P (q - o)=true))) ?st2 ?fi2 ⟨rfl,1,0,rfl,by omega,by omega,by omega,by omega,e⟩) ?po2)
  case fi2=>
   rintro c st' ⟨rfl,o,p,rfl,a1,a2,a3,a4,a5⟩
   exact⟨rfl,o,p,rfl,a1,a4,a5,.inl (by omega)⟩
  case st2=>
   rintro x c st' _ hx ⟨rfl,o,p,rfl,a1,a2,a3,a4,a5⟩
   dsimp only
   by_cases g:o ≥ q + 1
   ·rw[if_pos g]
    exact zak ⟨rfl,o,p,rfl,a1,a4,a5,.inl g⟩
   ·rw[if_neg g]
    refine zac (hps _ _ (by omega) ?_)
    dsimp only
    cases e2:P (q - o) with
    | true=>
     rw[if_pos rfl]
     exact zak ⟨rfl,o,p,rfl,a1,a4,a5,.inr ⟨by omega,e2⟩⟩
    | false=>
     rw[if_neg zax]
     exact zak ⟨rfl,_,_,rfl,by omega,by omega,by omega,by omega,e2⟩
  case po2=>
   rintro c st' ⟨rfl,o,p,rfl,a1,a4,a5,a6⟩
   dsimp only
   refine fin (q + 1 - min o (q + 1)) (q - p) (by omega) (by omega) (fun i hi=>?_) (fun i i1 i2=>?_)
   ·rcases a6 with a6 | ⟨a6,a7⟩
    ·omega
    ·by_cases z:i=q - o
     ·subst z; exact a7
     ·exact mono i (q - o) (by omega) (by omega) a7
   ·by_cases z:i=q - p
    ·subst z; exact a5
    ·exact down (q - p) i (by omega) i2 a5
theorem qdE{st:SortSt}{lf:Bool}{ky:Keyed}{ar:Array Keyed}{ba n q:Nat}{Q:Option Nat->SortSt->Prop}(R:Rk prog w A s κ a0 r)(hk:kindOf st=κ)(hky:ky∈a0.toList)(hz:ba + n<=ar.size)(hm:∀ i,i < n->ar.getD (ba + i) (zar,zar)∈a0.toList)(hne:∀ i,i < n->rkA r ar (ba + i)≠r ky)(hs:Sd r ar ba (ba + n))(hq:q < n)
  (h:∀ k,k<=n->(∀ i,i < k->rkA r ar (ba + i) < r ky)->(∀ i,k<=i->i < n->r ky < rkA r ar (ba + i))->Q (some k) st):wpS (model prog w) A E s (gal' lf ky ar ba n q) Q st:=by
 rw[qnh]
 refine qmC (P:=fun i=>decide (rkA r ar (ba + i) < r ky)) hq (fun i j a b c=>?_) (fun i Q' hi hQ=>?_) (fun k k1 k2 k3=>h k k1 (fun i hi=>of_decide_eq_true (k2 i hi)) fun i i1 i2=>?_)
 ·exact decide_eq_true (zbQ (hs (ba + i) (ba + j) (by omega) (by omega) (by omega)) (of_decide_eq_true c))
 ·unfold qnn
  refine zac (qY (by omega) ?_)
  have ne:=hne i hi
  cases lf with
  | true=>
   rw[if_pos rfl]
   exact qjv R hk (hm i hi) hky ne hQ
  | false=>
   rw[if_neg zax]
   refine zac (qjv R hk hky (hm i hi) (zaK ne) (zak ?_))
   have e:(some (decide (r ky < r (ar.getD (ba + i) (zar,zar))))).map (!·)=some (decide (rkA r ar (ba + i) < r ky)):=by
    show some (!decide (r ky < rkA r ar (ba + i)))=_
    congr 1
    by_cases g:r ky < rkA r ar (ba + i)
    ·rw[decide_eq_true g,decide_eq_false (by omega)]; rfl
    ·rw[decide_eq_false g,decide_eq_true (by omega)]; rfl
   rw[e]
   exact hQ
 ·have:=of_decide_eq_false (k3 i i1 i2)
  have:=hne i i2
  omega
end
noncomputable def mlo':Array Keyed->Array Keyed->StateT SortSt Sem (Array Keyed):=sortPriv% PySem.Builtin.mergeLo
noncomputable def setG(g:Nat):StateT SortSt Sem Unit:=modify fun s=>za1 (kindOf s) (arrOf s) (zaB s) g (zaR s)
noncomputable def dnL(a b o:Array Keyed)(i j:Nat):Array Keyed:=o ++ a.extract i a.size ++ b.extract j b.size
noncomputable def laL(a b o:Array Keyed)(i j:Nat):Array Keyed:=o ++ b.extract j b.size ++ a.extract i a.size
noncomputable abbrev S1:=Option (Array Keyed) × Array Keyed × Nat × Nat × Nat × Nat
noncomputable abbrev S2:=Option (Array Keyed) × Array Keyed × Nat × Nat × Nat × Nat × Nat
noncomputable def lo1(a b:Array Keyed)(g:Nat)(o:Array Keyed)(i j ac bc:Nat):StateT SortSt Sem (ForInStep S1):=do
 let x <- elem' b j
 let y <- elem' a i
 match <- lt' x y with
 | some bw=>
  if bw=true then do
   let z <- elem' b j
   if (j + 1 == b.size)=true then pure (.done (some (dnL a b (o.push z) i (j + 1)),o.push z,i,j + 1,0,bc + 1))
   else if bc + 1 ≥ g then pure (.done (none,o.push z,i,j + 1,0,bc + 1)) else pure (.yield (none,o.push z,i,j + 1,0,bc + 1))
  else do
   let z <- elem' a i
   if (i + 1 + 1 == a.size)=true then pure (.done (some (laL a b (o.push z) (i + 1) j),o.push z,i + 1,j,ac + 1,0))
   else if ac + 1 ≥ g then pure (.done (none,o.push z,i + 1,j,ac + 1,0)) else pure (.yield (none,o.push z,i + 1,j,ac + 1,0))
 | _=>pure (.done (some (dnL a b o i j),o,i,j,ac,bc))
noncomputable def lo2c(a b o:Array Keyed)(i j g ac bc:Nat):StateT SortSt Sem (ForInStep S2):=do
 let z <- elem' a i
 if (i + 1 + 1 == a.size)=true then pure (.done (some (laL a b (o.push z) (i + 1) j),o.push z,i + 1,j,g,ac,bc))
 else if (decide (ac < 7) && decide (bc < 7))=true then pure (.done (none,o.push z,i + 1,j,g,ac,bc)) else pure (.yield (none,o.push z,i + 1,j,g,ac,bc))
noncomputable def lo2b(a b o:Array Keyed)(i j g ac bc:Nat):StateT SortSt Sem (ForInStep S2):=do
 let z <- elem' b j
 if (j + 1 == b.size)=true then pure (.done (some (dnL a b (o.push z) i (j + 1)),o.push z,i,j + 1,g,ac,bc))
 else do
  let y <- elem' a i
  match <- gal' true y b (j + 1) (b.size - (j + 1)) 0 with
  | some k=>
   if k > 0 then
    if (j + 1 + k == b.size)=true then pure (.done (some (dnL a b (o.push z ++ b.extract (j + 1) (j + 1 + k)) i (j + 1 + k)),o.push z ++ b.extract (j + 1) (j + 1 + k),i,j + 1 + k,g,ac,k))
    else lo2c a b (o.push z ++ b.extract (j + 1) (j + 1 + k)) i (j + 1 + k) g ac k
   else lo2c a b (o.push z) i (j + 1) g ac k
  | _=>pure (.done (some (dnL a b (o.push z) i (j + 1)),o.push z,i,j + 1,g,ac,bc))
noncomputable def lo2a(a b o:Array Keyed)(i j g ac bc:Nat):StateT SortSt Sem (ForInStep S2):=do
 setG g
 let x <- elem' b j
 match <- gal' false x a i (a.size - i) 0 with
 | some k=>
  if k > 0 then
   if (i + k + 1 == a.size)=true then pure (.done (some (laL a b (o ++ a.extract i (i + k)) (i + k) j),o ++ a.extract i (i + k),i + k,j,g,k,bc))
   else if (i + k == a.size)=true then pure (.done (some (dnL a b (o ++ a.extract i (i + k)) (i + k) j),o ++ a.extract i (i + k),i + k,j,g,k,bc))
   else lo2b a b (o ++ a.extract i (i + k)) (i + k) j g k bc
  else lo2b a b o i j g k bc
 | _=>pure (.done (some (dnL a b o i j),o,i,j,g,ac,bc))
noncomputable def mloB(a b:Array Keyed):StateT SortSt Sem (Array Keyed):=do
 rule "list.sort.merge-lo"
 let tt:=a.size + b.size
 let mut o:Array Keyed:=#[<- elem' b 0]
 let mut i:=0
 let mut j:=1
 if j == b.size then return dnL a b o i j
 if i + 1 == a.size then return laL a b o i j
 let mut g:=gallopOf (<- get)
 for _ in [0:tt] do
  let mut ac:=0
  let mut bc:=0
  for _ in [0:tt] do
   let some bw <- lt' (<- elem' b j) (<- elem' a i) | return dnL a b o i j
   if bw then
    o:=o.push (<- elem' b j); j:=j + 1; bc:=bc + 1; ac:=0
    if j == b.size then return dnL a b o i j
    if bc ≥ g then break
   else
    o:=o.push (<- elem' a i); i:=i + 1; ac:=ac + 1; bc:=0
    if i + 1 == a.size then return laL a b o i j
    if ac ≥ g then break
  rule "list.sort.gallop"
  g:=g + 1
  for _ in [0:tt] do
   if g > 1 then g:=g - 1
   setG g
   let some k <- gal' false (<- elem' b j) a i (a.size - i) 0 | return dnL a b o i j
   ac:=k
   if k > 0 then
    o:=o ++ a.extract i (i + k); i:=i + k
    if i + 1 == a.size then return laL a b o i j
    if i == a.size then return dnL a b o i j
   o:=o.push (<- elem' b j); j:=j + 1
   if j == b.size then return dnL a b o i j
   let some k <- gal' true (<- elem' a i) b j (b.size - j) 0 | return dnL a b o i j
   bc:=k
   if k > 0 then
    o:=o ++ b.extract j (j + k); j:=j + k
    if j == b.size then return dnL a b o i j
   o:=o.push (<- elem' a i); i:=i + 1
   if i + 1 == a.size then return laL a b o i j
   if ac < 7 && bc < 7 then break
  g:=g + 1
  setG g
 unsupported "internal:list.sort.merge-bound"
theorem qnJ(a b:Array Keyed):mlo' a b=mloB a b:=rfl
noncomputable def FinM(r:Keyed->Nat)(a b v:Array Keyed):Prop:=v.toList.Perm (a.toList ++ b.toList)/\v.toList.Pairwise fun x y=>r x < r y
structure Mg(r:Keyed->Nat)(a b o:Array Keyed)(i j:Nat):Prop where
 pm:o.toList.Perm (a.toList.take i ++ b.toList.take j)
 sd:o.toList.Pairwise fun x y=>r x < r y
 ua:∀ x∈o.toList,∀ k,i<=k->k < a.size->r x < rkA r a k
 ub:∀ x∈o.toList,∀ k,j<=k->k < b.size->r x < rkA r b k
noncomputable abbrev dK:Keyed:=(zar,zar)
section
variable {r:Keyed->Nat}{a b o:Array Keyed}{i j:Nat}
theorem qju{xs:Array Keyed}{k:Nat}(h:k < xs.size):xs.toList.take (k + 1)=xs.toList.take k ++ [xs.getD k dK]:=by
 rw[zbw,getD_at h]
 congr 1
 rw[zaC (by simpa using h)]
 simp
theorem Mg.pb(h:Mg r a b o i j)(sb:Sd r b 0 b.size)(hj:j < b.size)(hlt:∀ k,i<=k->k < a.size->rkA r b j < rkA r a k):Mg r a b (o.push (b.getD j dK)) i (j + 1):=by
 have hu:=h.ub
 refine⟨?_,?_,fun x hx k k1 k2=>?_,fun x hx k k1 k2=>?_⟩
 ·rw[za7,qju hj,<- zbi]
  exact h.pm.append_right _
 ·rw[za7,List.pairwise_append]
  exact⟨h.sd,zco _ _,fun x hx y hy=>by rw[List.mem_singleton.mp hy]; exact hu x hx j (zae _) hj⟩
 ·rw[za7,zbY] at hx
  rcases hx with hx | hx
  ·exact h.ua x hx k k1 k2
  ·rw[List.mem_singleton.mp hx]; exact hlt k k1 k2
 ·rw[za7,zbY] at hx
  rcases hx with hx | hx
  ·exact hu x hx k (by omega) k2
  ·rw[List.mem_singleton.mp hx]; exact sb j k (zau _) (by omega) k2
theorem Mg.pa(h:Mg r a b o i j)(sa:Sd r a 0 a.size)(hi:i < a.size)(hlt:∀ k,j<=k->k < b.size->rkA r a i < rkA r b k):Mg r a b (o.push (a.getD i dK)) (i + 1) j:=by
 refine⟨?_,?_,fun x hx k k1 k2=>?_,fun x hx k k1 k2=>?_⟩
 ·rw[za7,qju hi,zbi]
  refine(h.pm.append_right _).trans ?_
  rw[zbi]
  exact zbZ _ zb0
 ·rw[za7,List.pairwise_append]
  exact⟨h.sd,zco _ _,fun x hx y hy=>by rw[List.mem_singleton.mp hy]; exact h.ua x hx i (zae _) hi⟩
 ·rw[za7,zbY] at hx
  rcases hx with hx | hx
  ·exact h.ua x hx k (by omega) k2
  ·rw[List.mem_singleton.mp hx]; exact sa i k (zau _) (by omega) k2
 ·rw[za7,zbY] at hx
  rcases hx with hx | hx
  ·exact h.ub x hx k k1 k2
  ·rw[List.mem_singleton.mp hx]; exact hlt k k1 k2
theorem qej{xs:Array Keyed}{i k:Nat}(h:i + k < xs.size):o ++ xs.extract i (i + (k + 1))=(o ++ xs.extract i (i + k)).push (xs.getD (i + k) dK):=by
 apply Array.toList_inj.mp
 rw[zbp,za7,zbp,zcd,zcd,zbi]
 congr 1
 rw[zce,zce,getD_at h,show i + (k + 1) - i=k + 1 by omega,show i + k - i=k by omega,zbw,List.getElem?_drop,zaC (by simpa using h)]
 simp
theorem Mg.pas(sa:Sd r a 0 a.size):∀ (k:Nat),Mg r a b o i j->i + k<=a.size->(∀ q,i<=q->q < i + k->∀ m,j<=m->m < b.size->rkA r a q < rkA r b m)->Mg r a b (o ++ a.extract i (i + k)) (i + k) j
 | 0,h,_,_=>by
  have:o ++ a.extract i (i + 0)=o:=by simp; omega
  rw[this]; exact h
 | k + 1,h,h1,h2=>by
  rw[qej (by omega)]
  exact(Mg.pas sa k h (by omega) fun q q1 q2=>h2 q q1 (by omega)).pa sa (by omega) (h2 (i + k) (by omega) (by omega))
theorem Mg.pbs(sb:Sd r b 0 b.size):∀ (k:Nat),Mg r a b o i j->j + k<=b.size->(∀ q,j<=q->q < j + k->∀ m,i<=m->m < a.size->rkA r b q < rkA r a m)->Mg r a b (o ++ b.extract j (j + k)) i (j + k)
 | 0,h,_,_=>by
  have:o ++ b.extract j (j + 0)=o:=by simp; omega
  rw[this]; exact h
 | k + 1,h,h1,h2=>by
  rw[qej (by omega)]
  exact(Mg.pbs sb k h (by omega) fun q q1 q2=>h2 q q1 (by omega)).pb sb (by omega) (h2 (j + k) (by omega) (by omega))
theorem qdv{xs:Array Keyed}{i:Nat}:(xs.extract i xs.size).toList=xs.toList.drop i:=by
 rw[zcd,zce,List.take_of_length_le]
 simp
theorem qbw{xs:Array Keyed}{i:Nat}{y:Keyed}(h:y∈xs.toList.drop i):∃ k,i<=k/\k < xs.size/\r y=rkA r xs k:=by
 obtain⟨n,hn,e⟩:=List.mem_iff_getElem.mp h
 rw[List.length_drop,zaN] at hn
 refine⟨i + n,by omega,by omega,?_⟩
 unfold rkA
 rw[getD_at (by omega),<- e]
 simp
theorem qdg{xs:Array Keyed}{i:Nat}(hs:Sd r xs 0 xs.size):(xs.toList.drop i).Pairwise fun x y=>r x < r y:=by
 rw[List.pairwise_iff_getElem]
 intro p q hp hq hpq
 rw[List.length_drop,zaN] at hp hq
 have:=hs (i + p) (i + q) (zau _) (by omega) (by omega)
 unfold rkA at this
 rw[getD_at (by omega),getD_at (by omega)] at this
 simpa using this
theorem Mg.dn(h:Mg r a b o i b.size)(sa:Sd r a 0 a.size):FinM r a b (dnL a b o i b.size):=by
 have e:(dnL a b o i b.size).toList=o.toList ++ a.toList.drop i:=by
  unfold dnL
  rw[zbp,zbp,qdv,qdv,List.drop_of_length_le (l:=b.toList) (by simp),List.append_nil]
 unfold FinM
 rw[e]
 refine⟨?_,List.pairwise_append.mpr ⟨h.sd,qdg sa,fun x hx y hy=>?_⟩⟩
 ·have p:=h.pm
  rw[List.take_of_length_le (l:=b.toList) (by simp)] at p
  refine(p.append_right _).trans ?_
  rw[zbi]
  refine(zbZ _ zb0).trans ?_
  rw[<- zbi,zcf]
 ·obtain⟨k,k1,k2,e⟩:=qbw (r:=r) hy
  rw[e]; exact h.ua x hx k k1 k2
theorem Mg.la(h:Mg r a b o i j)(hi:i + 1=a.size)(sa:Sd r a 0 a.size)(sb:Sd r b 0 b.size)(top:∀ k,k < b.size->rkA r b k < rkA r a (a.size - 1)):FinM r a b (laL a b o i j):=by
 have e:(laL a b o i j).toList=o.toList ++ (b.toList.drop j ++ a.toList.drop i):=by
  unfold laL
  rw[zbp,zbp,qdv,qdv,zbi]
 unfold FinM
 rw[e]
 refine⟨?_,List.pairwise_append.mpr ⟨h.sd,List.pairwise_append.mpr ⟨qdg sb,qdg sa,fun x hx y hy=>?_⟩,fun x hx y hy=>?_⟩⟩
 ·refine(h.pm.append_right _).trans ?_
  have:(a.toList.take i ++ b.toList.take j ++ (b.toList.drop j ++ a.toList.drop i)).Perm (a.toList.take i ++ (a.toList.drop i ++ (b.toList.take j ++ b.toList.drop j))):=by
   rw[zbi]
   refine zbZ _ ?_
   rw[<- zbi]
   exact zb0
  refine this.trans ?_
  rw[<- zbi,zcf,zcf]
 ·obtain⟨k,k1,k2,e⟩:=qbw (r:=r) hx
  obtain⟨m,m1,m2,e'⟩:=qbw (r:=r) hy
  rw[e,e',show m=a.size - 1 by omega]
  exact top k k2
 ·rcases List.mem_append.mp hy with hy | hy
  ·obtain⟨k,k1,k2,e⟩:=qbw (r:=r) hy
   rw[e]; exact h.ub x hx k k1 k2
  ·obtain⟨k,k1,k2,e⟩:=qbw (r:=r) hy
   rw[e]; exact h.ua x hx k k1 k2
end
structure Ab(r:Keyed->Nat)(a0 a b:Array Keyed):Prop where
 ma:∀ k,k < a.size->a.getD k dK∈a0.toList
 mb:∀ k,k < b.size->b.getD k dK∈a0.toList
 sa:Sd r a 0 a.size
 sb:Sd r b 0 b.size
 ne:∀ k m,k < a.size->m < b.size->rkA r a k≠rkA r b m
 top:∀ m,m < b.size->rkA r b m < rkA r a (a.size - 1)
 low:rkA r b 0 < rkA r a 0
 a1:0 < a.size
 b1:0 < b.size
theorem qdk{r:Keyed->Nat}{xs:Array Keyed}(h:Sd r xs 0 xs.size){i k:Nat}(h1:i<=k)(h2:k < xs.size):rkA r xs i<=rkA r xs k:=by
 by_cases e:i=k
 ·subst e; exact zae _
 ·exact Nat.le_of_lt (h i k (zau _) (by omega) h2)
noncomputable def Sg(st st':SortSt):Prop:=kindOf st'=kindOf st/\arrOf st'=arrOf st/\zaB st'=zaB st/\zaR st'=zaR st
section
variable {prog:zai}{w:World}{A:Around}{E:Value->Shared->Prop}{s:Shared}{κ:SortKind}{a0:Array Keyed}{r:Keyed->Nat}{a b o:Array Keyed}{i j g ac bc:Nat}{st:SortSt}
theorem qay{m n:Nat}(h:(m == n)=true):m=n:=eq_of_beq h
theorem qaG{m n:Nat}(h:¬ (m == n)=true):m≠n:=fun z=>h (by rw[z]; exact beq_self_eq_true _)
theorem qoq{Q:ForInStep S1->SortSt->Prop}(R:Rk prog w A s κ a0 r)(C:Ab r a0 a b)(hk:kindOf st=κ)(M:Mg r a b o i j)(hi:i + 1 < a.size)(hj:j < b.size)
  (h1:∀ v c,FinM r a b v->Q (.done (some v,c)) st) (h2:∀ o' i' j' x y,Mg r a b o' i' j'->i' + 1 < a.size->j' < b.size->i + j<=i' + j'->Q (.done (none,o',i',j',x,y)) st/\Q (.yield (none,o',i',j',x,y)) st):wpS (model prog w) A E s (lo1 a b g o i j ac bc) Q st:=by
 unfold lo1
 refine zac (qY hj (zac (qY (by omega) (zac (qjv R hk (C.mb j hj) (C.ma i (by omega)) (zaK (C.ne i j (by omega) hj)) ?_)))))
 show wpS _ _ _ _ (if decide (rkA r b j < rkA r a i)=true then _ else _) _ _
 by_cases l:rkA r b j < rkA r a i
 ·rw[if_pos (decide_eq_true l)]
  have M':=M.pb C.sb hj fun k k1 k2=>zaP l (qdk C.sa k1 k2)
  refine zac (qY hj ?_)
  by_cases e:(j + 1 == b.size)=true
  ·rw[if_pos e]
   have:=qay e
   rw[this] at M' ⊢
   exact zak (h1 _ _ (M'.dn C.sa))
  ·rw[if_neg e]
   have:=qaG e
   have q:=h2 _ _ _ 0 (bc + 1) M' hi (by omega) (by omega)
   by_cases e2:bc + 1 ≥ g
   ·rw[if_pos e2]; exact zak q.1
   ·rw[if_neg e2]; exact zak q.2
 ·rw[if_neg (by simp only[decide_eq_true_eq]; exact l)]
  have ne:=C.ne i j (by omega) hj
  have M':=M.pa C.sa (by omega) fun k k1 k2=>zaP (show rkA r a i < rkA r b j by omega) (qdk C.sb k1 k2)
  refine zac (qY (by omega) ?_)
  by_cases e:(i + 1 + 1 == a.size)=true
  ·rw[if_pos e]
   exact zak (h1 _ _ (M'.la (qay e) C.sa C.sb C.top))
  ·rw[if_neg e]
   have:=qaG e
   have q:=h2 _ _ _ (ac + 1) 0 M' (by omega) hj (by omega)
   by_cases e2:ac + 1 ≥ g
   ·rw[if_pos e2]; exact zak q.1
   ·rw[if_neg e2]; exact zak q.2
theorem qjb{Q:ForInStep S2->SortSt->Prop}(C:Ab r a0 a b)(M:Mg r a b o i j)(hi:i + 1 < a.size)(hj:j < b.size)(hl:∀ k,j<=k->k < b.size->rkA r a i < rkA r b k)
  (h1:∀ v c,FinM r a b v->Q (.done (some v,c)) st) (h2:∀ o' i' j' x,Mg r a b o' i' j'->i' + 1 < a.size->j' < b.size->i + j < i' + j'->Q (.done (none,o',i',j',x)) st/\Q (.yield (none,o',i',j',x)) st):wpS (model prog w) A E s (lo2c a b o i j g ac bc) Q st:=by
 unfold lo2c
 have M':=M.pa C.sa (by omega) hl
 refine zac (qY (by omega) ?_)
 by_cases e:(i + 1 + 1 == a.size)=true
 ·rw[if_pos e]
  exact zak (h1 _ _ (M'.la (qay e) C.sa C.sb C.top))
 ·rw[if_neg e]
  have:=qaG e
  have q:=h2 _ _ _ (g,ac,bc) M' (by omega) hj (by omega)
  by_cases e2:(decide (ac < 7) && decide (bc < 7))=true
  ·rw[if_pos e2]; exact zak q.1
  ·rw[if_neg e2]; exact zak q.2
theorem qhV{Q:ForInStep S2->SortSt->Prop}(R:Rk prog w A s κ a0 r)(C:Ab r a0 a b)(hk:kindOf st=κ)(M:Mg r a b o i j)(hi:i + 1 < a.size)(hj:j < b.size)(hl:∀ k,i<=k->k < a.size->rkA r b j < rkA r a k)
  (h1:∀ v c,FinM r a b v->Q (.done (some v,c)) st) (h2:∀ o' i' j' x,Mg r a b o' i' j'->i' + 1 < a.size->j' < b.size->i + j < i' + j'->Q (.done (none,o',i',j',x)) st/\Q (.yield (none,o',i',j',x)) st):wpS (model prog w) A E s (lo2b a b o i j g ac bc) Q st:=by
 unfold lo2b
 have M':=M.pb C.sb hj hl
 refine zac (qY hj ?_)
 by_cases e:(j + 1 == b.size)=true
 ·rw[if_pos e]
  have:=qay e
  rw[this] at M' ⊢
  exact zak (h1 _ _ (M'.dn C.sa))
 ·rw[if_neg e]
  have j1:=qaG e
  refine zac (qY (by omega) (zac (qdE R hk (C.ma i (by omega)) (by omega) (fun k k1=>C.mb _ (by omega)) (fun k k1=>zaK (C.ne i _ (by omega) (by omega))) (fun x y x1 x2 x3=>C.sb x y (zau _) x2 (by omega)) (by omega) fun k k1 k2 k3=>?_)))
  dsimp only
  have M2:=M'.pbs C.sb k (by omega) fun q q1 q2 m m1 m2=>by
   have:=k2 (q - (j + 1)) (by omega)
   rw[show j + 1 + (q - (j + 1))=q by omega] at this
   exact zaP this (qdk C.sa m1 m2)
  have up:∀ m,j + 1 + k<=m->m < b.size->rkA r a i < rkA r b m:=fun m m1 m2=>by
   have:=k3 (m - (j + 1)) (by omega) (by omega)
   rwa [show j + 1 + (m - (j + 1))=m by omega] at this
  by_cases kp:k > 0
  ·rw[if_pos kp]
   by_cases e3:(j + 1 + k == b.size)=true
   ·rw[if_pos e3]
    have:=qay e3
    rw[this] at M2 ⊢
    exact zak (h1 _ _ (M2.dn C.sa))
   ·rw[if_neg e3]
    have:=qaG e3
    exact qjb C M2 hi (by omega) up h1 fun o' i' j' x a1 a2 a3 a4=>h2 o' i' j' x a1 a2 a3 (by omega)
  ·rw[if_neg kp]
   have kz:k=0:=by omega
   subst kz
   exact qjb C M' hi (by omega) up h1 fun o' i' j' x a1 a2 a3 a4=>h2 o' i' j' x a1 a2 a3 (by omega)
theorem ql8{Q:ForInStep S2->SortSt->Prop}(R:Rk prog w A s κ a0 r)(C:Ab r a0 a b)(hk:kindOf st=κ)(M:Mg r a b o i j)(hi:i + 1 < a.size)(hj:j < b.size)
  (h1:∀ v c st',Sg st st'->FinM r a b v->Q (.done (some v,c)) st') (h2:∀ o' i' j' x st',Sg st st'->Mg r a b o' i' j'->i' + 1 < a.size->j' < b.size->i + j < i' + j'->Q (.done (none,o',i',j',x)) st'/\Q (.yield (none,o',i',j',x)) st'):wpS (model prog w) A E s (lo2a a b o i j g ac bc) Q st:=by
 unfold lo2a setG
 refine zac (zbk ?_)
 have sg:Sg st (za1 (kindOf st) (arrOf st) (zaB st) g (zaR st)):=⟨rfl,rfl,rfl,rfl⟩
 have hk':kindOf (za1 (kindOf st) (arrOf st) (zaB st) g (zaR st))=κ:=hk
 generalize za1 (kindOf st) (arrOf st) (zaB st) g (zaR st)=st' at sg hk' ⊢
 have h1':=fun v c=>h1 v c st' sg
 refine zac (qY hj (zac (qdE R hk' (C.mb j hj) (by omega) (fun k k1=>C.ma _ (by omega)) (fun k k1=>C.ne _ j (by omega) hj) (fun x y x1 x2 x3=>C.sa x y (zau _) x2 (by omega)) (by omega) fun k k1 k2 k3=>?_)))
 dsimp only
 have kn:k < a.size - i:=by
  rcases Nat.lt_or_ge k (a.size - i) with z | z
  ·exact z
  ·have:=k2 (a.size - 1 - i) (by omega)
   rw[show i + (a.size - 1 - i)=a.size - 1 by omega] at this
   have:=C.top j hj
   unfold rkA at *
   omega
 have M2:=M.pas C.sa k (by omega) fun q q1 q2 m m1 m2=>by
  have:=k2 (q - i) (by omega)
  rw[show i + (q - i)=q by omega] at this
  exact zaP this (qdk C.sb m1 m2)
 have up:∀ m,i + k<=m->m < a.size->rkA r b j < rkA r a m:=fun m m1 m2=>by
  have:=k3 (m - i) (by omega) (by omega)
  rwa [show i + (m - i)=m by omega] at this
 by_cases kp:k > 0
 ·rw[if_pos kp]
  by_cases e:(i + k + 1 == a.size)=true
  ·rw[if_pos e]
   exact zak (h1' _ _ (M2.la (qay e) C.sa C.sb C.top))
  ·rw[if_neg e]
   have:=qaG e
   rw[if_neg (fun z=>by have:=qay z; omega)]
   exact qhV R C hk' M2 (by omega) hj up h1' fun o' i' j' x a1 a2 a3 a4=>h2 o' i' j' x st' sg a1 a2 a3 (by omega)
 ·rw[if_neg kp]
  have kz:k=0:=by omega
  subst kz
  exact qhV R C hk' M hi hj up h1' fun o' i' j' x a1 a2 a3 a4=>h2 o' i' j' x st' sg a1 a2 a3 (by omega)
theorem Sg.trans{st st' st'':SortSt}(x:Sg st st')(y:Sg st' st''):Sg st st'':=⟨y.1.trans x.1,y.2.1.trans x.2.1,y.2.2.1.trans x.2.2.1,y.2.2.2.trans x.2.2.2⟩
theorem qnF{Q:Array Keyed->SortSt->Prop}(R:Rk prog w A s κ a0 r)(C:Ab r a0 a b)(hk:kindOf st=κ)(h:∀ v st',Sg st st'->FinM r a b v->Q v st'):wpS (model prog w) A E s (mlo' a b) Q st:=by
 rw[qnJ]
 unfold mloB
 have a1:=C.a1
 have b1:=C.b1
 have M0:Mg r a b #[b.getD 0 dK] 0 1:=by
  have M:Mg r a b #[] 0 0:=⟨by simp,by simp,(fun x hx=>by simp at hx),(fun x hx=>by simp at hx)⟩
  exact M.pb C.sb b1 fun k _ k2=>zaP C.low (qdk C.sa (zau _) k2)
 refine zac (wpS_lift (zbh ⟨rfl,?_⟩))
 refine zac (qY b1 ?_)
 dsimp only
 by_cases e:(1 == b.size)=true
 ·rw[if_pos e]
  have:=qay e
  rw[this] at M0 ⊢
  exact zak (h _ st ⟨rfl,rfl,rfl,rfl⟩ (M0.dn C.sa))
 rw[if_neg e]
 have b2:=qaG e
 by_cases e2:(0 + 1 == a.size)=true
 ·rw[if_pos e2]
  exact zak (h _ st ⟨rfl,rfl,rfl,rfl⟩ (M0.la (qay e2) C.sa C.sb C.top))
 rw[if_neg e2]
 have a2:=qaG e2
 refine zac (wpS_get ?_)
 refine zac (zaT (za8 (I:=fun x c st'=>Sg st st'/\∃ o i j g,c=(none,o,i,j,g)/\Mg r a b o i j/\i + 1 < a.size/\j < b.size/\x + 1<=i + j)
  (Q:=fun c st'=>Sg st st'/\∃ v y,c=(some v,y)/\FinM r a b v) ?st ?fi ⟨⟨rfl,rfl,rfl,rfl⟩,_,_,_,_,rfl,M0,by omega,by omega,by omega⟩) ?po)
 case fi=>
  rintro c st' ⟨_,o,i,j,g,rfl,_,h1,h2,h3⟩
  omega
 case po=>
  rintro c st' ⟨sg,v,y,rfl,hv⟩
  exact zak (h v st' sg hv)
 case st=>
  rintro x c st' _ hx ⟨sg,o,i,j,g,rfl,M,hi,hj,hx1⟩
  have hk':kindOf st'=κ:=sg.1.trans hk
  dsimp only
  refine zac (zaT (za8 (I:=fun _ c t=>t=st'/\∃ o i j y,c=(none,o,i,j,y)/\Mg r a b o i j/\i + 1 < a.size/\j < b.size/\x + 1<=i + j)
   (Q:=fun c t=>t=st'/\((∃ v y,c=(some v,y)/\FinM r a b v)\/∃ o i j y,c=(none,o,i,j,y)/\Mg r a b o i j/\i + 1 < a.size/\j < b.size/\x + 1<=i + j)) ?st1 ?fi1 ⟨rfl,_,_,_,_,rfl,M,hi,hj,hx1⟩) ?po1)
  case fi1=>
   rintro c t ⟨rfl,o,i,j,y,rfl,z⟩
   exact⟨rfl,.inr ⟨o,i,j,y,rfl,z⟩⟩
  case st1=>
   rintro x1 c t _ _ ⟨rfl,o,i,j,⟨ac,bc⟩,rfl,M,hi,hj,hx1⟩
   show wpS _ _ _ _ (lo1 a b g o i j ac bc) _ _
   exact qoq R C hk' M hi hj (fun v c hv=>⟨rfl,.inl ⟨v,c,rfl,hv⟩⟩) fun o' i' j' p q m1 m2 m3 m4=>⟨⟨rfl,.inr ⟨o',i',j',_,rfl,m1,m2,m3,by omega⟩⟩,⟨rfl,o',i',j',_,rfl,m1,m2,m3,by omega⟩⟩
  case po1=>
   rintro c t ⟨rfl,hc⟩
   rcases hc with⟨v,y,rfl,hv⟩ | ⟨o,i,j,⟨ac,bc⟩,rfl,M,hi,hj,hx1⟩
   ·exact zak ⟨sg,v,_,rfl,hv⟩
   dsimp only
   refine zac (wpS_lift (zbh ⟨rfl,?_⟩))
   refine zac (zaT (za8 (I:=fun n c u=>Sg st u/\∃ o i j y,c=(none,o,i,j,y)/\Mg r a b o i j/\i + 1 < a.size/\j < b.size/\x + 1<=i + j/\(1<=n->x + 2<=i + j))
    (Q:=fun c u=>Sg st u/\((∃ v y,c=(some v,y)/\FinM r a b v)\/∃ o i j y,c=(none,o,i,j,y)/\Mg r a b o i j/\i + 1 < a.size/\j < b.size/\x + 2<=i + j)) ?st2 ?fi2 ⟨sg,_,_,_,_,rfl,M,hi,hj,hx1,fun z=>by omega⟩) ?po2)
   case fi2=>
    rintro c u ⟨su,o,i,j,y,rfl,z1,z2,z3,z4,z5⟩
    exact⟨su,.inr ⟨o,i,j,y,rfl,z1,z2,z3,z5 (by omega)⟩⟩
   case st2=>
    rintro n c u _ _ ⟨su,o,i,j,⟨g,ac,bc⟩,rfl,M,hi,hj,hx1,hx2⟩
    have ku:kindOf u=κ:=su.1.trans hk
    show wpS _ _ _ _ (if g > 1 then lo2a a b o i j (g - 1) ac bc else lo2a a b o i j g ac bc) _ _
    have key:∀ g',wpS (model prog w) A E s (lo2a a b o i j g' ac bc) (fun r' st'=>match r' with
      | .done c'=>Sg st st'/\((∃ v y,c'=(some v,y)/\FinM r a b v)\/∃ o i j y,c'=(none,o,i,j,y)/\Mg r a b o i j/\i + 1 < a.size/\j < b.size/\x + 2<=i + j)
      | .yield c'=>Sg st st'/\∃ o i j y,c'=(none,o,i,j,y)/\Mg r a b o i j/\i + 1 < a.size/\j < b.size/\x + 1<=i + j/\(1<=n + 1->x + 2<=i + j)) u:=fun g'=>
     ql8 R C ku M hi hj (fun v c st'' sg' hv=>⟨su.trans sg',.inl ⟨v,c,rfl,hv⟩⟩) fun o' i' j' y st'' sg' m1 m2 m3 m4=>⟨⟨su.trans sg',.inr ⟨o',i',j',y,rfl,m1,m2,m3,by omega⟩⟩,⟨su.trans sg',o',i',j',y,rfl,m1,m2,m3,by omega,fun _=>by omega⟩⟩
    by_cases e:g > 1
    ·rw[if_pos e]; exact zaT (key (g - 1)) fun r' st'' z=>by cases r' <;> exact z
    ·rw[if_neg e]; exact zaT (key g) fun r' st'' z=>by cases r' <;> exact z
   case po2=>
    rintro c u ⟨su,hc⟩
    rcases hc with⟨v,y,rfl,hv⟩ | ⟨o,i,j,⟨g,ac,bc⟩,rfl,M,hi,hj,hx2⟩
    ·exact zak ⟨su,v,_,rfl,hv⟩
    dsimp only
    unfold setG
    refine zac (zbk (zak ?_))
    exact⟨su.trans ⟨rfl,rfl,rfl,rfl⟩,o,i,j,g + 1,rfl,M,hi,hj,by omega⟩
end
noncomputable def mhi':Array Keyed->Array Keyed->StateT SortSt Sem (Array Keyed):=sortPriv% PySem.Builtin.mergeHi
noncomputable def dnH(a b o:Array Keyed)(i j:Nat):Array Keyed:=a.extract 0 i ++ b.extract 0 j ++ o.reverse
noncomputable def fiH(a b o:Array Keyed)(i j:Nat):Array Keyed:=b.extract 0 j ++ a.extract 0 i ++ o.reverse
noncomputable abbrev T1:=Option (Array Keyed) × Nat × Nat × Array Keyed × Nat × Nat
noncomputable abbrev T2:=Option (Array Keyed) × Nat × Nat × Array Keyed × Nat × Nat × Nat
noncomputable def hi1(a b:Array Keyed)(g i j:Nat)(o:Array Keyed)(ac bc:Nat):StateT SortSt Sem (ForInStep T1):=do
 let x <- elem' b (j - 1)
 let y <- elem' a (i - 1)
 match <- lt' x y with
 | some aw=>
  if aw=true then do
   let z <- elem' a (i - 1)
   if (i - 1 == 0)=true then pure (.done (some (dnH a b (o.push z) (i - 1) j),i - 1,j,o.push z,ac + 1,0))
   else if ac + 1 ≥ g then pure (.done (none,i - 1,j,o.push z,ac + 1,0)) else pure (.yield (none,i - 1,j,o.push z,ac + 1,0))
  else do
   let z <- elem' b (j - 1)
   if (j - 1 == 1)=true then pure (.done (some (fiH a b (o.push z) i (j - 1)),i,j - 1,o.push z,0,bc + 1))
   else if bc + 1 ≥ g then pure (.done (none,i,j - 1,o.push z,0,bc + 1)) else pure (.yield (none,i,j - 1,o.push z,0,bc + 1))
 | _=>pure (.done (some (dnH a b o i j),i,j,o,ac,bc))
noncomputable def hi2c(a b:Array Keyed)(i j:Nat)(o:Array Keyed)(g ac bc:Nat):StateT SortSt Sem (ForInStep T2):=do
 let z <- elem' a (i - 1)
 if (i - 1 == 0)=true then pure (.done (some (dnH a b (o.push z) (i - 1) j),i - 1,j,o.push z,g,ac,bc))
 else if (decide (ac < 7) && decide (bc < 7))=true then pure (.done (none,i - 1,j,o.push z,g,ac,bc)) else pure (.yield (none,i - 1,j,o.push z,g,ac,bc))
noncomputable def hi2b(a b:Array Keyed)(i j:Nat)(o:Array Keyed)(g ac bc:Nat):StateT SortSt Sem (ForInStep T2):=do
 let z <- elem' b (j - 1)
 if (j - 1 == 1)=true then pure (.done (some (fiH a b (o.push z) i (j - 1)),i,j - 1,o.push z,g,ac,bc))
 else do
  let y <- elem' a (i - 1)
  match <- gal' true y b 0 (j - 1) (j - 1 - 1) with
  | some k=>
   if j - 1 - k > 0 then
    if (k == 1)=true then pure (.done (some (fiH a b (o.push z ++ (b.extract k (j - 1)).reverse) i k),i,k,o.push z ++ (b.extract k (j - 1)).reverse,g,ac,j - 1 - k))
    else if (k == 0)=true then pure (.done (some (dnH a b (o.push z ++ (b.extract k (j - 1)).reverse) i k),i,k,o.push z ++ (b.extract k (j - 1)).reverse,g,ac,j - 1 - k))
    else hi2c a b i k (o.push z ++ (b.extract k (j - 1)).reverse) g ac (j - 1 - k)
   else hi2c a b i (j - 1) (o.push z) g ac (j - 1 - k)
  | _=>pure (.done (some (dnH a b (o.push z) i (j - 1)),i,j - 1,o.push z,g,ac,bc))
noncomputable def hi2a(a b:Array Keyed)(i j:Nat)(o:Array Keyed)(g ac bc:Nat):StateT SortSt Sem (ForInStep T2):=do
 setG g
 let x <- elem' b (j - 1)
 match <- gal' false x a 0 i (i - 1) with
 | some k=>
  if i - k > 0 then
   if (k == 0)=true then pure (.done (some (dnH a b (o ++ (a.extract k i).reverse) k j),k,j,o ++ (a.extract k i).reverse,g,i - k,bc))
   else hi2b a b k j (o ++ (a.extract k i).reverse) g (i - k) bc
  else hi2b a b i j o g (i - k) bc
 | _=>pure (.done (some (dnH a b o i j),i,j,o,g,ac,bc))
noncomputable def mhiB(a b:Array Keyed):StateT SortSt Sem (Array Keyed):=do
 rule "list.sort.merge-hi"
 let tt:=a.size + b.size
 let mut i:=a.size - 1
 let mut j:=b.size
 let mut o:Array Keyed:=#[<- elem' a i]
 if i == 0 then return dnH a b o i j
 if j == 1 then return fiH a b o i j
 let mut g:=gallopOf (<- get)
 for _ in [0:tt] do
  let mut ac:=0
  let mut bc:=0
  for _ in [0:tt] do
   let some aw <- lt' (<- elem' b (j - 1)) (<- elem' a (i - 1)) | return dnH a b o i j
   if aw then
    i:=i - 1; o:=o.push (<- elem' a i); ac:=ac + 1; bc:=0
    if i == 0 then return dnH a b o i j
    if ac ≥ g then break
   else
    j:=j - 1; o:=o.push (<- elem' b j); bc:=bc + 1; ac:=0
    if j == 1 then return fiH a b o i j
    if bc ≥ g then break
  rule "list.sort.gallop"
  g:=g + 1
  for _ in [0:tt] do
   if g > 1 then g:=g - 1
   setG g
   let some e <- gal' false (<- elem' b (j - 1)) a 0 i (i - 1) | return dnH a b o i j
   let k:=i - e
   ac:=k
   if k > 0 then
    o:=o ++ (a.extract e i).reverse; i:=e
    if i == 0 then return dnH a b o i j
   j:=j - 1; o:=o.push (<- elem' b j)
   if j == 1 then return fiH a b o i j
   let some e <- gal' true (<- elem' a (i - 1)) b 0 j (j - 1) | return dnH a b o i j
   let k:=j - e
   bc:=k
   if k > 0 then
    o:=o ++ (b.extract e j).reverse; j:=e
    if j == 1 then return fiH a b o i j
    if j == 0 then return dnH a b o i j
   i:=i - 1; o:=o.push (<- elem' a i)
   if i == 0 then return dnH a b o i j
   if ac < 7 && bc < 7 then break
  g:=g + 1
  setG g
 unsupported "internal:list.sort.merge-bound"
theorem qnX(a b:Array Keyed):mhi' a b=mhiB a b:=rfl
structure Mh(r:Keyed->Nat)(a b o:Array Keyed)(i j:Nat):Prop where
 pm:o.toList.Perm (a.toList.drop i ++ b.toList.drop j)
 sd:o.toList.Pairwise fun x y=>r y < r x
 ua:∀ x∈o.toList,∀ k,k < i->rkA r a k < r x
 ub:∀ x∈o.toList,∀ k,k < j->rkA r b k < r x
section
variable {r:Keyed->Nat}{a b o:Array Keyed}{i j:Nat}
theorem qiJ{xs:Array Keyed}{k:Nat}(h:k < xs.size):xs.toList.drop k=xs.getD k dK :: xs.toList.drop (k + 1):=by
 rw[getD_at h,zcp (by simpa using h)]
 simp
theorem Mh.pa(h:Mh r a b o (i + 1) j)(sa:Sd r a 0 a.size)(hi:i < a.size)(hlt:∀ k,k < j->rkA r b k < rkA r a i):Mh r a b (o.push (a.getD i dK)) i j:=by
 refine⟨?_,?_,fun x hx k k1=>?_,fun x hx k k1=>?_⟩
 ·rw[za7,qiJ hi,List.cons_append]
  exact(zb0).trans (List.Perm.cons _ h.pm)
 ·rw[za7,List.pairwise_append]
  exact⟨h.sd,zco _ _,fun x hx y hy=>by rw[List.mem_singleton.mp hy]; exact h.ua x hx i (Nat.lt_succ_self _)⟩
 ·rw[za7,zbY] at hx
  rcases hx with hx | hx
  ·exact h.ua x hx k (by omega)
  ·rw[List.mem_singleton.mp hx]; exact sa k i (zau _) k1 hi
 ·rw[za7,zbY] at hx
  rcases hx with hx | hx
  ·exact h.ub x hx k k1
  ·rw[List.mem_singleton.mp hx]; exact hlt k k1
theorem Mh.pb(h:Mh r a b o i (j + 1))(sb:Sd r b 0 b.size)(hj:j < b.size)(hlt:∀ k,k < i->rkA r a k < rkA r b j):Mh r a b (o.push (b.getD j dK)) i j:=by
 refine⟨?_,?_,fun x hx k k1=>?_,fun x hx k k1=>?_⟩
 ·rw[za7,qiJ hj]
  refine(zb0).trans ((List.Perm.cons _ h.pm).trans ?_)
  exact List.perm_middle.symm
 ·rw[za7,List.pairwise_append]
  exact⟨h.sd,zco _ _,fun x hx y hy=>by rw[List.mem_singleton.mp hy]; exact h.ub x hx j (Nat.lt_succ_self _)⟩
 ·rw[za7,zbY] at hx
  rcases hx with hx | hx
  ·exact h.ua x hx k k1
  ·rw[List.mem_singleton.mp hx]; exact hlt k k1
 ·rw[za7,zbY] at hx
  rcases hx with hx | hx
  ·exact h.ub x hx k (by omega)
  ·rw[List.mem_singleton.mp hx]; exact sb k j (zau _) k1 hj
theorem qh4{xs:Array Keyed}{e i:Nat}(h:e < i)(hi:i<=xs.size):o ++ (xs.extract e i).reverse=(o.push (xs.getD (i - 1) dK)) ++ (xs.extract e (i - 1)).reverse:=by
 have e1:xs.extract e i=(xs.extract e (i - 1)).push (xs.getD (i - 1) dK):=by
  have:=qej (o:=#[]) (xs:=xs) (i:=e) (k:=i - 1 - e) (by omega)
  rw[show e + (i - 1 - e + 1)=i by omega,show e + (i - 1 - e)=i - 1 by omega] at this
  simpa using this
 rw[e1]
 apply Array.toList_inj.mp
 simp
theorem Mh.pas(sa:Sd r a 0 a.size):∀ (n:Nat) (o:Array Keyed) (i e:Nat),i - e=n->e<=i->i<=a.size->Mh r a b o i j->(∀ q,e<=q->q < i->∀ k,k < j->rkA r b k < rkA r a q)->Mh r a b (o ++ (a.extract e i).reverse) e j
 | 0,o,i,e,h1,h2,h3,h,_=>by
  have:i=e:=by omega
  subst this
  have:o ++ (a.extract i i).reverse=o:=by
   apply Array.toList_inj.mp
   rw[zbp,Array.toList_reverse,zcd,zce,Nat.sub_self]
   simp
  rw[this]; exact h
 | n + 1,o,i,e,h1,h2,h3,h,h4=>by
  rw[qh4 (by omega) h3]
  obtain⟨m,rfl⟩:∃ m,i=m + 1:=⟨i - 1,by omega⟩
  exact Mh.pas sa n _ m e (by omega) (by omega) (by omega) (h.pa sa (by omega) (h4 m (by omega) (by omega))) fun q q1 q2=>h4 q q1 (by omega)
theorem Mh.pbs(sb:Sd r b 0 b.size):∀ (n:Nat) (o:Array Keyed) (j e:Nat),j - e=n->e<=j->j<=b.size->Mh r a b o i j->(∀ q,e<=q->q < j->∀ k,k < i->rkA r a k < rkA r b q)->Mh r a b (o ++ (b.extract e j).reverse) i e
 | 0,o,j,e,h1,h2,h3,h,_=>by
  have:j=e:=by omega
  subst this
  have:o ++ (b.extract j j).reverse=o:=by
   apply Array.toList_inj.mp
   rw[zbp,Array.toList_reverse,zcd,zce,Nat.sub_self]
   simp
  rw[this]; exact h
 | n + 1,o,j,e,h1,h2,h3,h,h4=>by
  rw[qh4 (by omega) h3]
  obtain⟨m,rfl⟩:∃ m,j=m + 1:=⟨j - 1,by omega⟩
  exact Mh.pbs sb n _ m e (by omega) (by omega) (by omega) (h.pb sb (by omega) (h4 m (by omega) (by omega))) fun q q1 q2=>h4 q q1 (by omega)
theorem qiA{xs:Array Keyed}{i:Nat}:(xs.extract 0 i).toList=xs.toList.take i:=by
 rw[zcd,zce]
 simp
theorem qck{xs:Array Keyed}{i:Nat}(hi:i<=xs.size){y:Keyed}(h:y∈xs.toList.take i):∃ k,k < i/\r y=rkA r xs k:=by
 obtain⟨n,hn,e⟩:=List.mem_iff_getElem.mp h
 rw[List.length_take,zaN] at hn
 refine⟨n,by omega,?_⟩
 unfold rkA
 rw[getD_at (by omega),<- e]
 simp
theorem qfV{xs:Array Keyed}{i:Nat}(hs:Sd r xs 0 xs.size):(xs.toList.take i).Pairwise fun x y=>r x < r y:=by
 have:=qdg (i:=0) hs
 rw[List.drop_zero] at this
 exact this.sublist (List.take_sublist _ _)
theorem Mh.dn(h:Mh r a b o 0 j)(hj:j<=b.size)(sb:Sd r b 0 b.size):FinM r a b (dnH a b o 0 j):=by
 have e:(dnH a b o 0 j).toList=b.toList.take j ++ o.toList.reverse:=by
  unfold dnH
  rw[zbp,zbp,qiA,qiA,Array.toList_reverse,List.take_zero,List.nil_append]
 unfold FinM
 rw[e]
 refine⟨?_,List.pairwise_append.mpr ⟨qfV sb,List.pairwise_reverse.mpr h.sd,fun x hx y hy=>?_⟩⟩
 ·have p:=h.pm
  rw[List.drop_zero] at p
  refine(zbZ _ ((List.reverse_perm _).trans p)).trans ?_
  rw[<- zbi]
  refine(List.Perm.append_right _ zb0).trans ?_
  rw[zbi,zcf]
 ·obtain⟨k,k1,e⟩:=qck (r:=r) hj hx
  rw[e]; exact h.ub y (List.mem_reverse.mp hy) k k1
theorem Mh.fi(h:Mh r a b o i 1)(hi:i<=a.size)(b1:0 < b.size)(sa:Sd r a 0 a.size)(sb:Sd r b 0 b.size)(low:rkA r b 0 < rkA r a 0):FinM r a b (fiH a b o i 1):=by
 have e:(fiH a b o i 1).toList=b.toList.take 1 ++ (a.toList.take i ++ o.toList.reverse):=by
  unfold fiH
  rw[zbp,zbp,qiA,qiA,Array.toList_reverse,zbi]
 unfold FinM
 rw[e]
 refine⟨?_,List.pairwise_append.mpr ⟨qfV sb,List.pairwise_append.mpr ⟨qfV sa,List.pairwise_reverse.mpr h.sd,fun x hx y hy=>?_⟩,fun x hx y hy=>?_⟩⟩
 ·refine(zbZ _ (zbZ _ ((List.reverse_perm _).trans h.pm))).trans ?_
  rw[<- zbi (a.toList.take i),zcf]
  refine(zb0).trans ?_
  rw[zbi]
  refine zbZ _ ((zb0).trans ?_)
  rw[zcf]
 ·obtain⟨k,k1,e⟩:=qck (r:=r) hi hx
  rw[e]; exact h.ua y (List.mem_reverse.mp hy) k k1
 ·obtain⟨k,k1,e⟩:=qck (r:=r) (by omega) hx
  have:k=0:=by omega
  subst this
  rw[e]
  rcases List.mem_append.mp hy with hy | hy
  ·obtain⟨m,m1,e'⟩:=qck (r:=r) hi hy
   rw[e']; exact zaP low (qdk sa (zau _) (by omega))
  ·exact h.ub y (List.mem_reverse.mp hy) 0 (by omega)
end
section
variable {prog:zai}{w:World}{A:Around}{E:Value->Shared->Prop}{s:Shared}{κ:SortKind}{a0:Array Keyed}{r:Keyed->Nat}{a b o:Array Keyed}{i j g ac bc:Nat}{st:SortSt}
theorem qm9{Q:ForInStep T1->SortSt->Prop}(R:Rk prog w A s κ a0 r)(C:Ab r a0 a b)(hk:kindOf st=κ)(M:Mh r a b o i j)(i1:1<=i)(ia:i<=a.size)(j1:2<=j)(jb:j<=b.size)
  (h1:∀ v c,FinM r a b v->Q (.done (some v,c)) st) (h2:∀ o' i' j' x,Mh r a b o' i' j'->1<=i'->2<=j'->i'<=i->j'<=j->Q (.done (none,i',j',o',x)) st/\Q (.yield (none,i',j',o',x)) st):wpS (model prog w) A E s (hi1 a b g i j o ac bc) Q st:=by
 obtain⟨p,rfl⟩:∃ p,i=p + 1:=⟨i - 1,by omega⟩
 obtain⟨q,rfl⟩:∃ q,j=q + 1:=⟨j - 1,by omega⟩
 unfold hi1
 rw[show p + 1 - 1=p from rfl,show q + 1 - 1=q from rfl]
 have ne:=C.ne p q (by omega) (by omega)
 refine zac (qY (by omega) (zac (qY (by omega) (zac (qjv R hk (C.mb q (by omega)) (C.ma p (by omega)) (zaK ne) ?_)))))
 show wpS _ _ _ _ (if decide (rkA r b q < rkA r a p)=true then _ else _) _ _
 by_cases l:rkA r b q < rkA r a p
 ·rw[if_pos (decide_eq_true l)]
  have M':=M.pa C.sa (by omega) fun k k1=>zbL (qdk C.sb (show k<=q by omega) (by omega)) l
  refine zac (qY (by omega) ?_)
  by_cases e:(p == 0)=true
  ·rw[if_pos e]
   have:=qay e
   subst this
   exact zak (h1 _ _ (M'.dn jb C.sb))
  ·rw[if_neg e]
   have:=qaG e
   have z:=h2 _ _ _ (ac + 1,0) M' (by omega) j1 (by omega) (zae _)
   by_cases e2:ac + 1 ≥ g
   ·rw[if_pos e2]; exact zak z.1
   ·rw[if_neg e2]; exact zak z.2
 ·rw[if_neg (by simp only[decide_eq_true_eq]; exact l)]
  have M':=M.pb C.sb (by omega) fun k k1=>zbL (qdk C.sa (show k<=p by omega) (by omega)) (show rkA r a p < rkA r b q by omega)
  refine zac (qY (by omega) ?_)
  by_cases e:(q == 1)=true
  ·rw[if_pos e]
   have:=qay e
   subst this
   exact zak (h1 _ _ (M'.fi ia C.b1 C.sa C.sb C.low))
  ·rw[if_neg e]
   have:=qaG e
   have z:=h2 _ _ _ (0,bc + 1) M' i1 (by omega) (zae _) (by omega)
   by_cases e2:bc + 1 ≥ g
   ·rw[if_pos e2]; exact zak z.1
   ·rw[if_neg e2]; exact zak z.2
theorem qhU{Q:ForInStep T2->SortSt->Prop}(C:Ab r a0 a b)(M:Mh r a b o i j)(i1:1<=i)(ia:i<=a.size)(j1:2<=j)(jb:j<=b.size)(hl:∀ k,k < j->rkA r b k < rkA r a (i - 1))
  (h1:∀ v c,FinM r a b v->Q (.done (some v,c)) st) (h2:∀ o' i' j' x,Mh r a b o' i' j'->1<=i'->2<=j'->i'<=i->j'<=j->i' + j' < i + j->Q (.done (none,i',j',o',x)) st/\Q (.yield (none,i',j',o',x)) st):wpS (model prog w) A E s (hi2c a b i j o g ac bc) Q st:=by
 obtain⟨p,rfl⟩:∃ p,i=p + 1:=⟨i - 1,by omega⟩
 unfold hi2c
 rw[show p + 1 - 1=p from rfl] at hl ⊢
 have M':=M.pa C.sa (by omega) hl
 refine zac (qY (by omega) ?_)
 by_cases e:(p == 0)=true
 ·rw[if_pos e]
  have:=qay e
  subst this
  exact zak (h1 _ _ (M'.dn jb C.sb))
 ·rw[if_neg e]
  have:=qaG e
  have z:=h2 _ _ _ (g,ac,bc) M' (by omega) j1 (by omega) (zae _) (by omega)
  by_cases e2:(decide (ac < 7) && decide (bc < 7))=true
  ·rw[if_pos e2]; exact zak z.1
  ·rw[if_neg e2]; exact zak z.2
theorem qjy{Q:ForInStep T2->SortSt->Prop}(R:Rk prog w A s κ a0 r)(C:Ab r a0 a b)(hk:kindOf st=κ)(M:Mh r a b o i j)(i1:1<=i)(ia:i<=a.size)(j1:2<=j)(jb:j<=b.size)(hl:∀ k,k < i->rkA r a k < rkA r b (j - 1))
  (h1:∀ v c,FinM r a b v->Q (.done (some v,c)) st) (h2:∀ o' i' j' x,Mh r a b o' i' j'->1<=i'->2<=j'->i'<=i->j'<=j->i' + j' < i + j->Q (.done (none,i',j',o',x)) st/\Q (.yield (none,i',j',o',x)) st):wpS (model prog w) A E s (hi2b a b i j o g ac bc) Q st:=by
 obtain⟨q,rfl⟩:∃ q,j=q + 1:=⟨j - 1,by omega⟩
 unfold hi2b
 rw[show q + 1 - 1=q from rfl] at hl ⊢
 have M':=M.pb C.sb (by omega) hl
 refine zac (qY (by omega) ?_)
 by_cases e:(q == 1)=true
 ·rw[if_pos e]
  have:=qay e
  subst this
  exact zak (h1 _ _ (M'.fi ia C.b1 C.sa C.sb C.low))
 ·rw[if_neg e]
  have q1:=qaG e
  refine zac (qY (by omega) (zac (qdE R hk (C.ma (i - 1) (by omega)) (by omega) (fun k k1=>C.mb _ (by omega)) (fun k k1=>zaK (C.ne _ _ (by omega) (by omega))) (fun x y x1 x2 x3=>C.sb x y (zau _) x2 (by omega)) (by omega) fun k k1 k2 k3=>?_)))
  dsimp only
  simp only[zbF] at k2 k3
  have kp:1<=k:=by
   rcases Nat.eq_zero_or_pos k with z | z
   ·subst z
    have:=k3 0 (zae _) (by omega)
    have l2:rkA r b 0 < rkA r a (i - 1):=zaP C.low (qdk C.sa (zau _) (by omega))
    unfold rkA at this l2
    omega
   ·exact z
  have M2:=Mh.pbs (i:=i) C.sb (q - k) _ q k rfl k1 (by omega) M' fun x x1 x2 m m1=>zbL (qdk C.sa (show m<=i - 1 by omega) (by omega)) (k3 x x1 x2)
  by_cases g1:q - k > 0
  ·rw[if_pos g1]
   by_cases e2:(k == 1)=true
   ·rw[if_pos e2]
    have:=qay e2
    subst this
    exact zak (h1 _ _ (M2.fi ia C.b1 C.sa C.sb C.low))
   ·rw[if_neg e2]
    have:=qaG e2
    rw[if_neg (fun z=>by have:=qay z; omega)]
    exact qhU C M2 i1 ia (by omega) (by omega) (fun m m1=>k2 m m1) h1 fun o' i' j' x a1 a2 a3 a4 a5 a6=>h2 o' i' j' x a1 a2 a3 a4 (by omega) (by omega)
  ·rw[if_neg g1]
   have kq:k=q:=by omega
   subst kq
   exact qhU C M' i1 ia (by omega) (by omega) (fun m m1=>k2 m m1) h1 fun o' i' j' x a1 a2 a3 a4 a5 a6=>h2 o' i' j' x a1 a2 a3 a4 (by omega) (by omega)
theorem qlE{Q:ForInStep T2->SortSt->Prop}(R:Rk prog w A s κ a0 r)(C:Ab r a0 a b)(hk:kindOf st=κ)(M:Mh r a b o i j)(i1:1<=i)(ia:i<=a.size)(j1:2<=j)(jb:j<=b.size)
  (h1:∀ v c st',Sg st st'->FinM r a b v->Q (.done (some v,c)) st') (h2:∀ o' i' j' x st',Sg st st'->Mh r a b o' i' j'->1<=i'->2<=j'->i'<=i->j'<=j->i' + j' < i + j->Q (.done (none,i',j',o',x)) st'/\Q (.yield (none,i',j',o',x)) st'):wpS (model prog w) A E s (hi2a a b i j o g ac bc) Q st:=by
 unfold hi2a setG
 refine zac (zbk ?_)
 have sg:Sg st (za1 (kindOf st) (arrOf st) (zaB st) g (zaR st)):=⟨rfl,rfl,rfl,rfl⟩
 have hk':kindOf (za1 (kindOf st) (arrOf st) (zaB st) g (zaR st))=κ:=hk
 generalize za1 (kindOf st) (arrOf st) (zaB st) g (zaR st)=st' at sg hk' ⊢
 have h1':=fun v c=>h1 v c st' sg
 refine zac (qY (by omega) (zac (qdE R hk' (C.mb (j - 1) (by omega)) (by omega) (fun k k1=>C.ma _ (by omega)) (fun k k1=>C.ne _ _ (by omega) (by omega)) (fun x y x1 x2 x3=>C.sa x y (zau _) x2 (by omega)) (by omega) fun k k1 k2 k3=>?_)))
 dsimp only
 simp only[zbF] at k2 k3
 have M2:=Mh.pas (j:=j) C.sa (i - k) _ i k rfl k1 ia M fun x x1 x2 m m1=>zbL (qdk C.sb (show m<=j - 1 by omega) (by omega)) (k3 x x1 x2)
 by_cases g1:i - k > 0
 ·rw[if_pos g1]
  by_cases e:(k == 0)=true
  ·rw[if_pos e]
   have:=qay e
   subst this
   exact zak (h1' _ _ (M2.dn jb C.sb))
  ·rw[if_neg e]
   have:=qaG e
   exact qjy R C hk' M2 (by omega) (by omega) j1 jb (fun m m1=>k2 m m1) h1' fun o' i' j' x a1 a2 a3 a4 a5 a6=>h2 o' i' j' x st' sg a1 a2 a3 (by omega) a5 (by omega)
 ·rw[if_neg g1]
  have kz:k=i:=by omega
  subst kz
  exact qjy R C hk' M i1 ia j1 jb (fun m m1=>k2 m m1) h1' fun o' i' j' x a1 a2 a3 a4 a5 a6=>h2 o' i' j' x st' sg a1 a2 a3 a4 a5 a6
theorem qnl{Q:Array Keyed->SortSt->Prop}(R:Rk prog w A s κ a0 r)(C:Ab r a0 a b)(hk:kindOf st=κ)(h:∀ v st',Sg st st'->FinM r a b v->Q v st'):wpS (model prog w) A E s (mhi' a b) Q st:=by
 rw[qnX]
 unfold mhiB
 have a1:=C.a1
 have b1:=C.b1
 have M0:Mh r a b #[a.getD (a.size - 1) dK] (a.size - 1) b.size:=by
  have M:Mh r a b #[] (a.size - 1 + 1) b.size:=⟨by rw[show a.size - 1 + 1=a.size by omega]; simp,by simp,(fun x hx=>by simp at hx),(fun x hx=>by simp at hx)⟩
  exact M.pa C.sa (by omega) fun k k1=>C.top k k1
 refine zac (wpS_lift (zbh ⟨rfl,?_⟩))
 refine zac (qY (by omega) ?_)
 dsimp only
 by_cases e:(a.size - 1 == 0)=true
 ·rw[if_pos e]
  have:=qay e
  rw[this] at M0 ⊢
  exact zak (h _ st ⟨rfl,rfl,rfl,rfl⟩ (M0.dn (zae _) C.sb))
 rw[if_neg e]
 have a2:=qaG e
 by_cases e2:(b.size == 1)=true
 ·rw[if_pos e2]
  have:=qay e2
  rw[this] at M0 ⊢
  exact zak (h _ st ⟨rfl,rfl,rfl,rfl⟩ (M0.fi (by omega) b1 C.sa C.sb C.low))
 rw[if_neg e2]
 have b2:=qaG e2
 refine zac (wpS_get ?_)
 refine zac (zaT (za8 (I:=fun x c st'=>Sg st st'/\∃ i j o g,c=(none,i,j,o,g)/\Mh r a b o i j/\(1<=i/\i<=a.size)/\(2<=j/\j<=b.size)/\x + i + j < a.size + b.size)
  (Q:=fun c st'=>Sg st st'/\∃ v y,c=(some v,y)/\FinM r a b v) ?st ?fi ⟨⟨rfl,rfl,rfl,rfl⟩,_,_,_,_,rfl,M0,by omega,by omega,by omega⟩) ?po)
 case fi=>
  rintro c st' ⟨_,i,j,o,g,rfl,_,h1,h2,h3⟩
  omega
 case po=>
  rintro c st' ⟨sg,v,y,rfl,hv⟩
  exact zak (h v st' sg hv)
 case st=>
  rintro x c st' _ hx ⟨sg,i,j,o,g,rfl,M,hi,hj,hx1⟩
  have hk':kindOf st'=κ:=sg.1.trans hk
  dsimp only
  refine zac (zaT (za8 (I:=fun _ c t=>t=st'/\∃ i j o y,c=(none,i,j,o,y)/\Mh r a b o i j/\(1<=i/\i<=a.size)/\(2<=j/\j<=b.size)/\x + i + j < a.size + b.size)
   (Q:=fun c t=>t=st'/\((∃ v y,c=(some v,y)/\FinM r a b v)\/∃ i j o y,c=(none,i,j,o,y)/\Mh r a b o i j/\(1<=i/\i<=a.size)/\(2<=j/\j<=b.size)/\x + i + j < a.size + b.size)) ?st1 ?fi1 ⟨rfl,_,_,_,_,rfl,M,hi,hj,hx1⟩) ?po1)
  case fi1=>
   rintro c t ⟨rfl,i,j,o,y,rfl,z⟩
   exact⟨rfl,.inr ⟨i,j,o,y,rfl,z⟩⟩
  case st1=>
   rintro x1 c t _ _ ⟨rfl,i,j,o,⟨ac,bc⟩,rfl,M,hi,hj,hx1⟩
   show wpS _ _ _ _ (hi1 a b g i j o ac bc) _ _
   exact qm9 R C hk' M hi.1 hi.2 hj.1 hj.2 (fun v c hv=>⟨rfl,.inl ⟨v,c,rfl,hv⟩⟩) fun o' i' j' y m1 m2 m3 m4 m5=>⟨⟨rfl,.inr ⟨i',j',o',_,rfl,m1,⟨m2,by omega⟩,⟨m3,by omega⟩,by omega⟩⟩,⟨rfl,i',j',o',_,rfl,m1,⟨m2,by omega⟩,⟨m3,by omega⟩,by omega⟩⟩
  case po1=>
   rintro c t ⟨rfl,hc⟩
   rcases hc with⟨v,y,rfl,hv⟩ | ⟨i,j,o,⟨ac,bc⟩,rfl,M,hi,hj,hx1⟩
   ·exact zak ⟨sg,v,_,rfl,hv⟩
   dsimp only
   refine zac (wpS_lift (zbh ⟨rfl,?_⟩))
   refine zac (zaT (za8 (I:=fun n c u=>Sg st u/\∃ i j o y,c=(none,i,j,o,y)/\Mh r a b o i j/\(1<=i/\i<=a.size)/\(2<=j/\j<=b.size)/\x + i + j < a.size + b.size/\(1<=n->x + 1 + i + j < a.size + b.size))
    (Q:=fun c u=>Sg st u/\((∃ v y,c=(some v,y)/\FinM r a b v)\/∃ i j o y,c=(none,i,j,o,y)/\Mh r a b o i j/\(1<=i/\i<=a.size)/\(2<=j/\j<=b.size)/\x + 1 + i + j < a.size + b.size)) ?st2 ?fi2 ⟨sg,_,_,_,_,rfl,M,hi,hj,hx1,fun z=>by omega⟩) ?po2)
   case fi2=>
    rintro c u ⟨su,i,j,o,y,rfl,z1,z2,z3,z4,z5⟩
    exact⟨su,.inr ⟨i,j,o,y,rfl,z1,z2,z3,z5 (by omega)⟩⟩
   case st2=>
    rintro n c u _ _ ⟨su,i,j,o,⟨g,ac,bc⟩,rfl,M,hi,hj,hx1,hx2⟩
    have ku:kindOf u=κ:=su.1.trans hk
    show wpS _ _ _ _ (if g > 1 then hi2a a b i j o (g - 1) ac bc else hi2a a b i j o g ac bc) _ _
    have key:∀ g',wpS (model prog w) A E s (hi2a a b i j o g' ac bc) (fun r' st'=>match r' with
      | .done c'=>Sg st st'/\((∃ v y,c'=(some v,y)/\FinM r a b v)\/∃ i j o y,c'=(none,i,j,o,y)/\Mh r a b o i j/\(1<=i/\i<=a.size)/\(2<=j/\j<=b.size)/\x + 1 + i + j < a.size + b.size)
      | .yield c'=>Sg st st'/\∃ i j o y,c'=(none,i,j,o,y)/\Mh r a b o i j/\(1<=i/\i<=a.size)/\(2<=j/\j<=b.size)/\x + i + j < a.size + b.size/\(1<=n + 1->x + 1 + i + j < a.size + b.size)) u:=fun g'=>
     qlE R C ku M hi.1 hi.2 hj.1 hj.2 (fun v c st'' sg' hv=>⟨su.trans sg',.inl ⟨v,c,rfl,hv⟩⟩) fun o' i' j' y st'' sg' m1 m2 m3 m4 m5 m6=>⟨⟨su.trans sg',.inr ⟨i',j',o',y,rfl,m1,⟨m2,by omega⟩,⟨m3,by omega⟩,by omega⟩⟩,⟨su.trans sg',i',j',o',y,rfl,m1,⟨m2,by omega⟩,⟨m3,by omega⟩,by omega,fun _=>by omega⟩⟩
    by_cases e:g > 1
    ·rw[if_pos e]; exact zaT (key (g - 1)) fun r' st'' z=>by cases r' <;> exact z
    ·rw[if_neg e]; exact zaT (key g) fun r' st'' z=>by cases r' <;> exact z
   case po2=>
    rintro c u ⟨su,hc⟩
    rcases hc with⟨v,y,rfl,hv⟩ | ⟨i,j,o,⟨g,ac,bc⟩,rfl,M,hi,hj,hx2⟩
    ·exact zak ⟨su,v,_,rfl,hv⟩
    dsimp only
    unfold setG
    refine zac (zbk (zak ?_))
    exact⟨su.trans ⟨rfl,rfl,rfl,rfl⟩,i,j,o,g + 1,rfl,M,hi,hj,by omega⟩
end
noncomputable def matB(q:Nat):StateT SortSt Sem Bool:=do
 let t <- get
 let (some (x,n,pw),some (y,m,_)):=((zaB t)[q]?,(zaB t)[q + 1]?) | unsupported "internal:list.sort.pending"
 set (za1 (kindOf t) (arrOf t) (((zaB t).setIfInBounds q (x,n + m,pw)).eraseIdxIfInBounds (q + 1)) (gallopOf t) (zaR t))
 let some k <- gal' false (<- elem' (arrOf t) y) (arrOf t) x n 0 | return false
 let (x,n):=(x + k,n - k)
 if n == 0 then return true
 let some m <- gal' true (<- elem' (arrOf t) (x + n - 1)) (arrOf t) y m (m - 1) | return false
 if m == 0 then return true
 let u:=(arrOf t).extract x y
 let v:=(arrOf t).extract y (y + m)
 let z <- if n<=m then mlo' u v else mhi' u v
 modify fun t=>za1 (kindOf t) (z.toList.zipIdx.foldl (fun a (p,j)=>a.setIfInBounds (x + j) p) (arrOf t)) (zaB t) (gallopOf t) (zaR t)
 return (zaR (<- get)).isNone
theorem qot(q:Nat):mergeAt' q=matB q:=rfl
section
variable {r:Keyed->Nat}{xs:Array Keyed}{i j k:Nat}
theorem qiX(x:Nat):∀ (z:List Keyed) (i:Nat) (a:Array Keyed),x + i + z.length<=a.size->
  ((z.zipIdx i).foldl (fun a (q:Keyed × Nat)=>a.setIfInBounds (x + q.2) q.1) a).toList=a.toList.take (x + i) ++ (z ++ a.toList.drop (x + i + z.length))
 | [],i,a,_=>by simp
 | y :: z,i,a,h=>by
  rw[zaW] at h
  rw[List.zipIdx_cons,List.foldl_cons,qiX x z (i + 1) _ (by rw[Array.size_setIfInBounds]; omega)]
  have hl:x + i < a.toList.length:=by rw[zaN]; omega
  rw[Array.toList_setIfInBounds]
  have e1:(a.toList.set (x + i) y).take (x + (i + 1))=a.toList.take (x + i) ++ [y]:=by
   rw[<- Nat.add_assoc,List.take_succ,List.take_set_of_le (zae _),List.getElem?_set_self hl]
   rfl
  have e2:(a.toList.set (x + i) y).drop (x + (i + 1) + z.length)=a.toList.drop (x + i + (y :: z).length):=by
   rw[List.drop_set_of_lt (by omega),zaW]
   congr 1; omega
  rw[e1,e2]
  simp
theorem qcd(h:k < j - i)(hj:j<=xs.size):rkA r (xs.extract i j) k=rkA r xs (i + k):=qbq (by rw[Array.getElem?_extract,if_pos (by omega)])
theorem qdq(hj:j<=xs.size):(xs.extract i j).size=j - i:=by rw[Array.size_extract]; omega
theorem qgB(hj:j<=xs.size)(h:Sd r xs i j):Sd r (xs.extract i j) 0 (xs.extract i j).size:=fun a b h1 h2 h3=>by
 rw[qdq hj] at h3
 rw[qcd (by omega) hj,qcd h3 hj]
 exact h _ _ (by omega) (by omega) (by omega)
theorem qnZ(h:Sd r xs 0 xs.size):xs.toList.Pairwise fun x y=>r x < r y:=by
 have:=qdg (i:=0) h
 rwa [List.drop_zero] at this
theorem qoT(h:xs.toList.Pairwise fun x y=>r x < r y):Sd r xs 0 xs.size:=fun a b _ h2 h3=>by
 have:=List.pairwise_iff_getElem.mp h a b (by rw[zaN]; omega) (by rw[zaN]; exact h3) h2
 unfold rkA
 rw[getD_at (by omega),getD_at h3]
 simpa using this
theorem qbW(hj:j<=xs.size){y:Keyed}(h:y∈(xs.extract i j).toList):∃ q,i<=q/\q < j/\r y=rkA r xs q:=by
 obtain⟨k,h1,e⟩:=List.mem_iff_getElem.mp h
 have h2:k < (xs.extract i j).size:=by rw[zaN] at h1; exact h1
 rw[qdq hj] at h2
 refine⟨i + k,by omega,by omega,?_⟩
 rw[<- qcd h2 hj]
 unfold rkA
 rw[getD_at (by rw[qdq hj]; exact h2),<- e]
 simp
theorem ext2{e:Nat}(h1:i<=j)(h2:j<=e):(xs.extract i j).toList ++ (xs.extract j e).toList=(xs.extract i e).toList:=by
 rw[<- zbp,Array.extract_append_extract,show min i j=i by omega,show max j e=e by omega]
theorem cut3{k m e:Nat}(h1:k<=m)(h2:m<=e)(h3:e<=xs.size):xs.toList=(xs.extract 0 k).toList ++ ((xs.extract k m).toList ++ (xs.extract m e).toList ++ (xs.extract e xs.size).toList):=by
 rw[ext2 h1 h2,ext2 (by omega) h3,ext2 (by omega) (by omega),Array.extract_size]
end
section
variable {prog:zai}{w:World}{A:Around}{E:Value->Shared->Prop}{s:Shared}{κ:SortKind}{a0:Array Keyed}{r:Keyed->Nat}{st:SortSt}{m l:Nat}
theorem ql0{v:SortSt}{Q:PUnit->SortSt->Prop}(h:Q ⟨⟩ v):wpS (model prog w) A E s (set v:StateT SortSt Sem PUnit) Q st:=zbk (f:=fun _=>v) h
theorem qnL(B:SB κ a0 st){q:Nat}(h:q < a0.size):(arrOf st).getD q dK∈a0.toList:=qbz B.perm (by rw[B.size]; exact h)
theorem qm2{Q:Bool->SortSt->Prop}{p p2:Nat}(R:Rk prog w A s κ a0 r)(B:SB κ a0 st)(hp:zaB st=#[(0,m,p),(m,l,p2)])(hm:0 < m)(hl:0 < l)(hz:m + l=a0.size)(s1:Sd r (arrOf st) 0 m)(s2:Sd r (arrOf st) m (m + l))
  (h:∀ st',SB κ a0 st'->zaB st'=#[(0,m + l,p)]->Sd r (arrOf st') 0 (m + l)->Q true st'):wpS (model prog w) A E s (mergeAt' 0) Q st:=by
 rw[qot]
 unfold matB
 refine zac (wpS_get ?_)
 rw[hp]
 have sz:=B.size
 have e0:(#[(0,m,p),(m,l,p2)]:Array (Nat × Nat × Nat))[0]?=some (0,m,p):=rfl
 have e1:(#[(0,m,p),(m,l,p2)]:Array (Nat × Nat × Nat))[0 + 1]?=some (m,l,p2):=rfl
 have e2:((#[(0,m,p),(m,l,p2)]:Array (Nat × Nat × Nat)).setIfInBounds 0 (0,m + l,p)).eraseIdxIfInBounds (0 + 1)=#[(0,m + l,p)]:=by
  apply Array.toList_inj.mp
  simp[Array.eraseIdxIfInBounds]
 rw[e0,e1]
 dsimp only
 rw[e2]
 refine zac (ql0 ?_)
 have ka:arrOf (za1 (kindOf st) (arrOf st) #[(0,m + l,p)] (gallopOf st) (zaR st))=arrOf st:=rfl
 have kp:zaB (za1 (kindOf st) (arrOf st) #[(0,m + l,p)] (gallopOf st) (zaR st))=#[(0,m + l,p)]:=rfl
 have kk:kindOf (za1 (kindOf st) (arrOf st) #[(0,m + l,p)] (gallopOf st) (zaR st))=κ:=B.kind
 have kf:zaR (za1 (kindOf st) (arrOf st) #[(0,m + l,p)] (gallopOf st) (zaR st))=none:=B.fail
 have hM:∀ q,q < a0.size->(arrOf st).getD q dK∈a0.toList:=fun q hq=>qnL B hq
 have hN:∀ q q',q < a0.size->q' < a0.size->q≠q'->rkA r (arrOf st) q≠rkA r (arrOf st) q':=fun q q' h1 h2=>qhM R B.perm (by omega) (by omega)
 have pm:=B.perm
 generalize za1 (kindOf st) (arrOf st) #[(0,m + l,p)] (gallopOf st) (zaR st)=t at ka kp kk kf ⊢
 generalize arrOf st=xs at *
 refine zac (m:=elem' xs m) (qY (by omega) ?_)
 refine zac (m:=gal' false (xs.getD m (zar,zar)) xs 0 m 0) (qdE R kk (hM m (by omega)) (by omega) (fun i hi=>hM _ (by omega)) (fun i hi=>hN _ _ (by omega) (by omega) (by omega)) (by rwa [zbF]) hm fun k k1 k2 k3=>?_)
 simp only[zbF] at k2 k3 ⊢
 have hd:∀ q,q < k->∀ e,m<=e->e < m + l->rkA r xs q < rkA r xs e:=fun q hq e h1 h2=>by
  have a1:=k2 q hq
  by_cases z:e=m
  ·subst z; exact a1
  ·exact zbQ a1 (s2 m e (zae _) (by omega) h2)
 by_cases e:(m - k == 0)=true
 ·rw[if_pos e]
  have:=qay e
  refine zak (h t ⟨by rw[ka]; exact pm,kk,kf⟩ kp ?_)
  rw[ka]
  intro i j _ h2 h3
  by_cases z1:j < m
  ·exact s1 i j (by omega) h2 z1
  ·by_cases z2:m<=i
   ·exact s2 i j z2 h2 h3
   ·exact hd i (by omega) j (by omega) h3
 rw[if_neg e]
 have km:=qaG e
 rw[show k + (m - k) - 1=m - 1 by omega]
 refine zac (qY (by omega) ?_)
 refine zac (qdE R kk (hM (m - 1) (by omega)) (by omega) (fun i hi=>hM _ (by omega)) (fun i hi=>hN _ _ (by omega) (by omega) (by omega)) s2 (by omega) fun g g1 g2 g3=>?_)
 dsimp only
 have g0:g≠0:=fun z=>by
  subst z
  have a1:=g3 0 (zae _) hl
  have a2:=k3 (m - 1) (by omega) (by omega)
  rw[Nat.add_zero] at a1
  unfold rkA at a1 a2
  omega
 rw[if_neg (fun z=>g0 (qay z))]
 have C:Ab r a0 (xs.extract k m) (xs.extract m (m + g)):=by
  have z1:(xs.extract k m).size=m - k:=qdq (by omega)
  have z2:(xs.extract m (m + g)).size=g:=by rw[qdq (by omega)]; omega
  refine⟨fun q hq=>?_,fun q hq=>?_,qgB (by omega) fun i j a b c=>s1 i j (by omega) b c,qgB (by omega) fun i j a b c=>s2 i j a b (by omega),fun a b h1 h2=>?_,fun b hb=>?_,?_,by omega,by omega⟩
  ·rw[zcc,Array.getElem?_extract,if_pos (by omega),<- zcc]; exact hM _ (by omega)
  ·rw[zcc,Array.getElem?_extract,if_pos (by omega),<- zcc]; exact hM _ (by omega)
  ·rw[qcd (by omega) (by omega),qcd (by omega) (by omega)]; exact hN _ _ (by omega) (by omega) (by omega)
  ·rw[qcd (by omega) (by omega),qcd (by omega) (by omega),z1,show k + (m - k - 1)=m - 1 by omega]; exact g2 b (by omega)
  ·rw[qcd (by omega) (by omega),qcd (by omega) (by omega),Nat.add_zero,Nat.add_zero]; exact k3 k (zae _) (by omega)
 have fin:∀ z t',Sg t t'->FinM r (xs.extract k m) (xs.extract m (m + g)) z->wpS (model prog w) A E s (do
   modify fun t=>za1 (kindOf t) (z.toList.zipIdx.foldl (fun a (p,j)=>a.setIfInBounds (k + j) p) (arrOf t)) (zaB t) (gallopOf t) (zaR t)
   return (zaR (<- get)).isNone) Q t':=fun z t' sg hf=>by
  refine zac (zbk (zac (wpS_get ?_)))
  have f1:zaR t'=none:=sg.2.2.2.trans kf
  show wpS _ _ _ _ (pure (zaR t').isNone) _ _
  rw[f1]
  refine zak ?_
  have zl:z.toList.length=m - k + g:=by
   rw[hf.1.length_eq,zbA,zaN,zaN,qdq (by omega),qdq (by omega)]; omega
  have ea:(z.toList.zipIdx.foldl (fun a (p,j)=>a.setIfInBounds (k + j) p) (arrOf t')).toList=(xs.extract 0 k).toList ++ (z.toList ++ (xs.extract (m + g) xs.size).toList):=by
   have:=qiX k z.toList 0 xs (by omega)
   rw[sg.2.1,ka,qiA,qdv]
   refine this.trans ?_
   rw[Nat.add_zero,zl,show k + (m - k + g)=m + g by omega]
  have c3:=cut3 (xs:=xs) (k:=k) (m:=m) (e:=m + g) (by omega) (by omega) (by omega)
  have key:Sd r (z.toList.zipIdx.foldl (fun a (p,j)=>a.setIfInBounds (k + j) p) (arrOf t')) 0 _:=qoT (r:=r) (by
   rw[ea]
   refine List.pairwise_append.mpr ⟨qnZ (qgB (by omega) fun i j a b c=>s1 i j a b (by omega)),List.pairwise_append.mpr ⟨hf.2,qnZ (qgB (by omega) fun i j a b c=>s2 i j (by omega) b (by omega)),fun x hx y hy=>?_⟩,fun x hx y hy=>?_⟩
   ·obtain⟨q,q1,q2,e'⟩:=qbW (r:=r) (zae _) hy
    rw[e']
    rcases List.mem_append.mp (hf.1.mem_iff.mp hx) with hx | hx
    ·obtain⟨q',b1,b2,e''⟩:=qbW (r:=r) (by omega) hx
     rw[e'']
     have a1:=g3 (q - m) (by omega) (by omega)
     rw[show m + (q - m)=q by omega] at a1
     have a2:rkA r xs q'<=rkA r xs (m - 1):=by
      by_cases w1:q'=m - 1
      ·rw[w1]; exact zae _
      ·exact Nat.le_of_lt (s1 _ _ (zau _) (by omega) (by omega))
     exact zbL a2 a1
    ·obtain⟨q',b1,b2,e''⟩:=qbW (r:=r) (by omega) hx
     rw[e'']; exact s2 _ _ b1 (by omega) (by omega)
   ·obtain⟨q,q1,q2,e'⟩:=qbW (r:=r) (by omega) hx
    rw[e']
    rcases List.mem_append.mp hy with hy | hy
    ·rcases List.mem_append.mp (hf.1.mem_iff.mp hy) with hy | hy
     ·obtain⟨q',b1,b2,e''⟩:=qbW (r:=r) (by omega) hy
      rw[e'']; exact s1 _ _ (zau _) (by omega) b2
     ·obtain⟨q',b1,b2,e''⟩:=qbW (r:=r) (by omega) hy
      rw[e'']; exact hd q q2 q' b1 (by omega)
    ·obtain⟨q',b1,b2,e''⟩:=qbW (r:=r) (zae _) hy
     rw[e'']; exact hd q q2 q' (by omega) (by omega))
  have pp:(z.toList.zipIdx.foldl (fun a (p,j)=>a.setIfInBounds (k + j) p) (arrOf t')).Perm xs:=Array.perm_iff_toList_perm.mpr (by
   rw[ea,c3]
   exact zbZ _ (List.Perm.append_right _ hf.1))
  rw[pp.size_eq,sz,<- hz] at key
  exact h _ ⟨pp.trans pm,sg.1.trans kk,rfl⟩ (sg.2.2.1.trans kp) key
 by_cases le:m - k<=g
 ·rw[if_pos le]
  exact zac (qnF R C kk fun v t' sg hv=>fin v t' sg hv)
 ·rw[if_neg le]
  exact zac (qnl R C kk fun v t' sg hv=>fin v t' sg hv)
theorem minrun{n:Nat}(h1:64<=n)(h2:n < 128):minRun' n n 0=n / 2 + n % 2:=by
 obtain⟨f,rfl⟩:∃ f,n=f + 2:=⟨n - 2,by omega⟩
 show minRun' (f + 1 + 1) (f + 2) 0=_
 rw[minRun'_succ,if_neg (by omega),minRun'_succ,if_pos (by omega)]
 omega
noncomputable def One(r:Keyed->Nat)(n:Nat)(st:SortSt):Prop:=(zaB st).size=1/\Sd r (arrOf st) 0 n
noncomputable def Two(r:Keyed->Nat)(n:Nat)(st:SortSt):Prop:=∃ m p p2,zaB st=#[(0,m,p),(m,n - m,p2)]/\0 < m/\m < n/\Sd r (arrOf st) 0 m/\Sd r (arrOf st) m n
theorem qmv{Q:Unit->SortSt->Prop}(R:Rk prog w A s κ a0 r)(B:SB κ a0 st)(hp:zaB st=#[])(h1:64<=a0.size)(h2:a0.size < 128)
  (h:∀ st',SB κ a0 st'->Sd r (arrOf st') 0 a0.size->Q () st'):wpS (model prog w) A E s sortRuns' Q st:=by
 rw[sortRuns'_eq]
 refine zac (wpS_get ?_)
 dsimp only
 simp only[B.size,minrun h1 h2]
 generalize hmr:a0.size / 2 + a0.size % 2=mr
 refine zac (zaT (za8
  (I:=fun x c t=>SB κ a0 t/\((x=0/\c=(none,0)/\zaB t=#[])\/(∃ m,1<=x/\(x=1\/m=a0.size)/\c=(none,m)/\mr<=m/\m<=a0.size/\zaB t=#[(0,m,0)]/\Sd r (arrOf t) 0 m)\/(2<=x/\c=(none,a0.size)/\Two r a0.size t)))
  (Q:=fun c t=>SB κ a0 t/\c=(none,a0.size)/\(One r a0.size t\/Two r a0.size t)) ?step ?fin ⟨B,.inl ⟨rfl,rfl,hp⟩⟩) ?post)
 case fin=>
  rintro c t ⟨B',⟨hx,_⟩ | ⟨m,x1,x2,rfl,m1,m2,p1,sd⟩ | ⟨_,rfl,tw⟩⟩
  ·omega
  ·have:m=a0.size:=by omega
   subst this
   exact⟨B',rfl,.inl ⟨by rw[p1]; rfl,sd⟩⟩
  ·exact⟨B',rfl,.inr tw⟩
 case step=>
  rintro x c t _ hx ⟨B',⟨rfl,rfl,p0⟩ | ⟨m,x1,x2,rfl,m1,m2,p1,sd⟩ | ⟨hx2,rfl,tw⟩⟩
  ·dsimp only
   rw[if_neg (by omega),Nat.sub_zero]
   refine zac (qdw R B' (by omega) (by omega) fun f t2 B2 C2 f1 f2 s2=>?_)
   dsimp only
   by_cases lt:f < mr
   ·rw[if_pos lt]
    refine zac (wpS_lift (zbh ⟨rfl,?_⟩))
    rw[show min a0.size mr=mr by omega]
    refine zac (qfd R B2 (by omega) f1 (by omega) s2 fun t3 B3 C3 s3=>?_)
    simp only[Bool.not_true,zbj,if_false]
    refine zac (wpS_get ?_)
    have hb:zaB t3=#[]:=by rw[C3.pend,C2.pend,p0]
    have hb':(zaB t3).back?=none:=by rw[hb]; rfl
    rw[hb']
    dsimp only
    refine zac (zbk (zak ⟨⟨B3.perm,B3.kind,B3.fail⟩,.inr (.inl ⟨mr,by omega,.inl trivial,by rw[zbF],by omega,by omega,?_,?_⟩)⟩))
    ·show(zaB t3).push _=_
     rw[hb]; rfl
    ·rw[zbF] at s3; exact s3
   ·rw[if_neg lt]
    refine zac (wpS_get ?_)
    have hb:zaB t2=#[]:=by rw[C2.pend,p0]
    have hb':(zaB t2).back?=none:=by rw[hb]; rfl
    rw[hb']
    dsimp only
    refine zac (zbk (zak ⟨⟨B2.perm,B2.kind,B2.fail⟩,.inr (.inl ⟨f,by omega,by omega,by rw[zbF],by omega,by omega,?_,?_⟩)⟩))
    ·show(zaB t2).push _=_
     rw[hb]; rfl
    ·rw[zbF] at s2; exact s2
  ·dsimp only
   by_cases ge:m ≥ a0.size
   ·rw[if_pos ge]
    have:m=a0.size:=by omega
    subst this
    exact zak ⟨B',rfl,.inl ⟨by rw[p1]; rfl,sd⟩⟩
   rw[if_neg ge]
   refine zac (qdw R B' (by omega) (by omega) fun f t2 B2 C2 f1 f2 s2=>?_)
   dsimp only
   by_cases lt:f < mr
   ·rw[if_pos lt]
    refine zac (wpS_lift (zbh ⟨rfl,?_⟩))
    rw[show min (a0.size - m) mr=a0.size - m by omega]
    refine zac (qfd R B2 (by omega) f1 (by omega) s2 fun t3 B3 C3 s3=>?_)
    simp only[Bool.not_true,zbj,if_false]
    refine zac (wpS_get ?_)
    have hb:zaB t3=#[(0,m,0)]:=by rw[C3.pend,C2.pend,p1]
    have hb':(zaB t3).back?=some (0,m,0):=by rw[hb]; rfl
    rw[hb']
    dsimp only
    generalize power' a0.size (2 * 0 + m) (2 * 0 + m + m + (a0.size - m)) a0.size=pw
    refine zac (zaT (za8 (I:=fun _ c t=>t=t3/\c=(none,())) (Q:=fun c t=>t=t3/\c=(none,())) ?_ (fun _ _ hh=>hh) ⟨rfl,rfl⟩) ?_)
    ·rintro y c t' _ _ ⟨rfl,rfl⟩
     refine zac (wpS_get ?_)
     rw[if_neg (by rw[hb]; exact zaU 1)]
     exact zak ⟨rfl,rfl⟩
    ·rintro c t' ⟨rfl,rfl⟩
     dsimp only
     refine zac (zbk (zac (zbk (zak ⟨⟨B3.perm,B3.kind,B3.fail⟩,.inr (.inr ⟨by omega,by rw[show m + (a0.size - m)=a0.size by omega],m,pw,0,?_,by omega,by omega,?_,?_⟩)⟩))))
     ·show((zaB t').modify ((zaB t').size - 1) _).push _=_
      rw[hb]; rfl
     ·exact C3.low.sd (zae _) (C2.low.sd (zae _) sd)
     ·rw[show m + (a0.size - m)=a0.size by omega] at s3; exact s3
   ·rw[if_neg lt]
    have:f=a0.size - m:=by omega
    subst this
    refine zac (wpS_get ?_)
    have hb:zaB t2=#[(0,m,0)]:=by rw[C2.pend,p1]
    have hb':(zaB t2).back?=some (0,m,0):=by rw[hb]; rfl
    rw[hb']
    dsimp only
    generalize power' a0.size (2 * 0 + m) (2 * 0 + m + m + (a0.size - m)) a0.size=pw
    refine zac (zaT (za8 (I:=fun _ c t=>t=t2/\c=(none,())) (Q:=fun c t=>t=t2/\c=(none,())) ?_ (fun _ _ hh=>hh) ⟨rfl,rfl⟩) ?_)
    ·rintro y c t' _ _ ⟨rfl,rfl⟩
     refine zac (wpS_get ?_)
     rw[if_neg (by rw[hb]; exact zaU 1)]
     exact zak ⟨rfl,rfl⟩
    ·rintro c t' ⟨rfl,rfl⟩
     dsimp only
     refine zac (zbk (zac (zbk (zak ⟨⟨B2.perm,B2.kind,B2.fail⟩,.inr (.inr ⟨by omega,by rw[show m + (a0.size - m)=a0.size by omega],m,pw,0,?_,by omega,by omega,?_,?_⟩)⟩))))
     ·show((zaB t').modify ((zaB t').size - 1) _).push _=_
      rw[hb]; rfl
     ·exact C2.low.sd (zae _) sd
     ·rw[show m + (a0.size - m)=a0.size by omega] at s2; exact s2
  ·dsimp only
   rw[if_pos (zae _)]
   exact zak ⟨B',rfl,.inr tw⟩
 case post=>
  rintro c t ⟨B',rfl,hD⟩
  dsimp only
  refine zac (zaT (za8 (I:=fun x c t=>SB κ a0 t/\c=(none,())/\(One r a0.size t\/(x=0/\Two r a0.size t))) (Q:=fun c t=>SB κ a0 t/\c=(none,())/\One r a0.size t) ?_ ?_ ⟨B',rfl,hD.imp id fun z=>⟨rfl,z⟩⟩) ?_)
  ·rintro x c t _ _ ⟨B',rfl,o | ⟨rfl,m,p,p2,e,m0,m1,s1,s2⟩⟩
   ·refine zac (wpS_get ?_)
    rw[if_pos (by rw[o.1]; exact zae 1)]
    exact zak ⟨B',rfl,o⟩
   ·refine zac (wpS_get ?_)
    have z:(zaB t).size=2:=by rw[e]; rfl
    rw[z,if_neg (by omega)]
    simp only[Nat.sub_self,zaU,gt_iff_lt,if_false,Option.any_none,zbj]
    refine zac (qm2 R B' e m0 (by omega) (by omega) s1 (by rw[show m + (a0.size - m)=a0.size by omega]; exact s2) fun t' B2 p' s'=>?_)
    rw[show m + (a0.size - m)=a0.size by omega] at s'
    exact zak ⟨B2,rfl,.inl ⟨by rw[p']; rfl,s'⟩⟩
  ·rintro c t ⟨B',rfl,o | ⟨z,_⟩⟩
   ·exact⟨B',rfl,o⟩
   ·omega
  ·rintro c t ⟨B',rfl,o⟩
   exact zak (h _ B' o.2)
end
theorem qk2{p q:Nat->Bool}{i:Nat}(hi:q i=true)(hn:p i=false):∀ l:List Nat,(∀ x∈l,p x=true->q x=true)->l.countP p<=l.countP q/\(i∈l->l.countP p < l.countP q)
 | [],_=>⟨zae _,fun z=>by cases z⟩
 | x :: l,h=>by
  obtain⟨a,b⟩:=qk2 hi hn l fun y hy=>h y (.tail _ hy)
  rw[List.countP_cons,List.countP_cons]
  have hx:=h x (.head _)
  refine⟨?_,fun z=>?_⟩
  ·by_cases e:p x=true
   ·rw[if_pos e,if_pos (hx e)]; omega
   ·rw[if_neg e]; split <;> omega
  ·rcases List.mem_cons.mp z with rfl | z
   ·rw[if_pos hi,if_neg (by rw[hn]; exact zax)]; omega
   ·have:=b z
    by_cases e:p x=true
    ·rw[if_pos e,if_pos (hx e)]; omega
    ·rw[if_neg e]; split <;> omega
noncomputable def rnk(n:Nat)(lt:Nat->Nat->Bool)(i:Nat):Nat:=(zbc n).countP fun j=>lt j i
theorem qg6{n:Nat}{lt:Nat->Nat->Bool}(O:Ord n lt){i j:Nat}(hi:i < n)(hj:j < n)(h:lt i j=true):rnk n lt i < rnk n lt j:=
 (qk2 (p:=fun x=>lt x i) (q:=fun x=>lt x j) (i:=i) h (O.irr i hi) (zbc n) fun x hx e=>O.tr x i j (List.mem_range.mp hx) hi hj e h).2 (List.mem_range.mpr hi)
theorem qjk{n:Nat}{lt:Nat->Nat->Bool}(O:Ord n lt){i j:Nat}(hi:i < n)(hj:j < n)(h:i≠j):decide (rnk n lt i < rnk n lt j)=lt i j:=by
 cases e:lt i j with
 | true=>exact decide_eq_true (qg6 O hi hj e)
 | false=>
  have:=(O.tot i j hi hj h).resolve_left (by rw[e]; exact zax)
  have:=qg6 O hj hi this
  exact decide_eq_false (by omega)
noncomputable def itm(vs:List Value)(i:Nat):Keyed:=(vs.getD i zar,vs.getD i zar)
theorem qmj(vs:List Value):(vs.toArray.zip vs.toArray).toList=(zbc vs.length).map (itm vs):=by
 rw[Array.toList_zip]
 apply List.ext_getElem
 ·simp
 ·intro i h5 h6
  have:i < vs.length:=by simpa using h6
  simp[this,itm]
theorem qoC{vs:List Value}(hnd:vs.Nodup):∃ ix:Keyed->Nat,∀ i,i < vs.length->ix (itm vs i)=i:=by
 classical
 refine⟨fun x=>if h:∃ i,i < vs.length/\itm vs i=x then h.choose else 0,fun i hi=>?_⟩
 have h:∃ j,j < vs.length/\itm vs j=itm vs i:=⟨i,hi,rfl⟩
 show dite _ _ _=i
 rw[dif_pos h]
 have a:=h.choose_spec.1
 have e:vs.getD h.choose zar=vs.getD i zar:=congrArg Prod.fst h.choose_spec.2
 generalize h.choose=k at a e ⊢
 rw[show vs.getD k zar=vs[k] by simp[a],show vs.getD i zar=vs[i] by simp[hi]] at e
 exact(zbO hnd).mp e
section
variable {prog:zai}{w:World}{A:Around}{E:Value->Shared->Prop}{s:Shared}{a L:Addr}{vs:List Value}{m:Str->Option Value}
theorem qkA{n:Nat}{P:PySem.Fin->Shared->Prop}{lt:Nat->Nat->Bool}(O:Ord vs.length lt)(hns:s.heap.Ns L m)(ho:s.heap.get? a=some (seqObj "list" vs.toArray n))(haL:a≠L)(h64:vs.length < 128)(hnd:vs.Nodup)
  (hkk : 2 <= vs.length -> ∀ h' : Heap, (∀ b o, b ≠ a -> b ≠ L -> s.heap.get? b = some o -> h'.get? b = some o) -> ∃ κ, (∀ Q' : SortKind -> Shared -> Prop, Q' κ { s with heap := h' } -> wpAny (model prog w) A (keyKind' vs.toArray) Q' (fun _ _ => False) { s with heap := h' }) /\
   ∀ i j C,i < vs.length->j < vs.length->i≠j->C (lt i j) { s with heap:=h' }->kas_ask prog w A κ vs i j C { s with heap:=h' })
  (hP : ∀ (p : Array Nat) (h' : Heap) (c : Nat), PermR vs.length p -> qbn lt p vs.length -> h'.get? a = some (seqObj "list" (List.toArray (p.toList.map fun i => vs.getD i zar)) c) ->
   (∀ b o,b≠a->b≠L->s.heap.get? b=some o->h'.get? b=some o)->h'.Ns L m->P (.done (.ret .none)) { s with heap:=h' }) :
  wpAny (model prog w) A (Builtin.«list.sort» ⟨[.ref a],[]⟩) P E s:=by
 by_cases h3:64<=vs.length
 ·have hn2:¬ vs.toArray.size < 2:=by rw[zat]; omega
  rw[list_sort_plain]
  obtain⟨e1,ho1⟩:∃ e1,(s.heap.update a (zaI fun _=>(#[]:Array Value))).get? a=some (seqObj "list" #[] e1):=⟨_,get?_update_seq ho fun _=>#[]⟩
  refine zaa (listItems_at ho rfl (zaa (listUpdate_at ho rfl ?_ (by rw[zat,zbz]; omega) (zau _))))
  refine zaa (seqEpoch_at ho1 rfl (zaa (wpAny_newTuple ?_ (by show vs.length<=_; rw[zbz]; omega))))
  refine zaa (wpAny_newList ?_ (zau _)); refine zba ?_
  show wpAny (model prog w) A _ P E { s with heap:=((s.heap.update a (zaI fun _=>(#[]:Array Value))).push (seqObj "tuple" vs.toArray 0)).push (seqObj "list" #[] 0) }
  dsimp only; rw[if_neg hn2,if_neg hn2]
  have g1:(((s.heap.update a (zaI fun _=>(#[]:Array Value))).push (seqObj "tuple" vs.toArray 0)).push (seqObj "list" #[] 0)).get? a=some (seqObj "list" #[] e1):=zah _ (zah _ ho1)
  have s1:=zbN s.heap a (zaI fun _=>(#[]:Array Value))
  have keep:∀ b o,b≠a->s.heap.get? b=some o->(((s.heap.update a (zaI fun _=>(#[]:Array Value))).push (seqObj "tuple" vs.toArray 0)).push (seqObj "list" #[] 0)).get? b=some o:=fun b o hb e=>zah (seqObj "list" #[] 0) (zah (seqObj "tuple" vs.toArray 0) (s1.extBut b o hb e))
  generalize ((s.heap.update a (zaI fun _=>(#[]:Array Value))).push (seqObj "tuple" vs.toArray 0)).push (seqObj "list" #[] 0)=h' at g1 keep ⊢
  obtain⟨κ,k1,k2⟩:=hkk (by omega) h' fun b o hb _ e=>keep b o hb e
  refine zaa (za0 (k1 (fun κ' s'=>κ'=κ/\s'={ s with heap:=h' }) ⟨rfl,rfl⟩) (fun κ' s' z=>?_) fun _ _ z=>z.elim)
  obtain⟨rfl,rfl⟩:=z
  obtain⟨ix,hix⟩:=qoC hnd
  have za:=qmj vs
  have hmem:∀ x,x∈(vs.toArray.zip vs.toArray).toList->ix x < vs.length/\itm vs (ix x)=x:=fun x hx=>by
   rw[za] at hx
   obtain⟨i,i1,rfl⟩:=List.mem_map.mp hx
   have i2:=List.mem_range.mp i1
   rw[hix i i2]; exact⟨i2,rfl⟩
  have R:Rk prog w A { s with heap:=h' } κ' (vs.toArray.zip vs.toArray) (fun x=>rnk vs.length lt (ix x)):=by
   refine⟨fun x y hx hy hne Q hq=>?_,?_⟩
   ·obtain⟨x1,x2⟩:=hmem x hx
    obtain⟨y1,y2⟩:=hmem y hy
    have ne:ix x≠ix y:=fun z=>hne (by rw[z])
    have:=k2 (ix x) (ix y) Q x1 y1 ne (by rw[<- qjk O x1 y1 ne]; exact hq)
    unfold kas_ask at this
    rw[show x.1=vs.getD (ix x) zar by rw[<- congrArg Prod.fst x2]; rfl,show y.1=vs.getD (ix y) zar by rw[<- congrArg Prod.fst y2]; rfl]
    exact this
   ·rw[za,zaD]
    refine List.pairwise_map.mpr (List.Pairwise.imp_of_mem (fun {i j} hi hj hne=>?_) (List.nodup_range (n:=vs.length)))
    have i1:=List.mem_range.mp hi
    have j1:=List.mem_range.mp hj
    show rnk vs.length lt (ix (itm vs i))≠rnk vs.length lt (ix (itm vs j))
    rw[hix i i1,hix j j1]
    rcases O.tot i j i1 j1 hne with z | z
    ·exact zaA (qg6 O i1 j1 z)
    ·exact zaO (qg6 O j1 i1 z)
  have az:(vs.toArray.zip vs.toArray).size=vs.length:=by simp
  have run:=qmv (E:=E) (st:=za1 κ' (vs.toArray.zip vs.toArray) #[] 7 none) (Q:=fun _ st'=>SB κ' (vs.toArray.zip vs.toArray) st'/\Sd (fun x=>rnk vs.length lt (ix x)) (arrOf st') 0 vs.length) R ⟨Array.Perm.refl _,rfl,rfl⟩ rfl (by omega) (by omega) fun st' B' sd=>⟨B',by rw[az] at sd; exact sd⟩
  refine zaa (za0 run (fun rs s' hr=>?_) fun _ _ z=>z)
  obtain⟨⟨⟩,st'⟩:=rs
  obtain⟨rfl,B',sd⟩:=hr
  dsimp only at B' sd ⊢
  have psz:((arrOf st').map ix).size=vs.length:=by rw[Array.size_map,B'.size,az]
  have pp:PermR vs.length ((arrOf st').map ix):=by
   refine Array.perm_iff_toList_perm.mpr ?_
   rw[Array.toList_map]
   refine((Array.perm_iff_toList_perm.mp B'.perm).map ix).trans ?_
   rw[za,zaD]
   refine List.Perm.of_eq ?_
   refine(List.map_congr_left fun i hi=>?_).trans (List.map_id _)
   exact hix i (List.mem_range.mp hi)
  have eo:(arrOf st').map (·.2)=List.toArray (((arrOf st').map ix).toList.map fun i=>vs.getD i zar):=by
   apply Array.toList_inj.mp
   rw[Array.toList_map,Array.toList_map,zaD]
   refine List.map_congr_left fun x hx=>?_
   have:=(hmem x ((Array.perm_iff_toList_perm.mp B'.perm).mem_iff.mp hx)).2
   exact(congrArg Prod.snd this).symm
  have sb:qbn lt ((arrOf st').map ix) vs.length:=fun i j hij hj=>by
   have e:∀ k,k < vs.length->((arrOf st').map ix).getD k 0=ix ((arrOf st').getD k (zar,zar)):=fun k hk=>by
    have kz:k < (arrOf st').size:=by rw[B'.size,az]; exact hk
    rw[getD_at kz]; simp[Array.getD,kz]
   have m:=fun k (hk:k < vs.length)=>(hmem _ (qbz B'.perm (i:=k) (by rw[B'.size,az]; exact hk))).1
   have lt':=sd i j (zau _) hij hj
   rw[e i (by omega),e j hj]
   unfold rkA at lt'
   rw[<- qjk O (m i (by omega)) (m j hj) fun z=>absurd lt' (by dsimp only; rw[z]; exact zaU _)]
   exact decide_eq_true lt'
  refine zaa (seqEpoch_at g1 rfl (zaa (listUpdate_at g1 rfl ?_ (zau _) ?_)))
  ·rw[B'.fail]
   simp only[bne_self_eq_false,zbj,if_false]
   have s2:=zbN h' a (zaI fun _=>(arrOf st').map (·.2))
   obtain⟨c,hc⟩:∃ c,(h'.update a (zaI fun _=>(arrOf st').map (·.2))).get? a=some (seqObj "list" ((arrOf st').map (·.2)) c):=⟨_,get?_update_seq g1 _⟩
   exact zab (hP _ _ c pp sb (by rw[<- eo]; exact hc) (fun b o hb _ e=>s2.extBut b o hb (keep b o hb e)) (hns.at' fun o e=>s2.extBut L o (zaK haL) (keep L o (zaK haL) e)))
  ·rw[Array.size_map,B'.size,az,zbz]; omega
 have h64:vs.length < 64:=by omega
 by_cases h2:2<=vs.length
 ·have N:News (Att.qgF s.heap) L s.heap (Att.ledger s.heap L a):=fun⟨b,o⟩ hp=>⟨(Att.qaV.mp hp).2.2,(Att.qaV.mp hp).1,Att.qcz _ _⟩
  refine kat_list_sort (Att.qn8 hns) N ho haL (Att.qcz _ _) (fun⟨b,o⟩ hp=>(Att.qaV.mp hp).2.1) h2 h64 fun e1 h' F' N'=>?_
  have keep:∀ b o,b≠a->b≠L->s.heap.get? b=some o->h'.get? b=some o:=fun b o hb hL e=>(N' (b,o) (zaw _ (Att.qaV.mpr ⟨hL,hb,e⟩))).1
  obtain⟨κ,k1,k2⟩:=hkk h2 h' keep
  refine k1 _ (qiw k2 _ (qme O (by omega) fun p hp hs=>?_))
  refine KasFin.intro F' N' (.head fun⟨b,o⟩ hb=>(Att.qaV.mp hb).2.1) fun h'' c F'' N''=>?_
  exact hP p h'' c hp hs (N'' _ (zav ..)).1 (fun b o hb hL e=>(N'' (b,o) (zaw _ (Att.qaV.mpr ⟨hL,hb,e⟩))).1) F''.ns
 ·have hlt:vs.toArray.size < 2:=by rw[zat]; omega
  rw[list_sort_plain]
  obtain⟨e1,ho1⟩:∃ e1,(s.heap.update a (zaI fun _=>(#[]:Array Value))).get? a=some (seqObj "list" #[] e1):=⟨_,get?_update_seq ho fun _=>#[]⟩
  refine zaa (listItems_at ho rfl (zaa (listUpdate_at ho rfl ?_ (by rw[zat,zbz]; omega) (zau _))))
  refine zaa (seqEpoch_at ho1 rfl (zaa (wpAny_newTuple ?_ (by show vs.length<=_; rw[zbz]; omega))))
  refine zaa (wpAny_newList ?_ (zau _)); refine zba ?_
  show wpAny (model prog w) A _ P E { s with heap:=((s.heap.update a (zaI fun _=>(#[]:Array Value))).push (seqObj "tuple" vs.toArray 0)).push (seqObj "list" #[] 0) }
  dsimp only; rw[if_pos hlt,if_pos hlt]
  have g1:(((s.heap.update a (zaI fun _=>(#[]:Array Value))).push (seqObj "tuple" vs.toArray 0)).push (seqObj "list" #[] 0)).get? a=some (seqObj "list" #[] e1):=zah _ (zah _ ho1)
  refine zaa (zab ?_); rw[StateT.run_pure]; refine zaa (zab ?_); dsimp only
  refine zaa (seqEpoch_at g1 rfl (zaa (listUpdate_at g1 rfl ?_ (zau _) ?_)))
  ·simp only[bne_self_eq_false,zbj,if_false]
   have s1:=zbN s.heap a (zaI fun _=>(#[]:Array Value))
   have s2:=zbN (((s.heap.update a (zaI fun _=>(#[]:Array Value))).push (seqObj "tuple" vs.toArray 0)).push (seqObj "list" #[] 0)) a (zaI fun _=>(arrOf (za1 general' (vs.toArray.zip vs.toArray) #[] 7 none)).map (·.2))
   have keep:∀ b o,b≠a->s.heap.get? b=some o->_:=fun b o hb e=>s2.extBut b o hb (zah (seqObj "list" #[] 0) (zah (seqObj "tuple" vs.toArray 0) (s1.extBut b o hb e)))
   have eo:(arrOf (za1 general' (vs.toArray.zip vs.toArray) #[] 7 none)).map (·.2)=List.toArray ((List.toArray (zbc vs.length)).toList.map fun i=>vs.getD i zar):=by
    show((vs.toArray.zip vs.toArray).map (·.2))=_
    apply Array.toList_inj.mp
    rw[Array.toList_map,Array.toList_zip]
    show(vs.zip vs).map (·.2)=(zbc vs.length).map fun i=>vs.getD i zar
    apply List.ext_getElem
    ·simp
    ·intro i h5 h6
     have:i < vs.length:=by simpa using h6
     simp[this]
   obtain⟨c,hc⟩:∃ c,((((s.heap.update a (zaI fun _=>(#[]:Array Value))).push (seqObj "tuple" vs.toArray 0)).push (seqObj "list" #[] 0)).update a (zaI fun _=>(arrOf (za1 general' (vs.toArray.zip vs.toArray) #[] 7 none)).map (·.2))).get? a=some (seqObj "list" ((arrOf (za1 general' (vs.toArray.zip vs.toArray) #[] 7 none)).map (·.2)) c):=⟨_,get?_update_seq g1 _⟩
   exact zab (hP (List.toArray (zbc vs.length)) _ c (Array.Perm.refl _) (fun i j h1 h3=>absurd h3 (by omega)) (by rw[<- eo]; exact hc) (fun b o hb _ e=>keep b o hb e) (hns.at' fun o e=>keep L o (zaK haL) e))
  ·rw[Array.size_map]
   show(vs.toArray.zip vs.toArray).size<=_
   rw[zbz]
   simp
   omega
end
end My
namespace My
open PySem PySem.Spec PyProof.Rows PySem.W PySem.SeqAt
theorem qbX:∀ ns:List Int,HT.lexLt ns ns=false
 | []=>rfl
 | x :: xs=>by rw[HT.qaQ,if_pos rfl]; exact qbX xs
theorem qe0:∀ a b c:List Int,HT.lexLt a b=true->HT.lexLt b c=true->HT.lexLt a c=true
 | [],[],c,h,_=>by cases h
 | [],_ :: _,[],_,h=>by cases h
 | [],_ :: _,_ :: _,_,_=>rfl
 | _ :: _,[],_,h,_=>by cases h
 | _ :: _,_ :: _,[],_,h=>by cases h
 | x :: xs,y :: ys,z :: zs,h1,h2=>by
  rw[HT.qaQ] at h1 h2 ⊢
  by_cases e1:x=y
  ·by_cases e2:y=z
   ·rw[if_pos e1] at h1; rw[if_pos e2] at h2; rw[if_pos (e1.trans e2)]; exact qe0 xs ys zs h1 h2
   ·rw[if_neg e2] at h2; rw[if_neg (fun q=>e2 (e1.symm.trans q)),e1]; exact h2
  ·rw[if_neg e1] at h1
   have h1:=of_decide_eq_true h1
   by_cases e2:y=z
   ·rw[if_neg (fun q=>e1 (q.trans e2.symm))]; exact decide_eq_true (by omega)
   ·rw[if_neg e2] at h2
    have h2:=of_decide_eq_true h2
    rw[if_neg (by omega)]; exact decide_eq_true (by omega)
theorem qge:∀ a b:List Int,a≠b->HT.lexLt a b=true\/HT.lexLt b a=true
 | [],[],h=>absurd rfl h
 | [],_ :: _,_=>.inl rfl
 | _ :: _,[],_=>.inr rfl
 | x :: xs,y :: ys,h=>by
  rw[HT.qaQ,HT.qaQ]
  by_cases e:x=y
  ·rw[if_pos e,if_pos e.symm]
   exact qge xs ys fun q=>h (by rw[e,q])
  ·rw[if_neg e,if_neg (fun q=>e q.symm)]
   rcases Int.lt_or_gt_of_ne e with q | q
   ·exact .inl (decide_eq_true q)
   ·exact .inr (decide_eq_true q)
noncomputable def ltK(ks:List (List Int))(i j:Nat):Bool:=HT.lexLt (ks.getD i []) (ks.getD j [])
theorem qj7{ks:List (List Int)}(hn:ks.Nodup):Ord ks.length (ltK ks) where
 irr:=fun i _=>qbX _
 tr:=fun i j k _ _ _ h1 h2=>qe0 _ _ _ h1 h2
 tot:=fun i j hi hj hne=>qge _ _ fun e=>hne (by
  have e1:ks.getD i []=ks[i]:=by simp[hi]
  have e2:ks.getD j []=ks[j]:=by simp[hj]
  rw[e1,e2] at e
  exact(zbO hn).mp e)
section
variable {prog:zai}{w:World}{A:Around}{E:Value->Shared->Prop}{s:Shared}
theorem qmr{x y:Int}{t u:Tok}{b:Bool}{Q:Bool->Shared->Prop}(h:Q (decide (x < y)) s):wpAny (model prog w) A (oneLt' b (.int x t) (.int y u)) Q E s:=by
 cases b with
 | true=>exact oneLt_int h
 | false=>exact kat_one _ _ (PyProof.Rows.lt_int h)
theorem qgt{b fin:Bool}{Q:Bool->Shared->Prop}:∀ {us vs:List Value} {ns ms:List Int} (i:Nat),zaV us ns->zaV vs ms->fin=decide (ns.length < ms.length)->Q (HT.lexLt ns ms) s->KatLex prog w A b fin Q (us.zip vs) i s
 | _,_,_,_,i,.nil,.nil,hf,h=>by rw[List.zip_nil_left]; show Q fin s; rw[hf]; exact h
 | _,_,_,_,i,.nil,.cons _ _ _,hf,h=>by rw[List.zip_nil_left]; show Q fin s; rw[hf]; exact h
 | _,_,_,_,i,.cons _ _ _,.nil,hf,h=>by rw[List.zip_nil_right]; show Q fin s; rw[hf]; exact h
 | _,_,_,_,i,.cons x t r1,.cons y u r2,hf,h=>by
  rw[List.zip_cons_cons]
  refine kat_cons (EqAt.int_int x t y u prog w _ _ ?_)
  rw[HT.qaQ] at h
  by_cases e:x=y
  ·rw[if_pos e] at h
   rw[show(x == y)=true by simpa using e]
   refine kat_yes (qgt (i + 1) r1 r2 ?_ h)
   rw[hf]
   simp only[zaW,Nat.add_lt_add_iff_right]
  ·rw[if_neg e] at h
   rw[show(x == y)=false by simpa using e]
   exact kat_no (qmr h)
noncomputable def TupI(h:Heap)(a:Addr)(ns:List Int):Prop:=∃ its:List Value,IsTup h a its.toArray/\zaV its ns
theorem TupI.at'{h h':Heap}{a:Addr}{ns:List Int}(x:TupI h a ns)(k:∀ o,h.get? a=some o->h'.get? a=some o):TupI h' a ns:=by
 obtain⟨its,⟨o,e,c⟩,i⟩:=x
 exact⟨its,⟨o,k o e,c⟩,i⟩
theorem qjZ{b:Bool}{x y:Addr}{ns ms:List Int}{Q:Bool->Shared->Prop}(hx:TupI s.heap x ns)(hy:TupI s.heap y ms)(h:Q (HT.lexLt ns ms) s):wpAny (model prog w) A (keyLt' (tuples' b) (.ref x) (.ref y)) Q E s:=by
 obtain⟨us,⟨ox,x1,x2,n,x3⟩,i1⟩:=hx
 obtain⟨vs,⟨oy,y1,y2,m,y3⟩,i2⟩:=hy
 refine kat_lt x1 x3 y1 y3 ?_
 show KatLex prog w A b (decide (us.toArray.size < vs.toArray.size)) Q (us.zip vs) 0 s
 refine qgt 0 i1 i2 ?_ h
 have a1:us.length=ns.length:=i1.length
 have a2:vs.length=ms.length:=i2.length
 rw[zat,zat,a1,a2]
theorem qin{x y:Addr}{ns ms:List Int}(hx:TupI s.heap x ns)(hy:TupI s.heap y ms)(hne:ns≠ms)(hu:A.units < cLine):EqAt A s (.ref x) (.ref y) false:=by
 obtain⟨us,tx,i1⟩:=hx
 obtain⟨vs,ty,i2⟩:=hy
 have ne:x≠y:=fun e=>by
  subst e
  obtain⟨o,e1,c1,n,d1⟩:=tx
  obtain⟨o',e2,c2,n',d2⟩:=ty
  rw[e1] at e2; cases e2
  rw[d1] at d2
  injection d2 with d3 _
  have:us=vs:=by simpa using congrArg Array.toList d3
  subst this
  have:∀ {us:List Value} {a b:List Int},zaV us a->zaV us b->a=b:=by
   intro us a b h1
   induction h1 generalizing b with
   | nil=>intro h2; cases h2; rfl
   | cons n t _ ih=>intro h2; cases h2 with | cons _ _ r=>rw[ih r]
  exact hne (this i1 i2)
 have he:∀ j (h1:j < us.toArray.size) (h2:j < vs.toArray.size),EqAt A.in1 s us.toArray[j] vs.toArray[j] (decide (ns.getD j 0=ms.getD j 0)):=by
  intro j h1 h2
  have g:∀ {us:List Value} {ns:List Int} {j:Nat} (_:zaV us ns) (h:j < us.length),∃ t,us[j]=.int (ns.getD j 0) t:=by
   intro us ns j r
   induction r generalizing j with
   | nil=>intro h; cases h
   | cons n t r ih=>
    intro h
    cases j with
    | zero=>exact⟨t,rfl⟩
    | succ j=>
     obtain⟨t',e⟩:=ih (j:=j) (by simpa using h)
     exact⟨t',by simpa using e⟩
  obtain⟨t,e1⟩:=g i1 (j:=j) (by simpa using h1)
  obtain⟨t',e2⟩:=g i2 (j:=j) (by simpa using h2)
  have a1:us.toArray[j]=us[j]'(by simpa using h1):=by simp
  have a2:vs.toArray[j]=vs[j]'(by simpa using h2):=by simp
  rw[a1,a2,e1,e2]
  exact EqAt.to (EqAt.int_int _ _ _ _) (by simp[Bool.beq_eq_decide_eq])
 refine EqAt.to (EqAt.of_refs ne (RcAt.tuples tx ty hu he)) ?_
 have a1:us.toArray.size=ns.length:=by rw[zat]; exact i1.length
 have a2:vs.toArray.size=ms.length:=by rw[zat]; exact i2.length
 rw[a1,a2,Bool.eq_false_iff]
 intro z
 rw[zaY] at z
 obtain⟨z1,z2⟩:=z
 have hl:ns.length=ms.length:=by simpa using z2
 rw[List.all_eq_true] at z1
 refine hne (List.ext_getElem hl fun j h1 h2=>?_)
 have:=of_decide_eq_true (z1 j (List.mem_range.mpr (by omega)))
 simpa[h1,h2] using this
noncomputable def qkf(h:Heap)(p a:Addr)(v:Value)(ns:List Int):Prop:=IsTup h p #[.ref a,v]/\TupI h a ns
theorem qim{p q a b:Addr}{u v:Value}{ns ms:List Int}{Q:Bool->Shared->Prop}(hx:qkf s.heap p a u ns)(hy:qkf s.heap q b v ms)(hne:ns≠ms)(hu:A.units < cLine)(h:Q (HT.lexLt ns ms) s) :
  wpAny (model prog w) A (keyLt' (tuples' false) (.ref p) (.ref q)) Q E s:=by
 obtain⟨⟨ox,x1,x2,n,x3⟩,tx⟩:=hx
 obtain⟨⟨oy,y1,y2,m,y3⟩,ty⟩:=hy
 refine kat_lt x1 x3 y1 y3 ?_
 refine kat_cons (qin tx ty hne hu prog w _ _ (kat_no ?_))
 obtain⟨us,t1,i1⟩:=tx
 obtain⟨ws,t2,i2⟩:=ty
 exact kat_one _ _ (HT.qdR t1 t2 i1 i2 hu h)
end
end My
namespace My
open PySem PySem.Spec PyProof.Rows L2 PySem.SeqAt
theorem obj_some{P:zai}{w:World}{H:Hp}{h:Heap}{a:Addr}{o:HO}(x:ObjOk P w H h a o):∃ ob,h.get? a=some ob:=by
 cases o with
 | lst xs=>obtain⟨_,_,_,_,e⟩:=x; exact⟨_,e⟩
 | tup xs=>obtain⟨_,_,_,ob,e,_⟩:=x; exact⟨ob,e⟩
 | dK kvs=>obtain⟨_,_,_,_,ob,_,_,e,_⟩:=x; exact⟨ob,e⟩
 | dT kvs=>obtain⟨_,_,_,_,ob,_,_,e,_⟩:=x; exact⟨ob,e⟩
 | set S n=>obtain⟨ob,_,_,_,e,_⟩:=x; exact⟨ob,e⟩
 | ins C dx fs=>obtain⟨_,_,_,e,_⟩:=x; exact⟨_,e⟩
 | own y=>exact x
 | xd fs=>obtain⟨_,⟨ob,_,_,e,_⟩,_⟩:=x; exact⟨ob,e⟩
 | rng lo hi=>obtain⟨_,_,_,e⟩:=x; exact⟨_,e⟩
 | frz ob u=>obtain⟨e,_⟩:=x; exact⟨_,e⟩
 | tbl ps=>exact⟨_,(show h.get? a=some _ from x)⟩
 | met f y=>exact⟨_,(show h.get? a=some _ from x)⟩
 | ext φ=>exact x.2.1
theorem qgY{X:Cx}{pins:List (Addr × Obj)}{σ:L2.St}{H H':Hp}{s:Shared}{h':Heap}{t':Nat}(I:Inv X pins σ H s)(keep:∀ b o,b≠X.env.locals->s.heap.get? b=some o->h'.get? b=some o)(ns:∀ m,s.heap.Ns X.env.locals m->h'.Ns X.env.locals m)
  (same:∀ b o,s.heap.get? b=some o->H' b=H b) (new:∀ b o,H b=none->H' b=some o->ObjOk X.prog X.w H' h' b o):Inv X pins σ H' { s with heap:=h',toks:=t' }:=by
 have nl:∀ b o,H b=some o->b≠X.env.locals:=fun b o e z=>by rw[z,I.free] at e; cases e
 have sm:∀ b o,H b=some o->H' b=some o:=fun b o e=>by
  obtain⟨ob,q⟩:=obj_some (I.hok b o e)
  rw[same b ob q]; exact e
 refine I.step (g':=s.gens) (d':=s.drawn) (ch:=[]) (fun _ z=>nomatch z) (fun b o hL _ _ e _=>keep b o hL e) (fun b o hL _ _ e _=>⟨o.slots,keep b o hL e⟩) (fun b o _ e n=>by rw[same b o e]; exact n) (fun b o _ e=>?_)
  (fun b xs e=>sm b _ e) (fun b o u e=>sm b _ e) (fun b ps e=>⟨#[],by rw[sm b _ e]; simp⟩) ns (fun b u e=>?_) I.bare
 ·by_cases hb:b=X.env.locals
  ·obtain⟨m,hn,_⟩:=I.loc
   obtain⟨o',_,_,e',_⟩:=ns m hn
   exact⟨o',by rw[hb]; exact e'⟩
  ·exact⟨o,keep b o hb e⟩
 ·cases e0:H b with
  | some v=>
   have:v=u:=by
    have:=sm b v e0
    rw[e] at this
    exact(zaF this).symm
   subst this
   refine(I.hok b v e0).stay (fun c v hc q=>keep c v ?_ q) (fun c q=>sm c _ q) fun c xs q=>sm c _ q
   rcases hc with z | z
   ·rw[z]; exact nl b _ e0
   ·exact nl c _ z
  | none=>exact new b u e0 e
noncomputable def kI(p:List Int × V):List Key × V:=(p.1.map zao,p.2)
theorem qlN(ns:List Int):(ns.map (zao:Int->Key)).map kV=ns.map V.int:=by
 rw[zaD]
 rfl
noncomputable def qgk(qs:List (List Int × V)):Prop:=qs.Pairwise fun a b=>HT.lexLt a.1 b.1=true
theorem qf3:∀ {ns:List Int} {us:List Value},Vals (ns.map V.int) us->zaV us ns:=fun r=>L2.intsAre_of r
theorem qdF{X:Cx}{pins:List (Addr × Obj)}{σ:L2.St}{H:Hp}{s:Shared}{d:Addr}{ps:List (List Int × V)}(I:Inv X pins σ H s)(hd:Rd H d (.dT (ps.map kI))) :
  ps.length<=zal/\(d == za9)=false/\(ps.map (·.1)).Nodup/\∃ es ep,RawD s.heap d es ep/\es.size=ps.length/\∀ (j:Nat) (p:List Int × V),ps[j]?=some p->∃ (e:zbo) (b:Addr),es[j]?=some e/\e.key=.ref b/\H b=some (.tup (p.1.map V.int))/\RelV p.2 e.val:=by
 obtain⟨z,y,xs,r,o,es,ep,h1,h2,h3,h4,h5⟩:=(show ObjOk X.prog X.w H s.heap d (.dT (ps.map kI)) from hd.ok I.hok)
 have hl:xs.length=ps.length:=by rw[<- zbr r,zaq]
 have hes:es.size=ps.length:=by
  have:=congrArg zbI h4
  rw[zaN,zaq] at this
  omega
 have get:∀ {ps:List (List Int × V)} {xs:List (List Key × Addr × Value)},Paired (fun (p:List Key × V) (q:List Key × Addr × Value)=>p.1=q.1/\H q.2.1=some (.tup (p.1.map kV))/\RelV p.2 q.2.2) (ps.map kI) xs->
   ∀ (j:Nat) (p:List Int × V),ps[j]?=some p->∃ q,xs[j]?=some q/\(kI p).1=q.1/\H q.2.1=some (.tup ((kI p).1.map kV))/\RelV p.2 q.2.2:=by
  intro ps
  induction ps with
  | nil=>intro xs r j p e; simp at e
  | cons p0 ps ih=>
   intro xs r j p e
   rw[zaf] at r
   cases r with
   | cons h t=>
    cases j with
    | zero=>simp at e; subst e; exact⟨_,rfl,h⟩
    | succ j=>exact ih t j p (by simpa using e)
 have keys:∀ {ps:List (List Int × V)} {xs:List (List Key × Addr × Value)},Paired (fun (p:List Key × V) (q:List Key × Addr × Value)=>p.1=q.1/\H q.2.1=some (.tup (p.1.map kV))/\RelV p.2 q.2.2) (ps.map kI) xs->
   xs.map (·.1)=ps.map fun p=>p.1.map zao:=by
  intro ps
  induction ps with
  | nil=>intro xs r; rw[zbB] at r; cases r; rfl
  | cons p0 ps ih=>
   intro xs r
   rw[zaf] at r
   cases r with
   | cons h t=>rw[zaf,zaf,ih t,<- h.1]; rfl
 refine⟨by rw[zaq] at z; exact z,y,?_,es,ep,⟨o,h1,h2,h3⟩,hes,fun j p e=>?_⟩
 ·rw[keys r] at h5
  have:(ps.map fun p=>p.1.map (zao:Int->Key))=(ps.map (·.1)).map fun ns=>ns.map zao:=by rw[zaD]; rfl
  rw[this] at h5
  exact List.Pairwise.of_map _ (fun a b h e=>h (by rw[e])) h5
 ·obtain⟨q,e1,e2,e3,e4⟩:=get r j p e
  have e5:es[j]?=some (entryOfKey (zaZ (qK X.prog X.w)) q):=by
   rw[<- zb1,h4,zaz,e1]
   rfl
  exact⟨_,q.2.1,e5,rfl,by rw[e3]; show some (HO.tup (((p.1.map zao):List Key).map kV))=_; rw[qlN],e4⟩
theorem qij{X:Cx}{pins:List (Addr × Obj)}{σ:L2.St}{H:Hp}{s:Shared}{b:Addr}{ns:List Int}(I:Inv X pins σ H s)(h:H b=some (.tup (ns.map V.int))):TupI s.heap b ns:=by
 obtain⟨its,r,t,_⟩:=I.tuple (SqT.of h)
 exact⟨its,t,qf3 r⟩
theorem qga{ps:List (List Int × V)}{p:Array Nat}(hp:PermR ps.length p)(hs:qbn (ltK (ps.map (·.1))) p ps.length) :
  (p.toList.map fun i=>ps.getD i ([],.non)).Perm ps/\qgk (p.toList.map fun i=>ps.getD i ([],.non)):=by
 have e0:(zbc ps.length).map (fun i=>ps.getD i ([],.non))=ps:=by
  apply List.ext_getElem
  ·simp
  ·intro i h1 h2
   simp[h2]
 constructor
 ·have:=(Array.perm_iff_toList_perm.mp hp).map fun i=>ps.getD i (([],.non):List Int × V)
  rw[e0] at this
  exact this
 ·unfold qgk
  rw[List.pairwise_map]
  rw[List.pairwise_iff_getElem]
  intro i j hi hj hij
  have hsz:=hp.size
  rw[zaN] at hi hj
  have h1:=hs i j hij (by omega)
  have g:∀ k (hk:k < p.size),p.getD k 0=p.toList[k]'(by rw[zaN]; exact hk):=fun k hk=>by simp[Array.getD,hk]
  rw[g i hi,g j hj] at h1
  have gk:∀ k,(ps.map (·.1)).getD k []=(ps.getD k ([],.non)).1:=fun k=>by
   by_cases h:k < ps.length
   ·simp[h]
   ·simp[Nat.le_of_not_lt h]
  unfold ltK at h1
  rw[gk,gk] at h1
  exact h1
end My
namespace My
open PySem PySem.Spec PyProof.Rows L2 PySem.SeqAt PySem.W
theorem qbh{α β γ:Type}{R:β->γ->Prop}{f:α->β}{g:α->γ}:∀ (l:List α),(∀ i∈l,R (f i) (g i))->Paired R (l.map f) (l.map g)
 | [],_=>.nil
 | i :: l,h=>.cons (h i (zav ..)) (qbh l fun j hj=>h j (zaw _ hj))
theorem qbi{α β:Type}{f:β->Value}{R:β->α->Prop}:∀ (ps:List α) (vs:List Value),vs.length=ps.length->(∀ (j:Nat) (p:α),ps[j]?=some p->∃ b,vs[j]?=some (f b)/\R b p)->∃ bs:List β,vs=bs.map f/\Paired R bs ps
 | [],[],_,_=>⟨[],rfl,.nil⟩
 | [],_ :: _,h,_=>by cases h
 | _ :: _,[],h,_=>by cases h
 | p :: ps,v :: vs,hl,h=>by
  obtain⟨b,e,r⟩:=h 0 p rfl
  obtain⟨bs,e2,r2⟩:=qbi ps vs (by simpa using hl) fun j q hq=>h (j + 1) q (by simpa using hq)
  have:v=f b:=by simpa using e
  exact⟨b :: bs,by rw[zaf,<- e2,this],.cons r r2⟩
theorem qbb{α β:Type}{R:α->β->Prop}:∀ {as:List α} {bs:List β},Paired R as bs->∀ (j:Nat) (b:β),bs[j]?=some b->∃ a,as[j]?=some a/\R a b
 | _,_,.nil,j,b,e=>by simp at e
 | _,_,.cons h t,0,b,e=>by simp at e; subst e; exact⟨_,rfl,h⟩
 | _,_,.cons h t,j + 1,b,e=>qbb t j b (by simpa using e)
section
variable {X:Cx}
noncomputable def qfD(el:Hp->V->List Int × V->Prop)(H:Hp)(ps:List (List Int × V))(Q:VK):Prop:=
 ∀ (l:Addr) (us:List V) (qs:List (List Int × V)) (H2:Hp),Same H H2->H l=none->H2 l=some (.lst us)->Paired (el H2) us qs->qs.Perm ps->qgk qs->Q (.ref l) H2
noncomputable def elK:Hp->V->List Int × V->Prop:=fun H u q=>∃ b,u=.ref b/\H b=some (.tup (q.1.map V.int))
noncomputable def elP:Hp->V->List Int × V->Prop:=fun H u q=>∃ a b,u=.ref a/\H a=some (.tup [.ref b,q.2])/\H b=some (.tup (q.1.map V.int))
theorem qcO:∀ {a b:List Int},a.map V.int=b.map V.int->a=b
 | [],[],_=>rfl
 | x :: a,y :: b,h=>by
  rw[zaf,zaf] at h
  injection h with h1 h2
  cases h1
  rw[qcO h2]
 | [],y :: b,h=>by cases h
 | x :: a,[],h=>by cases h
theorem qnv(H:Hp)(u:V)(p q:List Int × V)(h1:elK H u p)(h2:elK H u q):p.1=q.1:=by
 obtain⟨b,rfl,e⟩:=h1
 obtain⟨b',eb,e'⟩:=h2
 cases eb
 rw[e] at e'
 injection e' with e'
 injection e' with e'
 exact qcO e'
theorem qnx(H:Hp)(u:V)(p q:List Int × V)(h1:elP H u p)(h2:elP H u q):p.1=q.1:=by
 obtain⟨a,b,rfl,e,f⟩:=h1
 obtain⟨a',b',eb,e',f'⟩:=h2
 cases eb
 rw[e] at e'
 injection e' with e'
 injection e' with e'
 injection e' with e1 e2
 cases e1
 rw[f] at f'
 injection f' with f'
 injection f' with f'
 exact qcO f'
theorem qeO{pins:List (Addr × Obj)}{σ:L2.St}{H H1:Hp}{s:Shared}{h1:Heap}{tk:Nat}{A:Around}{E:Value->Shared->Prop}{Q:VK}{ps:List (List Int × V)}{as:List Addr}{el:Hp->V->List Int × V->Prop}{P:PySem.Fin->Shared->Prop}
  (I:Inv X pins σ H s) (keep1:∀ b o,s.heap.get? b=some o->h1.get? b=some o) (h64:ps.length < 128) (hn:(ps.map (·.1)).Nodup) (hl:as.length=ps.length) (hfn:∀ H u p q,el H u p->el H u q->p.1=q.1)
  (same1:∀ b o,s.heap.get? b=some o->H1 b=H b) (there1:∀ b o,H1 b=some o->b < h1.objs.size)
  (new1:∀ (b:Addr) (o:HO),H b=none->H1 b=some o->∀ (h':Heap) (H':Hp),(∀ c u,c≠h1.objs.size->c≠X.env.locals->h1.get? c=some u->h'.get? c=some u)->ObjOk X.prog X.w H' h' b o)
  (hel:∀ (j:Nat) (p:List Int × V) (a:Addr),ps[j]?=some p->as[j]?=some a->∀ H',Same H1 H'->el H' (.ref a) p)
  (hkk : 2 <= ps.length -> ∀ h' : Heap, (∀ b o, b ≠ h1.objs.size -> b ≠ X.env.locals -> h1.get? b = some o -> h'.get? b = some o) -> ∃ κ, (∀ Q' : SortKind -> Shared -> Prop, Q' κ { s with heap := h', toks := tk } -> wpAny (model X.prog X.w) A (keyKind' (as.map zaj).toArray) Q' (fun _ _ => False) { s with heap := h', toks := tk }) /\
   ∀ i j C,i < ps.length->j < ps.length->i≠j->C (ltK (ps.map (·.1)) i j) { s with heap:=h',toks:=tk }->kas_ask X.prog X.w A κ (as.map zaj) i j C { s with heap:=h',toks:=tk })
  (q:qfD el H ps Q) (hP:∀ s',EP X pins σ Q (.ref h1.objs.size) s'->P (.done (.ret .none)) s') :
  wpAny (model X.prog X.w) A (Builtin.«list.sort» ⟨[.ref h1.objs.size],[]⟩) P E { s with heap:=h1.push (seqObj "list" (as.map zaj).toArray 0),toks:=tk }:=by
 obtain⟨m,hns,_⟩:=id I.loc
 have hvl:(as.map zaj).length=ps.length:=by rw[zaq,hl]
 have ltL:X.env.locals < h1.objs.size:=by
  obtain⟨o,_,_,e,_⟩:=id hns
  exact zag (keep1 _ o e)
 have ns1:(h1.push (seqObj "list" (as.map zaj).toArray 0)).Ns X.env.locals m:=hns.at' fun o e=>zah _ (keep1 _ o e)
 have hand:(as.map zaj).Nodup:=by
  refine List.pairwise_iff_getElem.mpr fun i j hi hj hij z=>?_
  have i1:i < as.length:=by simpa using hi
  have j1:j < as.length:=by simpa using hj
  have i2:i < ps.length:=by omega
  have j2:j < ps.length:=by omega
  have e:as[i]=as[j]:=by simpa using z
  have a1:=hel i _ _ (zaC i2) (zaC i1) H1 fun _ _ e=>e
  have a2:=hel j _ _ (zaC j2) (zaC j1) H1 fun _ _ e=>e
  rw[e] at a1
  have e2:=hfn _ _ _ _ a1 a2
  have:=(zbO hn).mp (show(ps.map (·.1))[i]'(by simpa using i2)=(ps.map (·.1))[j]'(by simpa using j2) by simpa using e2)
  omega
 have O:Ord (as.map zaj).length (ltK (ps.map (·.1))):=by
  rw[hvl,<- zaq (f:=(·.1)) (as:=ps)]
  exact qj7 hn
 have hlH:H h1.objs.size=none:=by
  cases e:H h1.objs.size with
  | none=>rfl
  | some o=>
   obtain⟨ob,z⟩:=obj_some (I.hok _ o e)
   exact absurd (zag (keep1 _ ob z)) (zaU _)
 have hlH1:H1 h1.objs.size=none:=by
  cases e:H1 h1.objs.size with
  | none=>rfl
  | some o=>exact absurd (there1 _ o e) (zaU _)
 refine qkA (lt:=ltK (ps.map (·.1))) (n:=0) (L:=X.env.locals) (m:=m) (s:={ s with heap:=h1.push (seqObj "list" (as.map zaj).toArray 0),toks:=tk }) O ns1 (zay _ rfl) (zaO ltL) (by rw[hvl]; exact h64) hand (fun h2 h' k=>?_) fun p h' c hp hs hl' keep2 ns2=>?_
 ·rw[hvl] at h2
  obtain⟨κ,k1,k2⟩:=hkk h2 h' fun b o hb hL e=>k b o hb hL (zah _ e)
  exact⟨κ,k1,fun i j C hi hj=>k2 i j C (by rw[hvl] at hi; exact hi) (by rw[hvl] at hj; exact hj)⟩
 ·rw[hvl] at hp hs
  obtain⟨g1,g2⟩:=qga hp hs
  have keep3:∀ c u,c≠h1.objs.size->c≠X.env.locals->h1.get? c=some u->h'.get? c=some u:=fun c u h1' h2' e=>keep2 c u h1' h2' (zah _ e)
  have lt:∀ i∈p.toList,i < ps.length:=fun i hi=>by
   have:=(Array.perm_iff_toList_perm.mp hp).mem_iff.mp hi
   simpa using this
  have ga:∀ i,i < ps.length->as[i]?=some (as.getD i 0)/\ps[i]?=some (ps.getD i ([],.non))/\(as.map zaj).getD i zar=.ref (as.getD i 0):=fun i hi=>by
   have h1:i < as.length:=by omega
   refine⟨by simp[h1],by simp[hi],by simp[h1]⟩
  have sm1:Same H (upd H1 h1.objs.size (.lst (p.toList.map fun i=>V.ref (as.getD i 0)))):=fun b o e=>by
   obtain⟨ob,z⟩:=obj_some (I.hok b o e)
   rw[qt (qQ e hlH),same1 b ob z]
   exact e
  have sm2:Same H1 (upd H1 h1.objs.size (.lst (p.toList.map fun i=>V.ref (as.getD i 0)))):=qg1 hlH1
  have I2:Inv X pins σ (upd H1 h1.objs.size (.lst (p.toList.map fun i=>V.ref (as.getD i 0)))) { s with heap:=h',toks:=tk }:=by
   refine qgY I (fun b o hL e=>keep3 b o (fun z=>absurd (zag (keep1 b o e)) (by rw[z]; exact zaU _)) hL (keep1 b o e)) (fun m' hm'=>?_) (fun b o e=>?_) (fun b o n e=>?_)
   ·obtain⟨o1,es1,ep1,e1,d1,r1⟩:=hns
    obtain⟨o2,es2,ep2,e2,d2,r2⟩:=hm'
    rw[e1] at e2; cases e2
    rw[d1] at d2
    injection d2 with d3 d4
    subst d3 d4
    have:m=m':=funext fun x=>by rw[<- r1.2 x,<- r2.2 x]
    rw[<- this]
    exact ns2
   ·rw[qt (fun z=>absurd (zag (keep1 b o e)) (by rw[z]; exact zaU _))]
    exact same1 b o e
   ·by_cases hb:b=h1.objs.size
    ·subst hb
     rw[qw] at e
     cases e
     refine⟨?_,_,c,?_,hl'⟩
     ·rw[zaq,zaN,hp.size,zbz]
      omega
     ·show Vals _ (p.toList.map fun i=>(as.map zaj).getD i zar)
      exact qbh p.toList fun i hi=>by
       show(as.map zaj).getD i zar=zaj (as.getD i 0)
       exact(ga i (lt i hi)).2.2
    ·rw[qt hb] at e
     exact new1 b o n e h' _ keep3
  refine hP _ ⟨.ref h1.objs.size,_,I2,rfl,q _ _ _ _ sm1 hlH qw (qbh p.toList fun i hi=>?_) g1 g2⟩
  obtain⟨a1,a2,_⟩:=ga i (lt i hi)
  exact hel i _ _ a2 a1 _ sm2
theorem qkU{A:Around}{κ:SortKind}{as:List Addr}{i j:Nat}{C:Bool->Shared->Prop}{s:Shared}(hi:i < as.length)(hj:j < as.length)(h:wpAny (model X.prog X.w) A (keyLt' κ (.ref (as.getD i 0)) (.ref (as.getD j 0))) C (fun _ _=>False) s):kas_ask X.prog X.w A κ (as.map zaj) i j C s:=by
 unfold kas_ask
 have e1:(as.map zaj).getD i zar=.ref (as.getD i 0):=by simp[hi]
 have e2:(as.map zaj).getD j zar=.ref (as.getD j 0):=by simp[hj]
 rw[e1,e2]
 exact h
theorem qcD{h:Heap}:∀ {as:List Addr} {fs:List Value},Paired (fun a f=>∃ its:List Value,IsTup h a its.toArray/\its[0]?=some f) as fs->KatTups h (as.map zaj) fs
 | _,_,.nil=>.nil
 | _,_,.cons ⟨its,⟨o,e,c,n,d⟩,z⟩ t=>KatTups.cons e c d (by simpa using z) (qcD t)
theorem qeW(hc:X.calm=true):CallR X (.builtin "sorted") (fun xs H Q=>∃ d ps,xs=[.ref d]/\Rd H d (.dT (ps.map kI))/\ps.length < 128/\(∀ p∈ps,p.1≠[])/\qfD elK H ps Q):=by
 intro pins s σ H xs us Q I r h
 obtain⟨d,ps,rfl,hd,h64,hne,q⟩:=h
 obtain⟨u,rfl,ru⟩:=vals1 r
 cases ru
 obtain⟨hz,hlo,hnd,es,ep,raw,hes,hent⟩:=qdF I hd
 refine Calls.call_function_entry kind_sorted plain_sorted entry_sorted (args_sorted1 _) ?_; unfold Builtin.«sorted»
 refine zaa (m:=checkCount "sorted" 1 1 _) (zab (zaa (kdu_collect (qjU hlo es ep) (I.ok.hd hc) raw (by rw[hes]; exact hz) fun h1 tk acc keep1 items=>?_)))
 obtain⟨isz,ig⟩:=items
 have hvl:acc.toList.length=ps.length:=by rw[zaN,isz,hes]
 obtain⟨bs,ebs,hbs⟩:=qbi (f:=zaj) (R:=fun b (p:List Int × V)=>H b=some (.tup (p.1.map V.int))) ps acc.toList hvl fun j p hp=>by
  obtain⟨e,b,e1,e2,e3,_⟩:=hent j p hp
  have hj:j < acc.size:=by
   have:=(List.getElem?_eq_some_iff.mp hp).1
   omega
  obtain⟨e',e4,e5⟩:=ig j acc[j] (by simp[hj])
  rw[e1] at e4; cases e4
  exact⟨b,by rw[zb1]; simp[hj,<- e5,e2],e3⟩
 have hbl:bs.length=ps.length:=zbr hbs
 rw[ebs]
 refine zaa (wpAny_newList ?_ (by rw[zaq,hbl]; exact hz))
 have hoL:(h1.push (seqObj "list" (bs.map zaj).toArray 0)).get? h1.objs.size=some (seqObj "list" (bs.map zaj).toArray 0):=zay _ rfl
 show wpAny _ _ _ _ _ { s with heap:=h1.push (seqObj "list" (bs.map zaj).toArray 0),toks:=tk }
 refine zaa (zba (zbd slot_list_sort ⟨_,hoL,rfl⟩ entry_list_sort ?body (args_list_sort _)))
 case body=>
  refine qeO (H1:=H) (el:=elK) (Q:=Q) I keep1 h64 hnd hbl qnv (fun _ _ _=>rfl) (fun b o e=>?_) (fun b o n e=>absurd (n.symm.trans e) (by simp)) (fun j p a hp ha H' sm=>?_) (fun h2 h' k=>?_) q fun s' hE=>⟨_,rfl,zab ⟨_,rfl,hE⟩⟩
  ·obtain⟨ob,z⟩:=obj_some (I.hok b o e)
   exact zag (keep1 b ob z)
  ·obtain⟨a',e1,e2⟩:=qbb hbs j p hp
   rw[ha] at e1; cases e1
   exact⟨a,rfl,sm _ _ e2⟩
  ·have tI:∀ (j:Nat) (p:List Int × V),ps[j]?=some p->∃ b,bs[j]?=some b/\TupI h' b p.1:=fun j p hp=>by
    obtain⟨b,e1,e2⟩:=qbb hbs j p hp
    refine⟨b,e1,(qij I e2).at' fun o e=>k b o ?_ ?_ (keep1 b o e)⟩
    ·exact fun z=>absurd (zag (keep1 b o e)) (by rw[z]; exact zaU _)
    ·exact fun z=>by rw[z,I.free] at e2; cases e2
   refine⟨tuples' (Value.type "int" != Value.type "tuple"),fun Q' q'=>?_,fun i j C hi hj hij hC=>?_⟩
   ·have first:∀ {bs:List Addr} {ps:List (List Int × V)},bs.length=ps.length->(∀ (j:Nat) (p:List Int × V),ps[j]?=some p->∃ b,bs[j]?=some b/\TupI h' b p.1)->(∀ p∈ps,p.1≠[])->∃ fs:List Value,Paired (fun a f=>∃ its:List Value,IsTup h' a its.toArray/\its[0]?=some f) bs fs/\∀ v∈fs,∃ i t,v=.int i t:=by
     intro bs
     induction bs with
     | nil=>intro ps hl _ _; exact⟨[],.nil,fun _ h=>nomatch h⟩
     | cons b bs ih=>
      intro ps hl ht hn
      cases ps with
      | nil=>cases hl
      | cons p ps=>
       obtain⟨fs,f1,f2⟩:=ih (ps:=ps) (by simpa using hl) (fun j q hq=>ht (j + 1) q (by simpa using hq)) fun q hq=>hn q (zaw _ hq)
       obtain⟨b',e1,its,t1,i1⟩:=ht 0 p rfl
       have:b'=b:=by simpa using e1.symm
       subst this
       have hne:=hn p (zav ..)
       obtain⟨ns,pv⟩:=p
       dsimp only at i1 hne
       cases i1 with
       | nil=>exact absurd rfl hne
       | cons n t r=>exact⟨.int n t :: fs,.cons ⟨_,t1,rfl⟩ f1,fun v hv=>(List.mem_cons.mp hv).elim (fun z=>⟨n,t,z⟩) (f2 v)⟩
    obtain⟨fs,f1,f2⟩:=first hbl tI hne
    refine kat_kind (s:={ s with heap:=h',toks:=tk }) (qcD f1) (by rw[<- zbr f1,hbl]; omega) (fun v hv=>?_) (by decide) q'
    obtain⟨i,t,rfl⟩:=f2 v hv
    exact Looks.of_pure rfl
   ·have hi':i < bs.length:=by omega
    have hj':j < bs.length:=by omega
    refine qkU hi' hj' ?_
    obtain⟨x,x1,x2⟩:=tI i _ (zaC hi)
    obtain⟨y,y1,y2⟩:=tI j _ (zaC hj)
    have ex:bs.getD i 0=x:=by simp[List.getD,x1]
    have ey:bs.getD j 0=y:=by simp[List.getD,y1]
    rw[ex,ey]
    refine qjZ (s:={ s with heap:=h',toks:=tk }) x2 y2 ?_
    unfold ltK at hC
    have k1:(ps.map (·.1)).getD i []=ps[i].1:=by simp[hi]
    have k2:(ps.map (·.1)).getD j []=ps[j].1:=by simp[hj]
    rw[k1,k2] at hC
    exact hC
noncomputable def qix:V->List V->Hp->VK->Prop:=fun x vs H Q=>∃ d kvs,x=.ref d/\vs=[]/\Rd H d (.dT kvs)/\∀ r,H r=none->Q (.ref r) (upd H r (.ext fun h=>h.IsItemsView r d))
theorem qg0:MtM X "dict.items" qix:=by
 intro pins s σ H x vs v us Q I rx rv h
 obtain⟨d,kvs,rfl,rfl,hd,q⟩:=h
 cases rx
 have hus:=rv.zero
 subst hus
 obtain⟨z,y,xs,r,o,es,ep,h1,h2,h3,_⟩:=(show ObjOk X.prog X.w H s.heap d (.dT kvs) from hd.ok I.hok)
 have tt:s.TypeIs (.ref d) "dict" := ⟨o,h1,h2.1⟩
 refine zbd PySem.F.slot_dict_items tt PySem.F.entry_dict_items ?_ (PySem.F.args_dict_items_1 _); unfold Builtin.«dict.items»
 refine zaa ?_; unfold Builtin.Dict.noArgs; refine zaa (wpAny_notOrdered_dict tt ?_)
 show wpAny _ _ (pure d) _ _ s; refine zab ?_; show wpAny _ _ (zck d >>= _) _ _ s
 unfold zck; rw[if_neg (by rw[y]; exact zax)]
 refine zaa (zab (zaa (zbe (zab ⟨_,rfl,?_⟩))))
 have hn:H s.heap.objs.size=none:=I.fresh
 refine⟨.ref s.heap.objs.size,_,I.laid (t':=s.toks) (o:=.ext fun h=>h.IsItemsView s.heap.objs.size d) (fun _ _ q=>zah _ q) (zae _) ⟨⟨_,zay _ rfl,rfl,rfl⟩,⟨_,zay _ rfl⟩,fun a b ⟨o,e1,e2⟩ k=>⟨o,k o e1,e2⟩⟩,rfl,q _ hn⟩
noncomputable def addP(H:Hp)(as:List Addr)(ds:List (List V)):Hp:=fun b=>match as.findIdx? (fun a=>decide (a=b)) with
 | some j=>some (.tup (ds.getD j []))
 | none=>H b
theorem qbF{H:Hp}{as:List Addr}{ds:List (List V)}{b:Addr}(h:¬ b∈as):addP H as ds b=H b:=by
 unfold addP
 have:as.findIdx? (fun a=>decide (a=b))=none:=by
  rw[List.findIdx?_eq_none_iff]
  intro a ha
  exact decide_eq_false fun e=>h (e ▸ ha)
 rw[this]
theorem qd8{H:Hp}{as:List Addr}{ds:List (List V)}{b:Addr}(h:b∈as):∃ j,as[j]?=some b/\addP H as ds b=some (.tup (ds.getD j [])):=by
 unfold addP
 cases e:as.findIdx? (fun a=>decide (a=b)) with
 | none=>
  rw[List.findIdx?_eq_none_iff] at e
  have:=e b h
  simp at this
 | some j=>
  rw[List.findIdx?_eq_some_iff_getElem] at e
  obtain⟨h1,h2,_⟩:=e
  exact⟨j,by rw[zaC h1,of_decide_eq_true h2],rfl⟩
theorem qe2(hc:X.calm=true)(hu:X.A.units + 64 < cLine):CallR X (.builtin "sorted") (fun xs H Q=>∃ r d ps,xs=[.ref r]/\H r=some (.ext fun h=>h.IsItemsView r d)/\Rd H d (.dT (ps.map kI))/\ps.length < 128/\qfD elP H ps Q):=by
 intro pins s σ H xs us Q I rr h
 obtain⟨r,d,ps,rfl,hr,hd,h64,q⟩:=h
 obtain⟨u,rfl,ru⟩:=vals1 rr
 cases ru
 obtain⟨hz,hlo,hnd,es,ep,raw,hes,hent⟩:=qdF I hd
 have hv:s.heap.IsItemsView r d:=(I.hok r _ hr).1
 have nL:∀ {b:Addr} {o:HO},H b=some o->b≠X.env.locals:=fun e z=>by rw[z,I.free] at e; cases e
 refine Calls.call_function_entry kind_sorted plain_sorted entry_sorted (args_sorted1 _) ?_; unfold Builtin.«sorted»
 refine zaa (m:=checkCount "sorted" 1 1 _) (zab (zaa (qfv (I.ok.hd hc) hv raw (by rw[hes]; exact hz) fun h1 tk as keep1 hal made=>?_)))
 have hal':as.length=ps.length:=by rw[hal,hes]
 obtain⟨bs,ebs,hbs⟩:=qbi (f:=zaj) (R:=fun b (p:List Int × V)=>H b=some (.tup (p.1.map V.int))) ps (es.toList.map (·.key)) (by rw[zaq,zaN,hes]) fun j p hp=>by
  obtain⟨e,b,e1,e2,e3,_⟩:=hent j p hp
  exact⟨b,by rw[zaz,zb1,e1]; exact congrArg some e2,e3⟩
 have hbl:bs.length=ps.length:=zbr hbs
 -- the j-th pair
 have fact:∀ (j:Nat) (p:List Int × V),ps[j]?=some p->∃ a b v,as[j]?=some a/\bs[j]?=some b/\H b=some (.tup (p.1.map V.int))/\RelV p.2 v/\s.heap.objs.size < a/\h1.get? a=some { cls:=.type "tuple",data:=.seq #[.ref b,v] }:=fun j p hp=>by
  obtain⟨e,b,e1,e2,e3,e4⟩:=hent j p hp
  have hj:j < ps.length:=(List.getElem?_eq_some_iff.mp hp).1
  obtain⟨b',f1,f2⟩:=qbb hbs j p hp
  have hja:as[j]?=some (as[j]'(by omega)):=zaC (by omega)
  obtain⟨e',g1,g2⟩:=made.pair j _ hja
  rw[e1] at g1; cases g1
  have hb:b=b':=by
   have z:(es.toList.map (·.key))[j]?=some (.ref b):=by rw[zaz,zb1,e1]; exact congrArg some e2
   rw[ebs,zaz,f1] at z
   have:=zaF z
   injection this with this
   exact this.symm
  subst hb
  exact⟨_,b,e.val,hja,f1,e3,e4,made.above _ (List.getElem_mem _),by rw[g2,e2]⟩
 have same_ix:∀ (i j:Nat) (a:Addr),as[i]?=some a->as[j]?=some a->i=j:=fun i j a hi hj=>by
  have li:i < ps.length:=by rw[<- hal']; exact(List.getElem?_eq_some_iff.mp hi).1
  have lj:j < ps.length:=by rw[<- hal']; exact(List.getElem?_eq_some_iff.mp hj).1
  obtain⟨a1,b1,v1,x1,_,x2,_,_,x3⟩:=fact i _ (zaC li)
  obtain⟨a2,b2,v2,y1,_,y2,_,_,y3⟩:=fact j _ (zaC lj)
  rw[hi] at x1; cases x1
  rw[hj] at y1; cases y1
  rw[x3] at y3
  injection y3 with y3
  injection y3 with _ _ y3 _
  injection y3 with y3 _
  have hb:b1=b2:=by
   have:=congrArg (fun z:Array Value=>z[0]?) y3
   simpa using this
  subst hb
  rw[x2] at y2
  injection y2 with y2
  injection y2 with y2
  have:ps[i].1=ps[j].1:=by
   have inj:∀ {a b:List Int},a.map V.int=b.map V.int->a=b:=by
    intro a
    induction a with
    | nil=>intro b h; cases b with
     | nil=>rfl
     | cons _ _=>cases h
    | cons x xs ih=>intro b h; cases b with
     | nil=>cases h
     | cons y ys=>
      rw[zaf,zaf] at h
      injection h with h1 h2
      injection h1 with h1
      rw[h1,ih h2]
   exact inj y2
  have e1:(ps.map (·.1))[i]'(by rw[zaq]; exact li)=(ps.map (·.1))[j]'(by rw[zaq]; exact lj):=by simpa using this
  exact(zbO hnd).mp e1
 have dsj:∀ (j:Nat) (p:List Int × V) (b:Addr),ps[j]?=some p->bs[j]?=some b->((bs.zip ps).map fun x=>[V.ref x.1,x.2.2]).getD j []=[V.ref b,p.2]:=fun j p b h1 h2=>by
  have:((bs.zip ps).map fun x=>[V.ref x.1,x.2.2])[j]?=some [V.ref b,p.2]:=by
   rw[zaz,(List.getElem?_zip_eq_some (z:=(b,p))).mpr ⟨h2,h1⟩]
   rfl
  simp[List.getD,this]
 have oldn:∀ b o,s.heap.get? b=some o->¬ b∈as:=fun b o e hb=>absurd (zag e) (Nat.not_lt.mpr (Nat.le_of_lt (made.above b hb)))
 have sm01:Same H (addP H as ((bs.zip ps).map fun x=>[V.ref x.1,x.2.2])):=fun b o e=>by
  obtain⟨ob,z⟩:=obj_some (I.hok b o e)
  rw[qbF (oldn b ob z)]
  exact e
 refine zaa (wpAny_newList ?_ (by rw[zaq,hal']; exact hz))
 have hoL:(h1.push (seqObj "list" (as.map zaj).toArray 0)).get? h1.objs.size=some (seqObj "list" (as.map zaj).toArray 0):=zay _ rfl
 show wpAny _ _ _ _ _ { s with heap:=h1.push (seqObj "list" (as.map zaj).toArray 0),toks:=tk }
 refine zaa (zba (zbd slot_list_sort ⟨_,hoL,rfl⟩ entry_list_sort ?body (args_list_sort _)))
 case body=>
  refine qeO (H1:=addP H as ((bs.zip ps).map fun x=>[V.ref x.1,x.2.2])) (el:=elP) (Q:=Q) I keep1 h64 hnd hal' qnx (fun b o e=>qbF (oldn b o e)) (fun b o e=>?_) (fun b o n e h' H' k=>?_) (fun j p a hp ha H' sm=>?_) (fun h2 h' k=>?_) q fun s' hE=>⟨_,rfl,zab ⟨_,rfl,hE⟩⟩
  ·by_cases hb:b∈as
   ·obtain⟨j,hj⟩:=List.mem_iff_getElem?.mp hb
    have lj:j < ps.length:=by rw[<- hal']; exact(List.getElem?_eq_some_iff.mp hj).1
    obtain⟨a,b',v,x1,_,_,_,_,x3⟩:=fact j _ (zaC lj)
    rw[hj] at x1; cases x1
    exact zag x3
   ·rw[qbF hb] at e
    obtain⟨ob,z⟩:=obj_some (I.hok b o e)
    exact zag (keep1 b ob z)
  ·have hb:b∈as:=zcg fun z=>by rw[qbF z,n] at e; cases e
   obtain⟨j,hj,e2⟩:=qd8 (H:=H) (ds:=(bs.zip ps).map fun x=>[V.ref x.1,x.2.2]) hb
   rw[e2] at e
   cases e
   have lj:j < ps.length:=by rw[<- hal']; exact(List.getElem?_eq_some_iff.mp hj).1
   obtain⟨a,b',v,x1,x2,_,x4,x5,x3⟩:=fact j _ (zaC lj)
   rw[hj] at x1; cases x1
   rw[dsj j _ b' (zaC lj) x2]
   have nloc:b≠X.env.locals:=zaO (zbQ I.lt x5)
   exact⟨by show 2<=zal; decide,[.ref b',v],.cons rfl (.cons x4 .nil),_,k b _ (zaA (zag x3)) nloc x3,rfl,0,rfl,rfl⟩
  ·obtain⟨a',b,v,x1,x2,x3,x4,_,_⟩:=fact j p hp
   rw[ha] at x1; cases x1
   obtain⟨j',hj',e2⟩:=qd8 (H:=H) (as:=as) (ds:=(bs.zip ps).map fun x=>[V.ref x.1,x.2.2]) (za4 ha)
   have:=same_ix j' j a hj' ha
   subst this
   rw[dsj j' p b hp x2] at e2
   exact⟨a,b,rfl,sm _ _ e2,sm _ _ (sm01 _ _ x3)⟩
  ·have pI:∀ (j:Nat) (p:List Int × V),ps[j]?=some p->∃ a b v,as[j]?=some a/\bs[j]?=some b/\qkf h' a b v p.1:=fun j p hp=>by
    obtain⟨a,b,v,x1,x2,x3,x4,x5,x6⟩:=fact j p hp
    refine⟨a,b,v,x1,x2,⟨_,k a _ (zaA (zag x6)) (zaO (zbQ I.lt x5)) x6,rfl,0,rfl⟩,(qij I x3).at' fun o e=>k b o ?_ (nL x3) (keep1 b o e)⟩
    exact fun z=>absurd (zag (keep1 b o e)) (by rw[z]; exact zaU _)
   refine⟨tuples' (Value.type "tuple" != Value.type "tuple"),fun Q' q'=>?_,fun i j C hi hj hij hC=>?_⟩
   ·have pr:Paired (fun a (f:Value)=>∃ its:List Value,IsTup h' a its.toArray/\its[0]?=some f) as (bs.map zaj):=by
     have:∀ {as bs:List Addr} {ps:List (List Int × V)},as.length=ps.length->bs.length=ps.length->(∀ (j:Nat) (p:List Int × V),ps[j]?=some p->∃ a b v,as[j]?=some a/\bs[j]?=some b/\qkf h' a b v p.1)->Paired (fun a (f:Value)=>∃ its:List Value,IsTup h' a its.toArray/\its[0]?=some f) as (bs.map zaj):=by
      intro as
      induction as with
      | nil=>intro bs ps h1 h2 _; cases ps with
       | nil=>cases bs with
        | nil=>exact .nil
        | cons _ _=>cases h2
       | cons _ _=>cases h1
      | cons a as ih=>intro bs ps h1 h2 h3; cases ps with
       | nil=>cases h1
       | cons p ps=>cases bs with
        | nil=>cases h2
        | cons b bs=>
         obtain⟨a',b',v,y1,y2,y3,_⟩:=h3 0 p rfl
         have e1:a'=a:=by simpa using y1.symm
         have e2:b'=b:=by simpa using y2.symm
         subst e1 e2
         exact .cons ⟨[.ref b',v],y3,rfl⟩ (ih (by simpa using h1) (by simpa using h2) fun j q hq=>h3 (j + 1) q (by simpa using hq))
     exact this hal' hbl pI
    refine kat_kind (s:={ s with heap:=h',toks:=tk }) (qcD pr) (by rw[zaq,hbl]; omega) (fun v hv=>?_) (by decide) q'
    obtain⟨b,hb,rfl⟩:=List.mem_map.mp hv
    obtain⟨j,hj⟩:=List.mem_iff_getElem?.mp hb
    have lj:j < ps.length:=by rw[<- hbl]; exact(List.getElem?_eq_some_iff.mp hj).1
    obtain⟨a,b',v,_,y2,_,its,⟨o,e1,e2,_⟩,_⟩:=pI j _ (zaC lj)
    rw[hj] at y2; cases y2
    rw[<- e2]
    exact(show Looks _ h' (typeOf (.ref b)) o.cls from(Looks.ld e1).andThen .now)
   ·refine qkU (by omega) (by omega) ?_
    obtain⟨x,b1,v1,x1,_,x2⟩:=pI i _ (zaC hi)
    obtain⟨y,b2,v2,y1,_,y2⟩:=pI j _ (zaC hj)
    have ex:as.getD i 0=x:=by simp[List.getD,x1]
    have ey:as.getD j 0=y:=by simp[List.getD,y1]
    rw[ex,ey]
    have hne:ps[i].1≠ps[j].1:=fun z=>hij (by
     have e1:(ps.map (·.1))[i]'(by rw[zaq]; exact hi)=(ps.map (·.1))[j]'(by rw[zaq]; exact hj):=by simpa using z
     exact(zbO hnd).mp e1)
    refine qim (s:={ s with heap:=h',toks:=tk }) x2 y2 hne (by show X.A.units + 1 + 1 < cLine; omega) ?_
    unfold ltK at hC
    have k1:(ps.map (·.1)).getD i []=ps[i].1:=by simp[hi]
    have k2:(ps.map (·.1)).getD j []=ps[j].1:=by simp[hj]
    rw[k1,k2] at hC
    exact hC
end
theorem qhW{prog:zai}{w:World}{A:Around}{E:Value->Shared->Prop}{s:Shared}{t sl:Addr}{items:Array Value}{vl vu:Value}{lo hi:Option Int}{Q:Value->Shared->Prop}(ht:IsTup s.heap t items)(hs:s.heap.IsSliceOf sl vl vu .none)(pl:IsPart vl lo)(pu:IsPart vu hi)
  (hw:HT.sIx items.size 0 lo=0/\HT.sIx items.size items.size hi=items.size) (h:Q (.ref t) s):wpAny (model prog w) A (getItem (.ref t) (.ref sl)) Q E s:=by
 obtain⟨os,hos,hcs,hds⟩:=id hs
 have tt:s.TypeIs (.ref sl) "slice" := ⟨os,hos,hcs⟩
 unfold getItem; try with_reducible refine zba ?_
 first | refine zaa (zab ?_) | skip
 refine zaa (wpAny_sequenceKey ht.typeIs (by decide) ?_); refine zaa (zbJ (name:=za5 "__getitem__") ht.typeIs zcs (zbd zcs ht.typeIs entry_tuple_getitem ?_ (args_tuple_getitem _ _)))
 show wpAny _ _ (Builtin.Tuple.tupleItemsOf (.ref t) >>= _) _ _ s; refine zaa (tupleItemsOf_ ht (zaa (wpAny_typeOf tt ?_)))
 rw[if_pos (by decide)]; refine zaa (HT.qbt hs pl pu ?_)
 have yes:(((HT.sIx items.size 0 lo:Nat):Int) == 0 && (1:Int) == 1 && (HT.sIx items.size items.size hi - HT.sIx items.size 0 lo) == items.size)=true:=by
  rw[hw.1,hw.2]
  simp
 show wpAny _ _ (if (((HT.sIx items.size 0 lo:Nat):Int) == 0 && (1:Int) == 1 && (HT.sIx items.size items.size hi - HT.sIx items.size 0 lo) == items.size)=true then _ else _) _ _ s
 rw[if_pos yes]
 refine zaa (m:=Builtin.Tuple.tupleIsExact _) ?_; unfold Builtin.Tuple.tupleIsExact; refine zaa (wpAny_typeOf ht.typeIs (zab ?_))
 rw[if_pos (by decide)]; exact zaa (zbh (zab ⟨_,rfl,zab h⟩))
section
variable {X:Cx}
noncomputable def rSlW(K:zad):V->Option Int->Option Int->Hp->VK->Prop:=fun x lo hi H Q=>∃ a xs,x=.ref a/\SqT K H a xs/\(HT.sIx xs.length 0 lo=0/\HT.sIx xs.length xs.length hi=xs.length)/\Q (.ref a) H
theorem qmO:SlR X (rSlW X.K):=by
 intro pins s σ H x v vl vu lo hi sl Q I rx hs pl pu h
 obtain⟨a,xs,rfl,hx,hw,q⟩:=h
 cases rx
 obtain⟨its,r,ht,hz⟩:=I.tuple hx
 have hlen:its.toArray.size=xs.length:=by rw[zat]; exact r.length.symm
 exact⟨"tuple",_,PyProof.Rows.slot_tuple_getitem.lookup,ht.typeIs,qhW ht hs pl pu (by rw[hlen]; exact hw) ⟨.ref a,H,I,rfl,q⟩⟩
theorem qmb:SlR X (fun x lo hi H Q=>rSlT X.K x lo hi H Q\/rSlW X.K x lo hi H Q):=qnI.or qmO
end
theorem qe1{P:zai}{w:World}{H:Hp}{h:Heap}{d:Addr}{kvs:List (List Key × V)}(x:ObjOk P w H h d (.dT kvs)):(d == za9)=false/\kvs.length<=zal/\∃ es ep,RawD h d es ep/\es.size=kvs.length /\
  ∀ (j:Nat) (p:List Key × V),kvs[j]?=some p->∃ (e:zbo) (b:Addr),es[j]?=some e/\e.key=.ref b/\H b=some (.tup (p.1.map kV))/\RelV p.2 e.val/\e.hash=(zaZ (qK P w)).hash p.1:=by
 obtain⟨z,y,xs,r,o,es,ep,h1,h2,h3,h4,h5⟩:=x
 have hl:xs.length=kvs.length:=(zbr r).symm
 have hes:es.size=kvs.length:=by
  have:=congrArg zbI h4
  rw[zaN,zaq] at this
  omega
 have get:∀ {kvs:List (List Key × V)} {xs:List (List Key × Addr × Value)},Paired (fun (p:List Key × V) (q:List Key × Addr × Value)=>p.1=q.1/\H q.2.1=some (.tup (p.1.map kV))/\RelV p.2 q.2.2) kvs xs->
   ∀ (j:Nat) (p:List Key × V),kvs[j]?=some p->∃ q,xs[j]?=some q/\p.1=q.1/\H q.2.1=some (.tup (p.1.map kV))/\RelV p.2 q.2.2:=by
  intro kvs xs r
  induction r with
  | nil=>intro j p e; simp at e
  | cons h t ih=>
   intro j p e
   cases j with
   | zero=>simp at e; subst e; exact⟨_,rfl,h⟩
   | succ j=>exact ih j p (by simpa using e)
 refine⟨y,z,es,ep,⟨o,h1,h2,h3⟩,hes,fun j p e=>?_⟩
 obtain⟨q,e1,e2,e3,e4⟩:=get r j p e
 have e5:es[j]?=some (entryOfKey (zaZ (qK P w)) q):=by
  rw[<- zb1,h4,zaz,e1]
  rfl
 exact⟨_,q.2.1,e5,rfl,e3,e4,by show(zaZ (qK P w)).hash q.1=_; rw[e2]⟩
noncomputable def ItD(d:Addr)(o:Obj)(kvs:List (List Key × V)):It:=
 ⟨fun i H=>H d=some (.frz o (.dT kvs))/\i < kvs.length,fun i H x H'=>H'=H/\∃ k v b,kvs[i]?=some (k,v)/\x=.ref b/\H b=some (.tup (k.map kV)),fun i H=>H d=some (.frz o (.dT kvs))/\kvs.length<=i⟩
theorem qhS{P:zai}{w:World}{K:zad}{tg:Expr}(d it:Addr)(o:Obj)(kvs:List (List Key × V))(es:Array zbo)(ep:Nat)(hd:o.data=.dict es ep)(hes:es.size=kvs.length):Turn P w K tg (ItD d o kvs) [it] it (fun i h=>h.IsKeyIter it d i es.size ep) where
 mem:=by simp
 obj:=fun i h st b hb=>by
  have e:b=it:=by simpa using hb
  subst e
  obtain⟨o,e1,e2,e3⟩:=st
  exact⟨o,e1,fun v z=>by rw[e3] at z; cases z⟩
 keep:=fun i h h' st k=>st.at fun o e=>k it (by simp) o e
 item:=by
  intro X hP hw hK hc i pins s σ H E I hf st hg
  subst hP hw hK
  obtain⟨h1,h2⟩:=hg
  obtain⟨g1,g2⟩:=(show ObjOk X.prog X.w H s.heap d (.frz o (.dT kvs)) from I.hok d _ h1)
  obtain⟨_,_,es',ep',⟨o',r1,r2,r3⟩,hes',hent⟩:=qe1 g2
  rw[g1] at r1; cases r1
  rw[hd] at r3; injection r3 with r4 r5
  subst r4 r5
  obtain⟨f0,f1,f2,f3,f4,f5⟩:=hf it (by simp)
  have hi:i < es.size:=by omega
  refine qgm st ⟨o,g1,r2,hd⟩ hi fun h' st' sb=>?_
  have I1:Inv X pins σ H { s with heap:=h' }:=I.turned (t':=s.toks) (fun b o hb e=>(sb.2 b hb).trans e) f0 f1 f3 f4 f5
  obtain⟨e,b,e1,e2,e3,_⟩:=hent i _ (zaC h2)
  have ee:es[i]=e:=by
   rw[Array.getElem?_eq_getElem hi] at e1
   exact zaF e1
  obtain⟨o2,q1,q2,q3⟩:=id st'
  refine⟨_,rfl,qfH (s:={ s with heap:=h' }) (n := "dict_keyiterator") q1 q2 q3 (by decide) ⟨.ref b,H,I1,?_,⟨rfl,kvs[i].1,kvs[i].2,b,zaC h2,rfl,e3⟩,st',fun c hb=>(hf c hb).1⟩⟩
  rw[ee,e2]
  rfl
 done:=by
  intro X hP hw hK hc i pins s σ H E I hf st hg
  subst hP hw hK
  obtain⟨h1,h2⟩:=hg
  obtain⟨g1,g2⟩:=(show ObjOk X.prog X.w H s.heap d (.frz o (.dT kvs)) from I.hok d _ h1)
  obtain⟨_,_,es',ep',⟨o',r1,r2,r3⟩,hes',hent⟩:=qe1 g2
  rw[g1] at r1; cases r1
  obtain⟨f0,f1,f2,f3,f4,f5⟩:=hf it (by simp)
  exact qiQ (I.ok.hd hc) st ⟨o,g1,r2,hd⟩ (by omega) fun h' eb=>⟨rfl,I.turned (t':=s.toks) (fun b o hb e=>eb b o hb e) f0 f1 f3 f4 f5⟩
 self:=fun _ _ _ _ _ st h=>wpAny_pyIter_keyiter st h
theorem qhb{X:Cx}{pins:List (Addr × Obj)}{σ:L2.St}{H:Hp}{s:Shared}{d:Addr}{kvs:List (List Key × V)}{o:Obj}(I:Inv X pins σ H s)(hd:H d=some (.dT kvs))(ho:s.heap.get? d=some o):Inv X pins σ (upd H d (.frz o (.dT kvs))) s:=by
 have ne:∀ b u,H b=some u->(∀ z,u≠.dT z)->b≠d:=fun b u e n z=>by
  subst z
  rw[hd] at e
  exact n kvs (zaF e).symm
 have J:=I.un (h':=s.heap) (t':=s.toks) (H':=upd H d (.frz o (.dT kvs))) ⟨fun b u q _ _ _=>q,fun b u q _ _ _=>⟨u.slots,q⟩,fun b u q n _=>by rw[qt (fun z=>by rw[z,hd] at n; cases n)]; exact n,fun b u q _=>⟨u,q⟩,
  fun b xs q=>by rw[qt (ne b _ q (fun z h=>by cases h))]; exact q,fun b u xs q=>by rw[qt (ne b _ q (fun z h=>by cases h))]; exact q,fun b ps q=>⟨#[],by rw[qt (ne b _ q (fun z h=>by cases h)),q]; simp⟩⟩ (fun b u e=>?_)
 ·exact J
 ·have st:∀ {b:Addr} {u:HO},ObjOk X.prog X.w H s.heap b u->ObjOk X.prog X.w (upd H d (.frz o (.dT kvs))) s.heap b u:=fun x=>x.stay (fun _ _ _ q=>q) (fun c q=>by rw[qt (ne c _ q (fun z h=>by cases h))]; exact q) fun c xs q=>by rw[qt (ne c _ q (fun z h=>by cases h))]; exact q
  by_cases hb:b=d
  ·subst hb
   rw[qw] at e
   cases e
   exact⟨ho,st (I.hok b _ hd)⟩
  ·rw[qt hb] at e
   exact st (I.hok b u e)
section
variable {X:Cx}{tg:Expr}
end
theorem qik{M:Model}{A:Around}{E:Value->Shared->Prop}{s:Shared}{b:Addr}{Q:Bool->Shared->Prop}{prog:zai}{w:World}(hT:s.TypeIs (.ref b) "tuple")(h:Q false s):wpAny (model prog w) A (Builtin.Dict.quietEq (.ref b)) Q E s:=by
 unfold Builtin.Dict.quietEq
 exact zaa (wpAny_specialOf hT PySem.F.slot_tuple_eq.lookup (zab h))
theorem qjT{prog:zai}{w:World}{A:Around}{E:Value->Shared->Prop}{s:Shared}{d:Addr}{es:Array zbo}{ep:Nat}{Q:Value->Shared->Prop}(lo:(d == za9)=false)(raw:RawD s.heap d es ep)(hsz:es.size<=zal)
  (hkeys:∀ e∈es.toList,∃ b,e.key=.ref b/\s.TypeIs (.ref b) "tuple") (hh:∀ e∈es.toList,(es.filter (·.hash == e.hash)).size<=1)
  (h:∀ h' ep',RawD h' s.heap.objs.size es ep'->za3 s.heap.objs.size (s.heap.push { cls:=.type "dict",data:=.dict #[] }) h'->Q (.ref s.heap.objs.size) { s with heap:=h' }):wpAny (model prog w) A (call (.type "dict") [.ref d]) Q E s:=by
 refine callType_codes (Q₁:=fun obj s₁=>obj=.ref s.heap.objs.size/\s₁={ s with heap:=s.heap.push { cls:=.type "dict",data:=.dict #[] } }) PySem.F.kt_called_dict (PySem.F.kt_typeCall_dict_1 _) PySem.F.entry_dict_init (kt_code_dict_new _ ⟨rfl,rfl⟩) ?_
 rintro obj s₁ ⟨rfl,rfl⟩
 have n1:(s.heap.push { cls:=.type "dict",data:=.dict #[] }).get? s.heap.objs.size=some { cls:=.type "dict",data:=.dict #[] }:=zay _ rfl
 have r2:RawD (s.heap.push { cls:=.type "dict",data:=.dict #[] }) d es ep:=raw.at' fun o e=>zah _ e
 have t1:Shared.TypeIs { s with heap:=s.heap.push { cls:=.type "dict",data:=.dict #[] } } (.ref s.heap.objs.size) "dict" := ⟨_,n1,rfl⟩
 have t2:Shared.TypeIs { s with heap:=s.heap.push { cls:=.type "dict",data:=.dict #[] } } (.ref d) "dict" := r2.typ
 have hne:s.heap.objs.size≠d:=by
  obtain⟨o,e,_⟩:=raw
  exact fun z=>absurd (zag e) (by rw[z]; exact zaU _)
 refine⟨t1,PySem.F.args_dict_init_2 _ _,?_⟩
 unfold Builtin.«dict.__init__»; refine zaa ?_; unfold Builtin.Dict.selfAndRest; refine zaa (wpAny_notOrdered_dict t1 ?_)
 show wpAny _ _ (pure (s.heap.objs.size,[zaj d])) _ _ _; refine zab ?_
 show wpAny _ _ (Builtin.Dict.updateFrom "dict.__init__" s.heap.objs.size (.ref d) [] .none) _ _ _; unfold Builtin.Dict.updateFrom
 refine zaa (wpAny_typeOf t2 ?_); rw[if_neg (by decide)]; refine zaa ?_; unfold Builtin.Dict.merge
 refine zaa ?_; unfold Builtin.Dict.readDirectly; refine zaa (wpAny_isInstance t2 isSubtype_dict_dict ?_)
 simp only[Bool.not_true,zbj,if_false]; refine zaa (wpAny_specialOf t2 PySem.F.slot_dict_iter.lookup (zab ?_))
 simp only[beq_self_eq_true,if_true]; refine zaa (zab ?_)
 obtain⟨o,g1,g2,g3⟩:=r2
 unfold Builtin.Dict.mergeDict; rw[if_neg (by simpa using hne)]; unfold zck; rw[if_neg (by rw[lo]; exact zax)]
 refine zaa (zab (zaa (zbM g1 g3 ?_)))
 dsimp only
 by_cases z:es.size=0
 ·have z':es=#[]:=Array.eq_empty_of_size_eq_zero z
  subst z'
  rw[if_neg (by simp)]
  refine zaa (zb7 g1 g3 (zaa (zbM g1 g3 ?_)))
  rw[Std.Legacy.Range.forIn_eq_forIn_range']
  refine zaa (zab (zab (zaa (zab (zab ⟨rfl,?_⟩)))))
  exact h _ _ ⟨_,n1,⟨rfl,rfl,rfl⟩,rfl⟩ (Heap.SameBut.refl _ _)
 ·have few:(!(decide (es.size<=8) && es.all fun e=>(keyPart e.key).isSome))=true:=by
   have:(es.all fun e=>(keyPart e.key).isSome)=false:=by
    rw[Bool.eq_false_iff]
    intro q
    rw[Array.all_eq_true'] at q
    obtain⟨b,e1,_⟩:=hkeys (es[0]'(by omega)) (by simp)
    have:=q (es[0]'(by omega)) (by simp)
    rw[e1] at this
    exact absurd this (by simp[keyPart])
   rw[this]
   simp
  rw[if_pos few]
  refine zaa (zbM n1 rfl ?_); rw[if_pos (by rfl)]
  refine zaa ?_; unfold Builtin.Dict.entriesForEmpty; refine zaa (zbM g1 g3 ?_)
  rw[<- Array.forIn_toList]
  refine zaa (wpAny_forIn_list _ (fun rest _ s'=>s'={ s with heap:=s.heap.push { cls:=.type "dict",data:=.dict #[] } }/\∀ e∈rest,e∈es.toList) _ ?_ ?_ _ _ ⟨rfl,fun e he=>he⟩)
  ·rintro e rest b s' ⟨rfl,hm⟩
   have he:=hm e (zav ..)
   obtain⟨b',e1,⟨o',e2,e3⟩⟩:=hkeys e he
   rw[e1]
   refine zaa (qik (M:=model prog w) ⟨o',zah _ e2,e3⟩ ?_)
   simp only[Bool.not_false,if_true]
   rw[if_neg (by have:=hh e he; omega)]
   exact zab ⟨rfl,fun e' he'=>hm e' (zaw _ he')⟩
  ·rintro b s' ⟨rfl,_⟩
   refine zab ?_
   have ne:(!es.isEmpty)=true:=by
    cases q:es.isEmpty with
    | false=>rfl
    | true=>exact absurd (by rw[Array.isEmpty_iff.mp q]; rfl) z
   rw[if_pos ne]
   refine zaa (wpAny_updateDictKeysTo n1 rfl (zab (zaa (zab (zab ⟨rfl,?_⟩)))) (by omega))
   exact h _ _ ⟨_,zbK _ n1 rfl,⟨rfl,rfl,rfl⟩,rfl⟩ (zbN ..)
theorem qdJ{α:Type}{f:α->Int}{c:Int}:∀ (l:List α),(l.map f).Nodup->(l.filter fun x=>f x == c).length<=1
 | [],_=>by simp
 | x :: l,h=>by
  rw[zaf,List.nodup_cons] at h
  have ih:=qdJ (c:=c) l h.2
  rw[List.filter_cons]
  by_cases e:(f x == c)=true
  ·rw[if_pos e]
   have ex:f x=c:=by simpa using e
   have:l.filter (fun x=>f x == c)=[]:=by
    rw[List.filter_eq_nil_iff]
    intro y hy hc
    exact h.1 (List.mem_map.mpr ⟨y,hy,by rw[ex]; simpa using hc⟩)
   rw[this]
   simp
  ·rw[if_neg e]
   exact ih
section
variable {X:Cx}
theorem qhu:CallR X (.type "dict") (fun xs H Q=>∃ d kvs,xs=[.ref d]/\Rd H d (.dT kvs)/\(kvs.map fun p=>(zaZ (qK X.prog X.w)).hash p.1).Nodup/\∀ p,H p=none->Q (.ref p) (upd H p (.dT kvs))):=by
 intro pins s σ H xs us Q I r h
 obtain⟨d,kvs,rfl,hd,hnd,q⟩:=h
 obtain⟨u,rfl,ru⟩:=vals1 r
 cases ru
 obtain⟨z,y,xs,rel,o,es,ep,h1,h2,h3,h4,h5⟩:=(show ObjOk X.prog X.w H s.heap d (.dT kvs) from hd.ok I.hok)
 have hes:es.size=kvs.length:=by
  have:=congrArg zbI h4
  rw[zaN,zaq] at this
  have e:=zbr rel
  omega
 have hash:es.toList.map (·.hash)=kvs.map fun p=>(zaZ (qK X.prog X.w)).hash p.1:=by
  rw[h4,zaD]
  have:∀ {kvs:List (List Key × V)} {xs:List (List Key × Addr × Value)},Paired (fun (p:List Key × V) (q:List Key × Addr × Value)=>p.1=q.1/\H q.2.1=some (.tup (p.1.map kV))/\RelV p.2 q.2.2) kvs xs->
    xs.map ((·.hash) ∘ entryOfKey (zaZ (qK X.prog X.w)))=kvs.map fun p=>(zaZ (qK X.prog X.w)).hash p.1:=by
   intro kvs xs r
   induction r with
   | nil=>rfl
   | cons h t ih=>rw[zaf,zaf,ih,h.1]; rfl
  exact this rel
 have tup:∀ {kvs:List (List Key × V)} {xs:List (List Key × Addr × Value)},Paired (fun (p:List Key × V) (q:List Key × Addr × Value)=>p.1=q.1/\H q.2.1=some (.tup (p.1.map kV))/\RelV p.2 q.2.2) kvs xs->∀ x∈xs,∃ k:List V,H x.2.1=some (.tup k):=by
  intro kvs xs r
  induction r with
  | nil=>intro x hx; exact nomatch hx
  | cons h t ih=>
   intro x hx
   rcases List.mem_cons.mp hx with e | e
   ·rw[e]; exact⟨_,h.2.1⟩
   ·exact ih x e
 refine qjT y ⟨o,h1,h2,h3⟩ (by omega) (fun e he=>?_) (fun e he=>?_) fun h' ep' raw' sb=>?_
 ·rw[h4] at he
  obtain⟨x,hx,rfl⟩:=List.mem_map.mp he
  obtain⟨k,hk⟩:=tup rel x hx
  obtain⟨its,_,⟨ob,e1,e2,_⟩,_⟩:=I.tuple (SqT.of hk)
  exact⟨x.2.1,rfl,ob,e1,e2⟩
 ·have:=qdJ (f:=(·.hash)) (c:=e.hash) es.toList (by rw[hash]; exact hnd)
  rw[<- zaN,Array.toList_filter]
  exact this
 ·have hn:H s.heap.objs.size=none:=I.fresh
  obtain⟨o',e1,e2,e3⟩:=raw'
  refine⟨.ref s.heap.objs.size,_,I.laid (t':=s.toks) (o:=.dT kvs) (fun b ob q=>(sb.2 b (zaA (zag q))).trans (zah _ q)) (zae _) ⟨z,beq_eq_false_iff_ne.mpr (zaK (zaA I.big)),xs,?_,o',es,ep',e1,e2,e3,h4,h5⟩,rfl,q _ hn⟩
  exact Paired.mapP rel fun p q z=>⟨z.1,by rw[qt (qQ z.2.1 hn)]; exact z.2.1,z.2.2⟩
end
end My
namespace My
open PySem PySem.Spec PyProof.Rows L2 PySem.SeqAt
noncomputable abbrev Tm:=List Int × Int
noncomputable def kJ(t:Tm):List Key × V:=(t.1.map zao,.int t.2)
noncomputable def look(cs:List Tm)(k:List Int):Option Int:=(cs.find? fun t=>decide (t.1=k)).map (·.2)
noncomputable def put(cs:List Tm)(k:List Int)(c:Int):List Tm:=if (cs.any fun t=>decide (t.1=k))=true then cs.map (fun t=>if t.1=k then (t.1,c) else t) else cs ++ [(k,c)]
theorem qaL{a b:List Int}:(a.map (zao:Int->Key)=b.map zao)↔a=b:=by
 constructor
 ·intro h
  induction a generalizing b with
  | nil=>cases b with
   | nil=>rfl
   | cons _ _=>cases h
  | cons x xs ih=>cases b with
   | nil=>cases h
   | cons y ys=>
    rw[zaf,zaf] at h
    injection h with h1 h2
    injection h1 with h1
    rw[h1,ih h2]
 ·intro h; rw[h]
theorem qld(cs:List Tm)(k:List Int):valV (cs.map kJ) (k.map zao:List Key)=(look cs k).map V.int:=by
 induction cs with
 | nil=>rfl
 | cons t cs ih=>
  rw[zaf]
  by_cases e:t.1=k
  ·rw[qar (p:=kJ t) (by show t.1.map zao=_; rw[e])]
   simp[look,e]
   rfl
  ·rw[qat (p:=kJ t) (by show ¬ t.1.map zao=_; rw[qaL]; exact e),ih]
   simp[look,e]
theorem qnz(cs:List Tm)(k:List Int)(c:Int):putK (cs.map kJ) (k.map zao:List Key) (.int c)=(put cs k c).map kJ:=by
 unfold putK put
 have e:((cs.map kJ).any fun kv=>decide (kv.1=(k.map zao:List Key)))=cs.any fun t=>decide (t.1=k):=by
  rw[List.any_map]
  congr 1
  funext t
  exact decide_eq_decide.mpr (qaL (a:=t.1) (b:=k))
 rw[e]
 by_cases h:(cs.any fun t=>decide (t.1=k))=true
 ·rw[if_pos h,if_pos h,zaD,zaD]
  congr 1
  funext t
  show(if t.1.map zao=(k.map zao:List Key) then ((t.1.map zao:List Key),V.int c) else kJ t)=kJ (if t.1=k then (t.1,c) else t)
  by_cases z:t.1=k
  ·rw[if_pos z,if_pos (qaL.mpr z)]; rfl
  ·rw[if_neg z,if_neg (fun q=>z (qaL.mp q))]
 ·rw[if_neg h,if_neg h,List.map_append]
  rfl
theorem qlB(cs:List Tm)(k:List Int)(c:Int):(put cs k c).length<=cs.length + 1:=by
 unfold put
 split
 ·rw[zaq]; omega
 ·rw[zbA]; simp
theorem qfz{cs:List Tm}{k:List Int}{c:Int}(h:(cs.map (·.1)).Nodup):((put cs k c).map (·.1)).Nodup:=by
 unfold put
 split
 ·rw[zaD]
  have:((·.1) ∘ fun t:Tm=>if t.1=k then (t.1,c) else t)=(·.1):=by
   funext t
   show(if t.1=k then (t.1,c) else t).1=t.1
   split <;> rfl
  rw[this]; exact h
 ·rename_i z
  rw[List.map_append]
  refine L2.qiq h fun hm=>z ?_
  obtain⟨t,ht,e⟩:=List.mem_map.mp hm
  exact List.any_eq_true.mpr ⟨t,ht,decide_eq_true e⟩
theorem qg2(cs:List Tm)(k j:List Int)(c:Int):look (put cs k c) j=if j=k then some c else look cs j:=by
 have h:=qkH (cs.map kJ) (k.map zao:List Key) (j.map zao) (.int c)
 rw[qnz,qld,qld] at h
 by_cases e:j=k
 ·rw[if_pos e]
  rw[if_pos (qaL.mpr e)] at h
  cases q:look (put cs k c) j with
  | none=>rw[q] at h; cases h
  | some x=>rw[q] at h; cases h; rfl
 ·rw[if_neg e]
  rw[if_neg (fun q=>e (qaL.mp q))] at h
  cases q:look (put cs k c) j with
  | none=>rw[q] at h; cases q2:look cs j with
   | none=>rfl
   | some x=>rw[q2] at h; cases h
  | some x=>rw[q] at h; cases q2:look cs j with
   | none=>rw[q2] at h; cases h
   | some y=>rw[q2] at h; cases h; rfl
theorem qbG{cs:List Tm}{t:Tm}(h:(cs.map (·.1)).Nodup)(ht:t∈cs):look cs t.1=some t.2:=by
 induction cs with
 | nil=>cases ht
 | cons u cs ih=>
  rw[zaf,List.nodup_cons] at h
  rcases List.mem_cons.mp ht with e | e
  ·subst e; simp[look]
  ·have ne:¬ u.1=t.1:=fun z=>h.1 (List.mem_map.mpr ⟨t,e,z.symm⟩)
   have:=ih h.2 e
   unfold look at this ⊢
   rw[zbf,decide_eq_false ne]
   exact this
theorem qd9{cs:List Tm}{k:List Int}{c:Int}(h:look cs k=some c):(k,c)∈cs:=by
 unfold look at h
 cases e:cs.find? fun t=>decide (t.1=k) with
 | none=>rw[e] at h; cases h
 | some t=>
  rw[e] at h
  have h1:=List.mem_of_find?_eq_some e
  have h2:=List.find?_some e
  cases h
  have:t.1=k:=of_decide_eq_true h2
  rw[<- this]
  exact h1
noncomputable def add1(cs:List Tm)(t:Tm):List Tm:=put cs t.1 ((look cs t.1).getD 0 + t.2)
noncomputable def qm7(ts:List Tm):List Tm:=ts.foldl add1 []
noncomputable def qaw(M:Int)(qs:List Tm):List Tm:=(qs.filter fun t=>decide (t.2 % M≠0)).map fun t=>(t.1,t.2 % M)
noncomputable def TS(H H':Hp):Prop:=∀ b xs,H b=some (.tup xs)->H' b=some (.tup xs)
theorem TS.trans{H H1 H2:Hp}(a:TS H H1)(b:TS H1 H2):TS H H2:=fun c xs h=>b c xs (a c xs h)
theorem TS.put{H:Hp}{l:Addr}{u o:HO}(h:H l=some u)(n:∀ xs,u≠.tup xs):TS H (upd H l o):=fun b xs hb=>by
 rw[qt (fun z=>by subst z; rw[h] at hb; exact n xs (zaF hb))]
 exact hb
theorem qh9:∀ ns:List Int,nbL (ns.map Dx.int)=true:=fun ns=>qfI (f:=Dx.int) (fun _=>by rw[Dx.nb]) ns
theorem qgn:∀ ns:List Int,depL (ns.map Dx.int)<=0:=fun ns=>qeD (f:=Dx.int) (fun _=>by rw[Dx.dep]; exact zae _) ns
noncomputable def hT(ns:List Int):Int:=reduceHash (Builtin.Tuple.tupleHashOf (ns.map hashInt))
theorem ql2(P:zai)(w:World)(ns:List Int):(zaZ (qK P w)).hash (ns.map zao)=hT ns:=by
 show reduceHash (Builtin.Tuple.tupleHashOf ((ns.map zao).map (qK P w).hash))=_
 rw[zaD]
 rfl
noncomputable def qhX:List (List Int):=[[0],[1],[2],[3],[4],[5],[6],[7],[8]]
noncomputable def qk5:List (List Int):=([0,1,2,3,4,5,6,7,8]:List Int).flatMap fun i=>([0,1,2,3,4,5,6,7,8]:List Int).map fun j=>[i,j]
theorem qhK:((qhX ++ qk5).map hT).Nodup:=by decide +kernel
theorem qb8{α β:Type}{f:α->β}:∀ {l:List α},(l.map f).Nodup->∀ {a b:α},a∈l->b∈l->f a=f b->a=b
 | [],_,a,b,ha,_,_=>by cases ha
 | x :: l,h,a,b,ha,hb,e=>by
  rw[zaf,List.nodup_cons] at h
  rcases List.mem_cons.mp ha with z | z <;> rcases List.mem_cons.mp hb with y | y
  ·rw[z,y]
  ·subst z; exact absurd (List.mem_map.mpr ⟨b,y,e.symm⟩) h.1
  ·subst y; exact absurd (List.mem_map.mpr ⟨a,z,e⟩) h.1
  ·exact qb8 h.2 z y e
noncomputable def qce(k:List Int):Prop:=(k.length=1\/k.length=2)/\∀ e∈k,0<=e/\e<=8
theorem qeM{k:List Int}(h:qce k):k∈qhX ++ qk5:=by
 obtain⟨hl,hk⟩:=h
 have dig:∀ e:Int,0<=e->e<=8->e∈([0,1,2,3,4,5,6,7,8]:List Int):=fun e h1 h2=>by
  have:e=0\/e=1\/e=2\/e=3\/e=4\/e=5\/e=6\/e=7\/e=8:=by omega
  rcases this with z | z | z | z | z | z | z | z | z <;> (rw[z]; decide)
 match k,hl,hk with
 | [x],_,hk=>
  have d:=dig x (hk x (by simp)).1 (hk x (by simp)).2
  refine List.mem_append_left _ ?_
  have:qhX=([0,1,2,3,4,5,6,7,8]:List Int).map fun i=>[i]:=rfl
  rw[this]
  exact List.mem_map.mpr ⟨x,d,rfl⟩
 | [x,y],_,hk=>
  refine zbt _ (List.mem_flatMap.mpr ⟨x,dig x (hk x (by simp)).1 (hk x (by simp)).2,List.mem_map.mpr ⟨y,dig y (hk y (by simp)).1 (hk y (by simp)).2,rfl⟩⟩)
 | [],hl,_=>simp at hl
 | _ :: _ :: _ :: _,hl,_=>simp at hl
theorem qhv(P:zai)(w:World){cs:List Tm}(hn:(cs.map (·.1)).Nodup)(hs:∀ t∈cs,qce t.1):((cs.map kJ).map fun p=>(zaZ (qK P w)).hash p.1).Nodup:=by
 have e:((cs.map kJ).map fun p=>(zaZ (qK P w)).hash p.1)=(cs.map (·.1)).map hT:=by
  rw[zaD,zaD]
  congr 1
  funext t
  exact ql2 P w t.1
 rw[e]
 have:∀ {l:List (List Int)},l.Nodup->(∀ k∈l,qce k)->(l.map hT).Nodup:=by
  intro l
  induction l with
  | nil=>intro _ _; exact List.nodup_nil
  | cons x l ih=>
   intro h1 h2
   rw[List.nodup_cons] at h1
   rw[zaf,List.nodup_cons]
   refine⟨fun hm=>?_,ih h1.2 fun k hk=>h2 k (zaw _ hk)⟩
   obtain⟨y,hy,e⟩:=List.mem_map.mp hm
   have:=qb8 qhK (qeM (h2 y (zaw _ hy))) (qeM (h2 x (zav ..))) e
   exact h1.1 (this ▸ hy)
 refine this hn fun k hk=>?_
 obtain⟨t,ht,rfl⟩:=List.mem_map.mp hk
 exact hs t ht
end My
namespace My
open PySem PySem.Spec PyProof.Rows L2
noncomputable def itN(t:Bool):String:=if t=true then "tuple_iterator" else "list_iterator"
noncomputable def sqN(t:Bool):String:=if t=true then "tuple" else "list"
noncomputable def SIt(t:Bool)(h:Heap)(i l:Addr)(k:Nat):Prop:=∃ o,h.get? i=some o/\o.cls=.type (itN t)/\o.data=.fields #[.ref l,.int k 0]
noncomputable def SSq(t:Bool)(h:Heap)(l:Addr)(xs:Array Value):Prop:=∃ o,h.get? l=some o/\o.cls=.type (sqN t)/\∃ n,o.data=.seq xs n
theorem SIt.to{t:Bool}{h h':Heap}{i l:Addr}{k:Nat}(x:SIt t h i l k)(e:∀ o,h.get? i=some o->h'.get? i=some o):SIt t h' i l k:=let ⟨o,ho,r⟩:=x; ⟨o,e o ho,r⟩
theorem SSq.to{t:Bool}{h h':Heap}{l:Addr}{xs:Array Value}(x:SSq t h l xs)(e:∀ o,h.get? l=some o->h'.get? l=some o):SSq t h' l xs:=let ⟨o,ho,r⟩:=x; ⟨o,e o ho,r⟩
section
variable {prog:zai}{w:World}{A:Around}{E:Value->Shared->Prop}{s:Shared}
theorem next_item{t:Bool}{it l:Addr}{i:Nat}{xs:Array Value}{x:Value}{Q:Value->Shared->Prop}(hit:SIt t s.heap it l i)(hl:SSq t s.heap l xs)(hx:xs[i]?=some x)
  (hQ:∀ h',SIt t h' it l (i + 1)->za3 it s.heap h'->Q x { s with heap:=h' }):wpAny (model prog w) A (zb2 (.ref it)) Q E s:=by
 cases t with
 | false=>exact wpAny_nextOf_list_item (it:=it) (l:=l) (items:=xs) hit hl hx hQ
 | true=>
  have hit':s.heap.IsTupleIter it l i:=hit
  obtain⟨o,ho,hc,hd⟩:=hit; obtain⟨ol,hol,_,nl,hdl⟩:=hl
  unfold zb2; refine zaa (zbJ (name:=za5 "__next__") hit'.typeIs F.slot_tuple_iterator_next (zbd F.slot_tuple_iterator_next hit'.typeIs F.entry_tuple_iterator_next ?_ (F.args_tuple_iterator_next_1 _)))
  show wpAny _ _ (field (.ref it) 0 >>= _) _ _ _; refine zaa (zaX ho hd (x:=.ref l) rfl ?_)
  show wpAny _ _ (if (zaj l == zar)=true then _ else _) _ _ _; rw[if_neg (show ¬ ((zaj l == zar)=true) from zax)]; show wpAny _ _ (field (.ref it) 1 >>= _) _ _ _
  refine zaa (zaX ho hd (x:=.int i 0) rfl ?_); show wpAny _ _ (seqItems? (.ref l) >>= _) _ _ _; refine zaa (zbx hol hdl ?_); simp only[zb8,hx]
  refine zaa (wpAny_setField ho hd (by simp) (zab ⟨x,rfl,zab (hQ _ ⟨_,zbK _ ho (Obj.isFreed_of_fields (Obj.data_mapFields hd _)),(Obj.cls_mapFields ..).trans hc,by rw[Obj.data_mapFields hd]; simp[rawInt]⟩ (zbN ..))⟩))
theorem next_end{t:Bool}{it l:Addr}{i:Nat}{xs:Array Value}{Q:Value->Shared->Prop}(hh:A.handled=none)(hit:SIt t s.heap it l i)(hl:SSq t s.heap l xs)(hx:xs[i]?=none)
  (hE:∀ h' e,Heap.ExtBut it s.heap h'->(∃ o,h'.get? e=some o/\o.cls=.type "StopIteration")->E (.ref e) { s with heap:=h' }):wpAny (model prog w) A (zb2 (.ref it)) Q E s:=by
 cases t with
 | false=>exact wpAny_nextOf_list_end (it:=it) (l:=l) (items:=xs) hh hit hl hx hE
 | true=>
  have hit':s.heap.IsTupleIter it l i:=hit
  obtain⟨o,ho,hc,hd⟩:=hit; obtain⟨ol,hol,_,nl,hdl⟩:=hl
  unfold zb2; refine zaa (zbJ (name:=za5 "__next__") hit'.typeIs F.slot_tuple_iterator_next (zbd F.slot_tuple_iterator_next hit'.typeIs F.entry_tuple_iterator_next ?_ (F.args_tuple_iterator_next_1 _)))
  show wpAny _ _ (field (.ref it) 0 >>= _) _ _ _; refine zaa (zaX ho hd (x:=.ref l) rfl ?_)
  show wpAny _ _ (if (zaj l == zar)=true then _ else _) _ _ _; rw[if_neg (show ¬ ((zaj l == zar)=true) from zax)]; show wpAny _ _ (field (.ref it) 1 >>= _) _ _ _
  refine zaa (zaX ho hd (x:=.int i 0) rfl ?_); show wpAny _ _ (seqItems? (.ref l) >>= _) _ _ _; refine zaa (zbx hol hdl ?_); simp only[zb8,hx]
  refine zaa (zbh (zaa (wpAny_setField ho hd (by simp) ?_))); show wpAny _ _ (newExc (.type "StopIteration") [] >>= _) _ _ _; refine zaa ?_; simp only[newExc,newTuple]
  refine zaa (zbe ?_ (by size_fits)); refine zaa (m:=firstArgMember _ _) (wpAny_of_eq (a:=zar) (by first | rfl | (simp only[firstArgMember]; rfl)) ?_); refine zbe ?_ (by size_fits); simp only[raiseNew]
  refine zaa (wpAny_handled ?_); first | rw[show A.in1.handled=none from hh] | rw[hh]
  refine zaa (zab (wpAny_throw ?_)); exact hE _ _ (((zbN ..).extBut.push _).push _) ⟨_,zay _ rfl,rfl⟩
structure ZA(z TI TO i1 i2 l1 l2:Addr):Prop where
 z1:TI≠z
 z2:TO≠z
 z3:i1≠z
 z4:i2≠z
 z5:TI≠TO
 z6:TI≠i1
 z7:TI≠i2
 z8:TO≠i1
 z9:TO≠i2
 za:i1≠i2
 zb:l1≠z/\l1≠TO/\l1≠i1/\l1≠i2
 zc:l2≠z/\l2≠TO/\l2≠i1/\l2≠i2
theorem qjF{t1 t2:Bool}{z TI TO i1 i2 l1 l2:Addr}{k1 k2:Nat}{xs ys:Array Value}{x y a b:Value}{Q:Option Value->Shared->Prop}(D:ZA z TI TO i1 i2 l1 l2)
  (hz:IsZip s.heap z TI TO .none) (hTI:IsPair s.heap TI (.ref i1) (.ref i2)) (hTO:IsPair s.heap TO a b) (h1:SIt t1 s.heap i1 l1 k1) (h2:SIt t2 s.heap i2 l2 k2) (hl1:SSq t1 s.heap l1 xs) (hl2:SSq t2 s.heap l2 ys) (hx:xs[k1]?=some x) (hy:ys[k2]?=some y)
  (hQ:∀ h',IsZip h' z TI TO (rawInt s.heap.objs.size)->IsPair h' TO x y->SIt t1 h' i1 l1 (k1 + 1)->SIt t2 h' i2 l2 (k2 + 1)->IsPair h' s.heap.objs.size x y->h'.objs.size=s.heap.objs.size + 1->(∀ c o,c≠z->c≠TO->c≠i1->c≠i2->s.heap.get? c=some o->h'.get? c=some o)->Q (some (.ref s.heap.objs.size)) { s with heap:=h' }) :
  wpAny (model prog w) A (pyNext (.ref z)) Q E s:=by
 have hT:s.TypeIs (.ref z) "zip" := ⟨_,hz,rfl⟩
 unfold pyNext; refine zaa (wpAny_attempt (zbJ (name:=za5 "__next__") hT F.slot_zip_next (zbd F.slot_zip_next hT F.entry_zip_next ?_ (F.args_zip_next_1 _))))
 show wpAny _ _ (field (.ref z) 2 >>= _) _ _ s; refine zaa (zaX hz rfl (x:=.bool false) rfl ?_); show wpAny _ _ (field (.ref z) 3 >>= _) _ _ s; refine zaa (zaX hz rfl (x:=.ref TI) rfl (zaa (zbx hTI rfl ?_)))
 show wpAny _ _ (zcz (.ref z) >>= _) _ _ s; refine zaa ?_; unfold zcz; refine zaa (zaX hz rfl (x:=.none) rfl (zab ?_)); simp only[if_true]
 refine zaa (zbh (zaa (zaX hz rfl (x:=.ref TO) rfl (zaa (zbv hz (by simp) fun ha hza sa=>?_))))); replace hza:IsZip ha z TI TO .ellipsis:=hza
 refine zaa ?_; simp only[List.zipIdx_cons,List.zipIdx_nil,List.forIn_cons,List.forIn_nil]; refine zaa (zaa (wpAny_onRaise ?_)); show wpAny _ _ (zb2 (.ref i1) >>= _) _ _ { s with heap:=ha }
 have ea:=sa.extBut
 refine zaa (next_item (t:=t1) (xs:=xs) (h1.to fun o e=>ea _ _ D.z3 e) (hl1.to fun o e=>ea _ _ D.zb.1 e) hx fun hb h1b sb=>zab ?_)
 have eb:=sb.extBut
 have hTOb:IsPair hb TO a b:=eb _ _ D.z8 (ea _ _ D.z2 hTO)
 refine zaa (zbx hTOb rfl (zaa (wpAny_updateSeq_pair hTOb fun hc hTOc sc=>?_))); replace hTOc:IsPair hc TO x b:=hTOc
 have ec:=sc.extBut
 refine zaa (wpAny_letGo (zab ?_)); refine zaa (zaa (wpAny_onRaise ?_)); show wpAny _ _ (zb2 (.ref i2) >>= _) _ _ { s with heap:=hc }
 refine zaa (next_item (t:=t2) (xs:=ys) (h2.to fun o e=>ec _ _ D.z9.symm (eb _ _ D.za.symm (ea _ _ D.z4 e))) (hl2.to fun o e=>ec _ _ D.zc.2.1 (eb _ _ D.zc.2.2.1 (ea _ _ D.zc.1 e))) hy fun hd h2d sd=>zab ?_)
 have ed:=sd.extBut
 have hTOd:IsPair hd TO x b:=ed _ _ D.z9 hTOc
 refine zaa (zbx hTOd rfl (zaa (wpAny_updateSeq_pair hTOd fun he hTOe se=>?_))); replace hTOe:IsPair he TO x y:=hTOe
 have ee:=se.extBut
 refine zaa (wpAny_letGo (zab (zab ?_))); refine zaa (zbx hTOe rfl (zaa (wpAny_newTuple ?_)))
 have hsz:he.objs.size=s.heap.objs.size:=by rw[se.1,sd.1,sc.1,sb.1,sa.1]
 have hze:IsZip he z TI TO .ellipsis:=ee _ _ D.z2.symm (ed _ _ D.z4.symm (ec _ _ D.z2.symm (eb _ _ D.z3.symm hza)))
 have hke:∀ c o,c≠z->c≠TO->c≠i1->c≠i2->s.heap.get? c=some o->he.get? c=some o:=fun c o c1 c2 c3 c4 e=>ee _ _ c2 (ed _ _ c4 (ec _ _ c2 (eb _ _ c3 (ea _ _ c1 e))))
 have h1e:SIt t1 he i1 l1 (k1 + 1):=h1b.to fun o e=>ee _ _ D.z8.symm (ed _ _ D.za (ec _ _ D.z8.symm e))
 have h2e:SIt t2 he i2 l2 (k2 + 1):=h2d.to fun o e=>ee _ _ D.z9.symm e
 have zlt:z < he.objs.size:=zag hze
 show wpAny _ _ (Builtin.SmallTypes.ownedTupleHandOut (.ref z) (.ref he.objs.size) >>= _) _ _ _; refine zaa ?_; unfold Builtin.SmallTypes.ownedTupleHandOut
 have hzf:IsZip (he.push { cls:=.type "tuple",data:=.seq #[x,y] }) z TI TO .ellipsis:=zah _ hze
 refine zaa (zbv hzf (by simp) fun hg hzg sg=>?_); replace hzg:IsZip hg z TI TO (rawInt he.objs.size):=hzg
 refine zbv hzg (by simp) fun hi hzi si=>?_; replace hzi:IsZip hi z TI TO (rawInt he.objs.size):=hzi
 have up:∀ c o,c≠z->he.get? c=some o->hi.get? c=some o:=fun c o c1 e=>si.extBut _ _ c1 (sg.extBut _ _ c1 (zah _ e))
 have hTi:IsPair hi he.objs.size x y:=si.extBut _ _ (zaO zlt) (sg.extBut _ _ (zaO zlt) (zay _ rfl))
 have hzz:hi.objs.size=he.objs.size + 1:=by rw[si.1,sg.1,zbV]
 rw[hsz] at hzi hTi hzz
 refine zab ⟨_,rfl,zab ?_⟩
 show Q (some (.ref he.objs.size)) _; rw[hsz]
 exact hQ hi hzi (up _ _ D.z2 hTOe) (h1e.to fun o e=>up _ o D.z3 e) (h2e.to fun o e=>up _ o D.z4 e) hTi hzz fun c o c1 c2 c3 c4 e=>up c o c1 (hke c o c1 c2 c3 c4 e)
theorem qj9{t1 t2:Bool}{z TI TO i1 i2 l1 l2:Addr}{k1 k2:Nat}{xs ys:Array Value}{a b:Value}{Q:Option Value->Shared->Prop}(hh:A.handled=none)(D:ZA z TI TO i1 i2 l1 l2)
  (hz:IsZip s.heap z TI TO .none) (hTI:IsPair s.heap TI (.ref i1) (.ref i2)) (hTO:IsPair s.heap TO a b) (h1:SIt t1 s.heap i1 l1 k1) (h2:SIt t2 s.heap i2 l2 k2) (hl1:SSq t1 s.heap l1 xs) (hl2:SSq t2 s.heap l2 ys) (hend:xs[k1]?=none\/ys[k2]?=none)
  (hQ:∀ h',(∀ c o,c≠z->c≠TO->c≠i1->c≠i2->s.heap.get? c=some o->h'.get? c=some o)->Q none { s with heap:=h' }):wpAny (model prog w) A (pyNext (.ref z)) Q E s:=by
 have hT:s.TypeIs (.ref z) "zip" := ⟨_,hz,rfl⟩
 have fin:∀ (h':Heap) (e:Addr),(∀ c o,c≠z->c≠TO->c≠i1->c≠i2->s.heap.get? c=some o->h'.get? c=some o)->(∃ o,h'.get? e=some o/\o.cls=.type "StopIteration")->wpAny (model prog w) A (do if <- isInstance (.ref e) (.type "StopIteration") then pure none else throw (.ref e)) Q E { s with heap:=h' }:=fun h' e hk he=>by
  obtain⟨o,ho,hc⟩:=he
  refine zaa (wpAny_isInstance (T := "StopIteration") (b:=true) ⟨o,ho,hc⟩ isSubtype_stop ?_)
  exact zab (hQ _ hk)
 unfold pyNext; refine zaa (wpAny_attempt (zbJ (name:=za5 "__next__") hT F.slot_zip_next (zbd F.slot_zip_next hT F.entry_zip_next ?_ (F.args_zip_next_1 _))))
 show wpAny _ _ (field (.ref z) 2 >>= _) _ _ s; refine zaa (zaX hz rfl (x:=.bool false) rfl ?_); show wpAny _ _ (field (.ref z) 3 >>= _) _ _ s; refine zaa (zaX hz rfl (x:=.ref TI) rfl (zaa (zbx hTI rfl ?_)))
 show wpAny _ _ (zcz (.ref z) >>= _) _ _ s; refine zaa ?_; unfold zcz; refine zaa (zaX hz rfl (x:=.none) rfl (zab ?_)); simp only[if_true]
 refine zaa (zbh (zaa (zaX hz rfl (x:=.ref TO) rfl (zaa (zbv hz (by simp) fun ha hza sa=>?_))))); replace hza:IsZip ha z TI TO .ellipsis:=hza
 refine zaa ?_; simp only[List.zipIdx_cons,List.zipIdx_nil,List.forIn_cons,List.forIn_nil]; refine zaa (zaa (wpAny_onRaise ?_)); show wpAny _ _ (zb2 (.ref i1) >>= _) _ _ { s with heap:=ha }
 have ea:=sa.extBut
 cases hx:xs[k1]? with
 | none=>
  refine zaa (next_end (t:=t1) (xs:=xs) hh (h1.to fun o e=>ea _ _ D.z3 e) (hl1.to fun o e=>ea _ _ D.zb.1 e) hx fun hb e sb he=>?_)
  obtain⟨oe,hoe,hce⟩:=he
  have hzb:IsZip hb z TI TO .ellipsis:=sb _ _ D.z3.symm hza
  have hez:e≠z:=fun q=>by subst q; rw[hzb] at hoe; cases hoe; simp at hce
  exact zbv hzb (by simp) fun hc _ sc=>fin hc e (fun c o c1 _ c3 _ q=>sc.extBut _ _ c1 (sb _ _ c3 (ea _ _ c1 q))) ⟨oe,sc.extBut _ _ hez hoe,hce⟩
 | some x=>
  have hy:ys[k2]?=none:=by rcases hend with h | h; rw[hx] at h; cases h; exact h
  refine zaa (next_item (t:=t1) (xs:=xs) (h1.to fun o e=>ea _ _ D.z3 e) (hl1.to fun o e=>ea _ _ D.zb.1 e) hx fun hb h1b sb=>zab ?_)
  have eb:=sb.extBut
  have hTOb:IsPair hb TO a b:=eb _ _ D.z8 (ea _ _ D.z2 hTO)
  refine zaa (zbx hTOb rfl (zaa (wpAny_updateSeq_pair hTOb fun hc hTOc sc=>?_)))
  have ec:=sc.extBut
  refine zaa (wpAny_letGo (zab ?_)); refine zaa (zaa (wpAny_onRaise ?_)); show wpAny _ _ (zb2 (.ref i2) >>= _) _ _ { s with heap:=hc }
  refine zaa (next_end (t:=t2) (xs:=ys) hh (h2.to fun o e=>ec _ _ D.z9.symm (eb _ _ D.za.symm (ea _ _ D.z4 e))) (hl2.to fun o e=>ec _ _ D.zc.2.1 (eb _ _ D.zc.2.2.1 (ea _ _ D.zc.1 e))) hy fun hd e sd he=>?_)
  obtain⟨oe,hoe,hce⟩:=he
  have hzd:IsZip hd z TI TO .ellipsis:=sd _ _ D.z4.symm (ec _ _ D.z2.symm (eb _ _ D.z3.symm hza))
  have hez:e≠z:=fun q=>by subst q; rw[hzd] at hoe; cases hoe; simp at hce
  exact zbv hzd (by simp) fun hf _ sf=>fin hf e (fun c o c1 c2 c3 c4 q=>sf.extBut _ _ c1 (sd _ _ c4 (ec _ _ c2 (eb _ _ c3 (ea _ _ c1 q))))) ⟨oe,sf.extBut _ _ hez hoe,hce⟩
noncomputable abbrev itO(t:Bool)(l:Addr):Obj:={ cls:=.type (itN t),data:=.fields #[.ref l,.int 0 0] }
noncomputable abbrev zh2(t1 t2:Bool)(h:Heap)(l1 l2:Addr):Heap:=(h.push (itO t1 l1)).push (itO t2 l2)
noncomputable abbrev zh4(t1 t2:Bool)(h:Heap)(l1 l2:Addr):Heap:=((zh2 t1 t2 h l1 l2).push { cls:=.type "tuple",data:=.seq #[.ref h.objs.size,.ref (h.push (itO t1 l1)).objs.size] }).push { cls:=.type "tuple",data:=.seq #[.none,.none] }
noncomputable abbrev zh5(t1 t2:Bool)(h:Heap)(l1 l2:Addr):Heap:=(zh4 t1 t2 h l1 l2).push { cls:=.type "zip",data:=.fields #[.none,.bool false,.bool false,.ref (zh2 t1 t2 h l1 l2).objs.size,.ref ((zh2 t1 t2 h l1 l2).push { cls:=.type "tuple",data:=.seq #[.ref h.objs.size,.ref (h.push (itO t1 l1)).objs.size] }).objs.size] }
theorem qmo(t1 t2:Bool)(l1 l2:Addr)(xs ys:Array Value):Meets (Builtin.«zip.__new__» ⟨[.type "zip",.ref l1,.ref l2],[]⟩) (fun _ R s=>SSq t1 s.heap l1 xs/\SSq t2 s.heap l2 ys/\R (.ok (.ret (.ref (zh4 t1 t2 s.heap l1 l2).objs.size))) { s with heap:=zh5 t1 t2 s.heap l1 l2 }):=
 .of_wp fun prog w A R s h=>by
  obtain⟨hp,g,d,tk,os⟩:=s; obtain⟨hl1,hl2,h⟩:=h
  have hsub:=sub_zip
  have hl2':SSq t2 (hp.push (itO t1 l1)) l2 ys:=hl2.to fun o e=>zah _ e
  cases t1 <;> cases t2
  ·have hL1:Heap.IsList (Shared.heap ⟨hp,g,d,tk,os⟩) l1 xs:=hl1
   have hL2:Heap.IsList (Shared.heap ⟨hp.push { cls:=.type "list_iterator",data:=.fields #[.ref l1,.int 0 0] },g,d,tk,os⟩) l2 ys:=hl2'
   wp_walk using zb5 hL1,zb5 hL2
   exact⟨_,rfl,h⟩
  ·have hL1:Heap.IsList (Shared.heap ⟨hp,g,d,tk,os⟩) l1 xs:=hl1
   have hL2:Heap.IsTuple (Shared.heap ⟨hp.push { cls:=.type "list_iterator",data:=.fields #[.ref l1,.int 0 0] },g,d,tk,os⟩) l2 ys:=hl2'
   wp_walk using zb5 hL1,zca hL2
   exact⟨_,rfl,h⟩
  ·have hL1:Heap.IsTuple (Shared.heap ⟨hp,g,d,tk,os⟩) l1 xs:=hl1
   have hL2:Heap.IsList (Shared.heap ⟨hp.push { cls:=.type "tuple_iterator",data:=.fields #[.ref l1,.int 0 0] },g,d,tk,os⟩) l2 ys:=hl2'
   wp_walk using zca hL1,zb5 hL2
   exact⟨_,rfl,h⟩
  ·have hL1:Heap.IsTuple (Shared.heap ⟨hp,g,d,tk,os⟩) l1 xs:=hl1
   have hL2:Heap.IsTuple (Shared.heap ⟨hp.push { cls:=.type "tuple_iterator",data:=.fields #[.ref l1,.int 0 0] },g,d,tk,os⟩) l2 ys:=hl2'
   wp_walk using zca hL1,zca hL2
   exact⟨_,rfl,h⟩
theorem qke{t1 t2:Bool}{l1 l2:Addr}{xs ys:Array Value}{Q:Value->Shared->Prop}(hl1:SSq t1 s.heap l1 xs)(hl2:SSq t2 s.heap l2 ys)
  (h : ∀ h', IsZip h' (s.heap.objs.size + 4) (s.heap.objs.size + 2) (s.heap.objs.size + 3) .none -> IsPair h' (s.heap.objs.size + 2) (.ref s.heap.objs.size) (.ref (s.heap.objs.size + 1)) -> IsPair h' (s.heap.objs.size + 3) .none .none ->
   SIt t1 h' s.heap.objs.size l1 0->SIt t2 h' (s.heap.objs.size + 1) l2 0->(∀ c o,s.heap.get? c=some o->h'.get? c=some o)->Q (.ref (s.heap.objs.size + 4)) { s with heap:=h' }):wpAny (model prog w) A (call (.type "zip") [.ref l1,.ref l2]) Q E s:=by
 refine callType_new F.called_zip (by decide) (F.typeCall_zip_2 _ _) (F.newCall_zip_2 _ _) (fun obj=>F.args_object_init_3 obj _ _) F.entry_zip_new (qmo t1 t2 l1 l2 xs ys) ⟨hl1,hl2,?_⟩
 have n1:(s.heap.push (itO t1 l1)).objs.size=s.heap.objs.size + 1:=zbV ..
 have n2:(zh2 t1 t2 s.heap l1 l2).objs.size=s.heap.objs.size + 2:=by rw[zbV,n1]
 have n3:((zh2 t1 t2 s.heap l1 l2).push { cls:=.type "tuple",data:=.seq #[.ref s.heap.objs.size,.ref (s.heap.push (itO t1 l1)).objs.size] }).objs.size=s.heap.objs.size + 3:=by rw[zbV,n2]
 have n4:(zh4 t1 t2 s.heap l1 l2).objs.size=s.heap.objs.size + 4:=by rw[zbV,n3]
 have g5:(zh5 t1 t2 s.heap l1 l2).get? (zh4 t1 t2 s.heap l1 l2).objs.size=some _:=zay _ rfl
 have g4:(zh5 t1 t2 s.heap l1 l2).get? ((zh2 t1 t2 s.heap l1 l2).push { cls:=.type "tuple",data:=.seq #[.ref s.heap.objs.size,.ref (s.heap.push (itO t1 l1)).objs.size] }).objs.size=some _:=zah _ (zay _ rfl)
 have g3:(zh5 t1 t2 s.heap l1 l2).get? (zh2 t1 t2 s.heap l1 l2).objs.size=some _:=zah _ (zah _ (zay _ rfl))
 have g2:(zh5 t1 t2 s.heap l1 l2).get? (s.heap.push (itO t1 l1)).objs.size=some (itO t2 l2):=zah _ (zah _ (zah _ (zay _ rfl)))
 have g1:(zh5 t1 t2 s.heap l1 l2).get? s.heap.objs.size=some (itO t1 l1):=zah _ (zah _ (zah _ (zah _ (zay _ rfl))))
 show _/\_
 rw[n2,n3,n4] at g5; rw[n1,n2] at g3; rw[n3] at g4; rw[n1] at g2; rw[n4]
 exact⟨⟨_,g5,rfl⟩,h _ g5 g3 g4 ⟨_,g1,rfl,rfl⟩ ⟨_,g2,rfl,rfl⟩ fun c o x=>zah _ (zah _ (zah _ (zah _ (zah _ x))))⟩
end
noncomputable def SqB(K:zad)(t:Bool)(H:Hp)(a:Addr)(xs:List V):Prop:=if t=true then SqT K H a xs else SqL K H a xs
noncomputable def ItZ(K:zad)(t1 t2:Bool)(l1 l2:Addr):It:=
 ⟨fun i H => ∃ xs ys, SqB K t1 H l1 xs /\ SqB K t2 H l2 ys /\ i < xs.length /\ i < ys.length, fun i H x H' => ∃ p u v, x = .ref p /\ H p = none /\ H' = upd H p (.tup [u, v]) /\ ∀ xs ys, SqB K t1 H l1 xs -> SqB K t2 H l2 ys -> xs[i]? = some u /\ ys[i]? = some v,
  fun i H=>∃ xs ys,SqB K t1 H l1 xs/\SqB K t2 H l2 ys/\(xs.length<=i\/ys.length<=i)⟩
theorem qdS{X:Cx}{pins:List (Addr × Obj)}{σ:L2.St}{H:Hp}{s:Shared}{t:Bool}{a:Addr}{xs:List V}(I:Inv X pins σ H s)(h:SqB X.K t H a xs):∃ its:List Value,Vals xs its/\SSq t s.heap a its.toArray:=by
 cases t with
 | true=>
  obtain⟨its,r,p,_⟩:=I.tuple (show SqT X.K H a xs from h)
  exact⟨its,r,p⟩
 | false=>
  obtain⟨its,r,p,_⟩:=I.list (show SqL X.K H a xs from h)
  exact⟨its,r,PlainL.isList p⟩
theorem qjx{X:Cx}{pins:List (Addr × Obj)}{σ:L2.St}{H:Hp}{s:Shared}{t:Bool}{a:Addr}{xs ys:List V}(I:Inv X pins σ H s)(h:SqB X.K t H a xs)(h':SqB X.K t H a ys):xs=ys:=by
 cases t with
 | true=>exact I.tuple_inj (show SqT X.K H a xs from h) h'
 | false=>exact I.list_inj (show SqL X.K H a xs from h) h'
theorem qdV{X:Cx}{pins:List (Addr × Obj)}{σ:L2.St}{H:Hp}{s:Shared}{h':Heap}{t':Nat}{fp:List Addr}(I:Inv X pins σ H s)(hf:∀ b∈fp,FpOk X pins H b)(k:∀ b o,b ∉ fp->s.heap.get? b=some o->h'.get? b=some o):Inv X pins σ H { s with heap:=h',toks:=t' }:=by
 have nit:∀ b u,H b=some u->b ∉ fp:=fun b u e z=>by rw[(hf b z).1] at e; cases e
 refine I.call' (s':={ s with heap:=h',toks:=t' }) (ch:=fp) rfl ⟨fun b o e _ _ hx=>k b o hx e,fun b o e _ _ hx=>⟨o.slots,k b o hx e⟩,fun _ _ _ n _=>n,fun b o e hx=>⟨o,k b o hx e⟩,fun _ _ q=>q,fun _ _ _ q=>q,fun b ps q=>⟨#[],by rw[q]; simp⟩⟩ (fun b u e=>?_) I.bare fun b hb=>?_
 ·refine(I.hok b u e).stay (fun c v hc q=>k c v ?_ q) (fun _ q=>q) fun _ _ q=>q
  rcases hc with z | z
  ·rw[z]; exact nit b u e
  ·exact nit c _ z
 ·obtain⟨_,f1,_,f3,f4,f5⟩:=hf b hb
  exact⟨f3,f1,f4,f5⟩
theorem qj1{P:zai}{w:World}{K:zad}{elts:List Expr}{x1}{tp:Pos}(t1 t2:Bool){z TI TO i1 i2 l1 l2:Addr}(D:ZA z TI TO i1 i2 l1 l2) :
  Turn P w K (.Tuple elts x1 tp) (ItZ K t1 t2 l1 l2) [z,TI,TO,i1,i2] z (fun i h=>IsZip h z TI TO .none/\IsPair h TI (.ref i1) (.ref i2)/\(∃ a b,IsPair h TO a b)/\SIt t1 h i1 l1 i/\SIt t2 h i2 l2 i) where
 mem:=by simp
 obj:=by
  rintro i h ⟨hz,hTI,⟨a,b,hTO⟩,⟨o1,e1,_,d1⟩,⟨o2,e2,_,d2⟩⟩ c hc
  simp only[zbR,zbS,or_false] at hc
  rcases hc with rfl | rfl | rfl | rfl | rfl
  ·exact⟨_,hz,fun v q=>by cases q⟩
  ·exact⟨_,hTI,fun v q=>by cases q⟩
  ·exact⟨_,hTO,fun v q=>by cases q⟩
  ·exact⟨o1,e1,fun v q=>by rw[d1] at q; cases q⟩
  ·exact⟨o2,e2,fun v q=>by rw[d2] at q; cases q⟩
 keep:=fun i h h' ⟨hz,hTI,⟨a,b,hTO⟩,s1,s2⟩ k=>⟨k z (by simp) _ hz,k TI (by simp) _ hTI,⟨a,b,k TO (by simp) _ hTO⟩,s1.to fun o e=>k i1 (by simp) o e,s2.to fun o e=>k i2 (by simp) o e⟩
 item:=by
  intro X hP hw hK hc i pins s σ H E I hf st hg
  subst hP hw hK
  obtain⟨hz,hTI,⟨a,b,hTO⟩,s1,s2⟩:=st
  obtain⟨xs,ys,q1,q2,lt1,lt2⟩:=hg
  obtain⟨its1,r1,p1⟩:=qdS I q1
  obtain⟨its2,r2,p2⟩:=qdS I q2
  have e1:xs[i]?=some xs[i]:=by simp[lt1]
  have e2:ys[i]?=some ys[i]:=by simp[lt2]
  obtain⟨u,eu,ru⟩:=r1.get e1
  obtain⟨v,ev,rv⟩:=r2.get e2
  refine qjF D hz hTI hTO s1 s2 p1 p2 (x:=u) (y:=v) (by simpa using eu) (by simpa using ev) fun h' a1 a2 a3 a4 a5 a6 hk=>⟨_,rfl,?_⟩
  refine wpAny_letOwnedTupleGo_zip (s:={ s with heap:=h' }) a1 fun h2 hz2 sb=>?_
  have zz:∀ c,c∈[z,TI,TO,i1,i2]->c < s.heap.objs.size:=fun c hc=>by
   simp only[zbR,zbS,or_false] at hc
   rcases hc with rfl | rfl | rfl | rfl | rfl
   ·exact zag hz
   ·exact zag hTI
   ·exact zag hTO
   ·obtain⟨o,e,_⟩:=s1; exact zag e
   ·obtain⟨o,e,_⟩:=s2; exact zag e
  have up:∀ c o,c≠z->h'.get? c=some o->h2.get? c=some o:=fun c o hc e=>sb.extBut _ _ hc e
  have I1:Inv X pins σ H { s with heap:=h2,toks:=s.toks }:=qdV I hf fun c o hc e=>by
   simp only[zbR,zbS,or_false,not_or] at hc
   exact up c o hc.1 (hk c o hc.1 hc.2.2.1 hc.2.2.2.1 hc.2.2.2.2 e)
  have hnew:H s.heap.objs.size=none:=I.fresh
  have hT2:IsPair h2 s.heap.objs.size u v:=up _ _ (zaO (zz z (by simp))) a5
  have I2:Inv X pins σ (upd H s.heap.objs.size (.tup [xs[i],ys[i]])) { s with heap:=h2 }:=by
   have ok2:HOk X.prog X.w (upd H s.heap.objs.size (.tup [xs[i],ys[i]])) h2:=fun c ob e=>by
    by_cases hc:c=s.heap.objs.size
    ·subst hc; rw[qw] at e; cases e
     exact⟨by show 2<=zal; decide,[u,v],.cons ru (.cons rv .nil),_,hT2,rfl,0,rfl,rfl⟩
    ·rw[qt hc] at e
     exact(I1.hok c ob e).stay (fun _ _ _ q=>q) (fun d q=>by rw[qt (qQ q hnew)]; exact q) fun d ys' q=>by rw[qt (qQ q hnew)]; exact q
   refine I.call' (s':={ s with heap:=h2 }) (ch:=[z,TI,TO,i1,i2]) rfl ⟨fun c o e _ _ hx=>?_,fun c o e _ _ hx=>⟨o.slots,?_⟩,fun c o e n hx=>by rw[qt (zaA (zag e))]; exact n,fun c o e hx=>⟨o,?_⟩,fun c ys' q=>by rw[qt (qQ q hnew)]; exact q,fun c o' u' q=>by rw[qt (qQ q hnew)]; exact q,fun c ps q=>⟨#[],by rw[qt (qQ q hnew),q]; simp⟩⟩ ok2 I.bare fun b hb=>?_
   ·simp only[zbR,zbS,or_false,not_or] at hx
    exact up c o hx.1 (hk c o hx.1 hx.2.2.1 hx.2.2.2.1 hx.2.2.2.2 e)
   ·simp only[zbR,zbS,or_false,not_or] at hx
    exact up c o hx.1 (hk c o hx.1 hx.2.2.1 hx.2.2.2.1 hx.2.2.2.2 e)
   ·simp only[zbR,zbS,or_false,not_or] at hx
    exact up c o hx.1 (hk c o hx.1 hx.2.2.1 hx.2.2.2.1 hx.2.2.2.2 e)
   ·obtain⟨_,f1,_,f3,f4,f5⟩:=hf b hb
    exact⟨f3,f1,f4,f5⟩
  refine⟨.ref s.heap.objs.size,_,I2,rfl,⟨_,_,_,rfl,hnew,rfl,fun xs' ys' g1 g2=>by rw[<- qjx I q1 g1,<- qjx I q2 g2]; exact⟨e1,e2⟩⟩,⟨hz2,up _ _ D.z1 (hk _ _ D.z1 D.z5 D.z6 D.z7 hTI),⟨_,_,up _ _ D.z2 a2⟩,a3.to fun o e=>up _ o D.z3 e,a4.to fun o e=>up _ o D.z4 e⟩,fun c hc=>?_⟩
  rw[qt (zaA (zz c hc))]
  exact(hf c hc).1
 done:=by
  intro X hP hw hK hc i pins s σ H E I hf st hg
  subst hP hw hK
  obtain⟨hz,hTI,⟨a,b,hTO⟩,s1,s2⟩:=st
  obtain⟨xs,ys,q1,q2,hend⟩:=hg
  obtain⟨its1,r1,p1⟩:=qdS I q1
  obtain⟨its2,r2,p2⟩:=qdS I q2
  have n1:=r1.length
  have n2:=r2.length
  refine qj9 (I.ok.hd hc) D hz hTI hTO s1 s2 p1 p2 (hend.imp (fun h=>by simp; omega) fun h=>by simp; omega) fun h' hk=>⟨rfl,qdV (t':=s.toks) I hf fun c o hc e=>?_⟩
  simp only[zbR,zbS,or_false,not_or] at hc
  exact hk c o hc.1 hc.2.2.1 hc.2.2.2.1 hc.2.2.2.2 e
 self:=fun _ _ _ _ _ st h=>wpAny_pyIter_zip st.1 h
theorem qoI(n l1 l2:Nat)(h1:l1 < n)(h2:l2 < n):ZA (n + 4) (n + 2) (n + 3) n (n + 1) l1 l2:=⟨(show(n + 2:Nat)≠n + 4 by omega),(show(n + 3:Nat)≠n + 4 by omega),(show(n:Nat)≠n + 4 by omega),(show(n + 1:Nat)≠n + 4 by omega),(show(n + 2:Nat)≠n + 3 by omega),(show(n + 2:Nat)≠n by omega),(show(n + 2:Nat)≠n + 1 by omega),(show(n + 3:Nat)≠n by omega),(show(n + 3:Nat)≠n + 1 by omega),(show(n:Nat)≠n + 1 by omega),⟨(show(l1:Nat)≠n + 4 by omega),(show(l1:Nat)≠n + 3 by omega),(show(l1:Nat)≠n by omega),(show(l1:Nat)≠n + 1 by omega)⟩,⟨(show(l2:Nat)≠n + 4 by omega),(show(l2:Nat)≠n + 3 by omega),(show(l2:Nat)≠n by omega),(show(l2:Nat)≠n + 1 by omega)⟩⟩
noncomputable def iZip(K:zad)(ta:TA):TI:=fun σ H R=>ta σ H fun vs H1=>∃ t1 t2 l1 l2 xs ys,vs=[.ref l1,.ref l2]/\SqB K t1 H1 l1 xs/\SqB K t2 H1 l2 ys/\R (ItZ K t1 t2 l1 l2) H1
theorem qn2{X:Cx}{elts:List Expr}{x1}{tp:Pos}{a b:Expr}{ta:TA}{p pos:Pos}(hg:Gl X "zip")(hm:X.mg "zip" = none)(ha:PA X [a,b] ta)(hs:zap [a,b] X.env=[(false,eval a X.env),(false,eval b X.env)]:=by rfl)(hs2:zap [b] X.env=[(false,eval b X.env)]:=by rfl) :
  PI X (.Tuple elts x1 tp) (.Call (.Name "zip" p) [a,b] [] pos) (iZip X.K ta):=by
 intro pins s σ H R I h
 refine Call_ (qdp I hg hm My.boot_zip (zcr (thn (ha pos pins s σ H _ I h) fun us s1 ⟨vs,H1,I1,r1,q1⟩=>?_) (by rw[hs,hs2]) (by rw[hs2]; rfl)))
 obtain⟨t1,t2,l1,l2,xs,ys,rfl,q1,q2,q⟩:=q1
 obtain⟨u,v,rfl,ru,rv⟩:=vals2 r1
 cases ru
 cases rv
 obtain⟨its1,_,p1⟩:=qdS I1 q1
 obtain⟨its2,_,p2⟩:=qdS I1 q2
 have b1:l1 < s1.heap.objs.size:=by obtain⟨o,e,_⟩:=p1; exact zag e
 have b2:l2 < s1.heap.objs.size:=by obtain⟨o,e,_⟩:=p2; exact zag e
 refine qke p1 p2 fun h' hz hTI hTO s1' s2' k=>?_
 refine wpAny_pyIter_zip hz ?_
 have D:ZA (s1.heap.objs.size + 4) (s1.heap.objs.size + 2) (s1.heap.objs.size + 3) s1.heap.objs.size (s1.heap.objs.size + 1) l1 l2:=qoI _ _ _ b1 b2
 refine⟨_,[_,_,_,_,_],_,_,H1,rfl,I1.kept (t':=s1.toks) k,qj1 t1 t2 D,⟨hz,hTI,⟨_,_,hTO⟩,s1',s2'⟩,fun c hc=>I1.fpOk ?_ (I1.hok.fresh ?_),q⟩
 ·simp only[zbR,zbS,or_false] at hc
  rcases hc with rfl | rfl | rfl | rfl | rfl <;> omega
 ·simp only[zbR,zbS,or_false] at hc
  rcases hc with rfl | rfl | rfl | rfl | rfl <;> omega
end My
namespace P
open PySem PySem.Spec PyProof.Rows L2
inductive D where
 | non | bl (b:Bool) | int (i:Int) | str (x:Str) | tup (l:List D) | lst (l:List D)
 | dK (l:List (Key × D)) | dT (l:List (List Key × D))
noncomputable abbrev Av:=Addr->Prop
section
variable (A:Av)(H:Hp)
mutual
/-- a heap bears a value that stays (the things that may still be written are in A) -/
inductive Rep:D->V->Prop where
 | non:Rep .non .non
 | bl (b:Bool):Rep (.bl b) (.bl b)
 | int (i:Int):Rep (.int i) (.int i)
 | str (x:Str):Rep (.str x) (.str x)
 | tup {l:List D} {a:Addr} {xs:List V} (h:H a=some (.tup xs)) (r:RepL l xs):Rep (.tup l) (.ref a)
 | lst {l:List D} {a:Addr} {xs:List V} (n:¬ A a) (h:Rd H a (.lst xs)) (r:RepL l xs):Rep (.lst l) (.ref a)
 | dK {l:List (Key × D)} {a:Addr} {xs:List (Key × V)} (n:¬ A a) (h:Rd H a (.dK xs)) (e:xs.map (·.1)=l.map (·.1)) (r:RepL (l.map (·.2)) (xs.map (·.2))):Rep (.dK l) (.ref a)
 | dT {l:List (List Key × D)} {a:Addr} {xs:List (List Key × V)} (n:¬ A a) (h:Rd H a (.dT xs)) (e:xs.map (·.1)=l.map (·.1)) (r:RepL (l.map (·.2)) (xs.map (·.2))):Rep (.dT l) (.ref a)
inductive RepL:List D->List V->Prop where
 | nil:RepL [] []
 | cons {d:D} {v:V} {ds:List D} {vs:List V} (h:Rep d v) (t:RepL ds vs):RepL (d :: ds) (v :: vs)
end
inductive RepB:D->V->Prop where
 | of {d:D} {v:V} (h:Rep A H d v):RepB d v
 | lst {l:List D} {a:Addr} {xs:List V} (h:Rd H a (.lst xs)) (r:RepL A H l xs):RepB (.lst l) (.ref a)
 | dK {l:List (Key × D)} {a:Addr} {xs:List (Key × V)} (h:Rd H a (.dK xs)) (e:xs.map (·.1)=l.map (·.1)) (r:RepL A H (l.map (·.2)) (xs.map (·.2))):RepB (.dK l) (.ref a)
 | dT {l:List (List Key × D)} {a:Addr} {xs:List (List Key × V)} (h:Rd H a (.dT xs)) (e:xs.map (·.1)=l.map (·.1)) (r:RepL A H (l.map (·.2)) (xs.map (·.2))):RepB (.dT l) (.ref a)
inductive Own:D->Addr->Prop where
 | lst {l:List D} {a:Addr} {xs:List V} (h:H a=some (.lst xs)) (r:RepL A H l xs):Own (.lst l) a
 | dK {l:List (Key × D)} {a:Addr} {xs:List (Key × V)} (h:H a=some (.dK xs)) (e:xs.map (·.1)=l.map (·.1)) (r:RepL A H (l.map (·.2)) (xs.map (·.2))):Own (.dK l) a
 | dT {l:List (List Key × D)} {a:Addr} {xs:List (List Key × V)} (h:H a=some (.dT xs)) (e:xs.map (·.1)=l.map (·.1)) (r:RepL A H (l.map (·.2)) (xs.map (·.2))):Own (.dT l) a
end
noncomputable def Kp:HO->Prop
 | .tup _=>True | .lst _=>True | _=>False
structure Ext(A:Av)(H H':Hp):Prop where
 rd:∀ b u,Rd H b u->Rd H' b u
 kp:∀ b u,Kp u->H b=some u->H' b=some u
 ow:∀ b u,A b->H b=some u->H' b=some u
 fz:∀ b o u,H b=some (.frz o u)->H' b=some (.frz o u)
theorem Ext.refl(A:Av)(H:Hp):Ext A H H:=⟨fun _ _ h=>h,fun _ _ _ h=>h,fun _ _ _ h=>h,fun _ _ _ h=>h⟩
theorem Ext.trans{A:Av}{H H1 H2:Hp}(a:Ext A H H1)(b:Ext A H1 H2):Ext A H H2:=
 ⟨fun c u h=>b.rd c u (a.rd c u h),fun c u k h=>b.kp c u k (a.kp c u k h),fun c u n h=>b.ow c u n (a.ow c u n h),fun c o u h=>b.fz c o u (a.fz c o u h)⟩
theorem Ext.mono{A A':Av}{H H':Hp}(h:Ext A H H')(s:∀ a,A' a->A a):Ext A' H H':=⟨h.rd,h.kp,fun b u n e=>h.ow b u (s b n) e,h.fz⟩
theorem Ext.same{A:Av}{H H':Hp}(h:Same H H'):Ext A H H':=
 ⟨fun b u r=>by rcases r with r | ⟨o,r⟩; exact .inl (h _ _ r); exact .inr ⟨o,h _ _ r⟩,fun b u _ r=>h _ _ r,fun b u _ r=>h _ _ r,fun b o u r=>h _ _ r⟩
theorem Ext.tp{A:Av}{H H':Hp}(x:Ext A H H')(b:Addr)(xs:List V)(h:H b=some (.tup xs)):H' b=some (.tup xs):=x.kp b _ trivial h
theorem Ext.new{A:Av}{H:Hp}{p:Addr}{o:HO}(h:H p=none):Ext A H (upd H p o):=Ext.same (My.qg1 h)
mutual
theorem Rep.ext{A:Av}{H H':Hp}(x:Ext A H H'){d:D}{v:V}:Rep A H d v->Rep A H' d v
 | .non=>.non
 | .bl b=>.bl b
 | .int i=>.int i
 | .str s=>.str s
 | .tup h r=>.tup (x.tp _ _ h) (RepL.ext x r)
 | .lst n h r=>.lst n (x.rd _ _ h) (RepL.ext x r)
 | .dK n h e r=>.dK n (x.rd _ _ h) e (RepL.ext x r)
 | .dT n h e r=>.dT n (x.rd _ _ h) e (RepL.ext x r)
theorem RepL.ext{A:Av}{H H':Hp}(x:Ext A H H'){ds:List D}{vs:List V}:RepL A H ds vs->RepL A H' ds vs
 | .nil=>.nil
 | .cons h t=>.cons (Rep.ext x h) (RepL.ext x t)
end
theorem RepB.ext{A:Av}{H H':Hp}(x:Ext A H H'){d:D}{v:V}:RepB A H d v->RepB A H' d v
 | .of h=>.of (h.ext x)
 | .lst h r=>.lst (x.rd _ _ h) (r.ext x)
 | .dK h e r=>.dK (x.rd _ _ h) e (r.ext x)
 | .dT h e r=>.dT (x.rd _ _ h) e (r.ext x)
theorem Own.ext{A:Av}{H H':Hp}(x:Ext A H H'){d:D}{a:Addr}(ha:A a):Own A H d a->Own A H' d a
 | .lst h r=>.lst (x.ow _ _ ha h) (r.ext x)
 | .dK h e r=>.dK (x.ow _ _ ha h) e (r.ext x)
 | .dT h e r=>.dT (x.ow _ _ ha h) e (r.ext x)
theorem Own.b{A:Av}{H:Hp}{d:D}{a:Addr}:Own A H d a->RepB A H d (.ref a)
 | .lst h r=>.lst (.inl h) r
 | .dK h e r=>.dK (.inl h) e r
 | .dT h e r=>.dT (.inl h) e r
mutual
/-- avoid other things: those that were not there, or fewer -/
theorem Rep.av{A A':Av}{H:Hp}(x:∀ a,A' a->A a\/H a=none){d:D}{v:V}:Rep A H d v->Rep A' H d v
 | .non=>.non
 | .bl b=>.bl b
 | .int i=>.int i
 | .str s=>.str s
 | .tup h r=>.tup h (RepL.av x r)
 | .lst n h r=>.lst (fun z=>(x _ z).elim n fun z=>by rcases h with h | ⟨o,h⟩ <;> (rw[z] at h; cases h)) h (RepL.av x r)
 | .dK n h e r=>.dK (fun z=>(x _ z).elim n fun z=>by rcases h with h | ⟨o,h⟩ <;> (rw[z] at h; cases h)) h e (RepL.av x r)
 | .dT n h e r=>.dT (fun z=>(x _ z).elim n fun z=>by rcases h with h | ⟨o,h⟩ <;> (rw[z] at h; cases h)) h e (RepL.av x r)
theorem RepL.av{A A':Av}{H:Hp}(x:∀ a,A' a->A a\/H a=none){ds:List D}{vs:List V}:RepL A H ds vs->RepL A' H ds vs
 | .nil=>.nil
 | .cons h t=>.cons (Rep.av x h) (RepL.av x t)
end
noncomputable def Obs:HO->Prop
 | .lst _=>True | .dK _=>True | .dT _=>True | _=>False
theorem qbL{H:Hp}{a b:Addr}{o u:HO}(n:b≠a)(h:Rd H b u):Rd (upd H a o) b u:=by
 rcases h with h | ⟨x,h⟩
 ·exact .inl (by rw[qt n]; exact h)
 ·exact .inr ⟨x,by rw[qt n]; exact h⟩
mutual
theorem Rep.put{A:Av}{H:Hp}{a:Addr}{o u:HO}(ha:A a)(hu:H a=some u)(ob:Obs u){d:D}{v:V}:Rep A H d v->Rep A (upd H a o) d v
 | .non=>.non
 | .bl b=>.bl b
 | .int i=>.int i
 | .str s=>.str s
 | .tup (a:=b) h r=>.tup (by rw[qt (fun z=>by subst z; rw[hu] at h; cases h; exact ob)]; exact h) (RepL.put ha hu ob r)
 | .lst (a:=b) n h r=>.lst n (qbL (fun z=>n (by rw[z]; exact ha)) h) (RepL.put ha hu ob r)
 | .dK (a:=b) n h e r=>.dK n (qbL (fun z=>n (by rw[z]; exact ha)) h) e (RepL.put ha hu ob r)
 | .dT (a:=b) n h e r=>.dT n (qbL (fun z=>n (by rw[z]; exact ha)) h) e (RepL.put ha hu ob r)
theorem RepL.put{A:Av}{H:Hp}{a:Addr}{o u:HO}(ha:A a)(hu:H a=some u)(ob:Obs u){ds:List D}{vs:List V}:RepL A H ds vs->RepL A (upd H a o) ds vs
 | .nil=>.nil
 | .cons h t=>.cons (Rep.put ha hu ob h) (RepL.put ha hu ob t)
end
theorem Own.put{A:Av}{H:Hp}{a b:Addr}{o u:HO}(ha:A a)(hu:H a=some u)(ob:Obs u)(hb:b≠a){d:D}:Own A H d b->Own A (upd H a o) d b
 | .lst h r=>.lst (by rw[qt hb]; exact h) (r.put ha hu ob)
 | .dK h e r=>.dK (by rw[qt hb]; exact h) e (r.put ha hu ob)
 | .dT h e r=>.dT (by rw[qt hb]; exact h) e (r.put ha hu ob)
theorem Own.av{A A':Av}{H:Hp}(x:∀ a,A' a->A a\/H a=none){d:D}{a:Addr}:Own A H d a->Own A' H d a
 | .lst h r=>.lst h (r.av x)
 | .dK h e r=>.dK h e (r.av x)
 | .dT h e r=>.dT h e (r.av x)
theorem Own.rep{A:Av}{H:Hp}{d:D}{a:Addr}(n:¬ A a):Own A H d a->Rep A H d (.ref a)
 | .lst h r=>.lst n (.inl h) r
 | .dK h e r=>.dK n (.inl h) e r
 | .dT h e r=>.dT n (.inl h) e r
section
variable {A:Av}{H:Hp}
theorem RepL.length:∀ {ds:List D} {vs:List V},RepL A H ds vs->vs.length=ds.length
 | _,_,.nil=>rfl
 | _,_,.cons _ t=>by rw[zaW,zaW,RepL.length t]
theorem RepL.get:∀ {ds:List D} {vs:List V} {i:Nat} {v:V},RepL A H ds vs->vs[i]?=some v->∃ d,ds[i]?=some d/\Rep A H d v
 | _,_,i,v,.nil,e=>by simp at e
 | _,_,0,v,.cons h t,e=>by simp at e; subst e; exact⟨_,rfl,h⟩
 | _,_,i + 1,v,.cons h t,e=>RepL.get (i:=i) t (by simpa using e)
theorem RepL.get':∀ {ds:List D} {vs:List V} {i:Nat} {d:D},RepL A H ds vs->ds[i]?=some d->∃ v,vs[i]?=some v/\Rep A H d v
 | _,_,i,v,.nil,e=>by simp at e
 | _,_,0,v,.cons h t,e=>by simp at e; subst e; exact⟨_,rfl,h⟩
 | _,_,i + 1,v,.cons h t,e=>RepL.get' (i:=i) t (by simpa using e)
theorem RepL.append:∀ {ds es:List D} {vs us:List V},RepL A H ds vs->RepL A H es us->RepL A H (ds ++ es) (vs ++ us)
 | _,_,_,_,.nil,s=>s
 | _,_,_,_,.cons h t,s=>.cons h (RepL.append t s)
theorem RepL.take:∀ {ds:List D} {vs:List V} (n:Nat),RepL A H ds vs->RepL A H (ds.take n) (vs.take n)
 | _,_,0,_=>by simp; exact .nil
 | _,_,n + 1,.nil=>.nil
 | _,_,n + 1,.cons h t=>.cons h (RepL.take n t)
theorem RepL.drop:∀ {ds:List D} {vs:List V} (n:Nat),RepL A H ds vs->RepL A H (ds.drop n) (vs.drop n)
 | _,_,0,r=>r
 | _,_,n + 1,.nil=>.nil
 | _,_,n + 1,.cons h t=>RepL.drop n t
theorem RepL.set:∀ {ds:List D} {vs:List V} {d:D} {v:V} (n:Nat),Rep A H d v->RepL A H ds vs->RepL A H (ds.set n d) (vs.set n v)
 | _,_,_,_,_,_,.nil=>.nil
 | _,_,_,_,0,r,.cons h t=>.cons r t
 | _,_,_,_,n + 1,r,.cons h t=>.cons h (RepL.set n r t)
theorem Rep.b{d:D}{v:V}(h:Rep A H d v):RepB A H d v:=.of h
theorem RepB.int_inv{i:Int}{v:V}(h:RepB A H (.int i) v):v=.int i:=by cases h with | of h=>cases h; rfl
theorem RepB.bl_inv{i:Bool}{v:V}(h:RepB A H (.bl i) v):v=.bl i:=by cases h with | of h=>cases h; rfl
theorem RepB.str_inv{i:Str}{v:V}(h:RepB A H (.str i) v):v=.str i:=by cases h with | of h=>cases h; rfl
theorem RepB.non_inv{v:V}(h:RepB A H .non v):v=.non:=by cases h with | of h=>cases h; rfl
theorem RepB.tup_inv{l:List D}{v:V}(h:RepB A H (.tup l) v):∃ a xs,v=.ref a/\H a=some (.tup xs)/\RepL A H l xs:=by
 cases h with | of h=>cases h with | tup h r=>exact⟨_,_,rfl,h,r⟩
theorem RepB.lst_inv{l:List D}{v:V}(h:RepB A H (.lst l) v):∃ a xs,v=.ref a/\Rd H a (.lst xs)/\RepL A H l xs:=by
 cases h with
 | of h=>cases h with | lst n h r=>exact⟨_,_,rfl,h,r⟩
 | lst h r=>exact⟨_,_,rfl,h,r⟩
theorem RepB.dK_inv{l:List (Key × D)}{v:V}(h:RepB A H (.dK l) v):∃ a xs,v=.ref a/\Rd H a (.dK xs)/\xs.map (·.1)=l.map (·.1)/\RepL A H (l.map (·.2)) (xs.map (·.2)):=by
 cases h with
 | of h=>cases h with | dK n h e r=>exact⟨_,_,rfl,h,e,r⟩
 | dK h e r=>exact⟨_,_,rfl,h,e,r⟩
theorem RepB.dT_inv{l:List (List Key × D)}{v:V}(h:RepB A H (.dT l) v):∃ a xs,v=.ref a/\Rd H a (.dT xs)/\xs.map (·.1)=l.map (·.1)/\RepL A H (l.map (·.2)) (xs.map (·.2)):=by
 cases h with
 | of h=>cases h with | dT n h e r=>exact⟨_,_,rfl,h,e,r⟩
 | dT h e r=>exact⟨_,_,rfl,h,e,r⟩
end
noncomputable abbrev Rho:=List (Option D)
inductive Fact where
 | rep (d:D) (v:V) | fz (a:Addr) (o:Obj) (u:HO)
noncomputable def Fact.Holds(A:Av)(H:Hp):Fact->Prop
 | .rep d v=>Rep A H d v
 | .fz a o u=>H a=some (.frz o u)
theorem Fact.ext{A:Av}{H H':Hp}(x:Ext A H H'):∀ {p:Fact},p.Holds A H->p.Holds A H'
 | .rep _ _,h=>Rep.ext x h
 | .fz _ _ _,h=>x.fz _ _ _ h
theorem Fact.av{A A':Av}{H:Hp}(x:∀ a,A' a->A a\/H a=none):∀ {p:Fact},p.Holds A H->p.Holds A' H
 | .rep _ _,h=>Rep.av x h
 | .fz _ _ _,h=>h
theorem Fact.put{A:Av}{H:Hp}{a:Addr}{o u:HO}(ha:A a)(hu:H a=some u)(ob:Obs u):∀ {p:Fact},p.Holds A H->p.Holds A (upd H a o)
 | .rep _ _,h=>Rep.put ha hu ob h
 | .fz b q w,h=>by
  have h:H b=some (.frz q w):=h
  show upd H a o b=some (.frz q w)
  rw[qt (fun z=>by subst z; rw[hu] at h; cases h; exact ob)]
  exact h
structure ST(H0:Hp)(A0 A:Av)(E:List Fact)(O:List Nat)(σ:L2.St)(H:Hp)(ρ:Rho):Prop where
 ex:Ext A0 H0 H
 sub:∀ a,A0 a->A a
 l0:∀ a,A0 a->H0 a≠none
 live:∀ a,A a->H a≠none
 len:σ.length=ρ.length
 val:∀ i d,ρ[i]?=some (some d)->i ∉ O->∃ v,σ[i]?=some (some v)/\Rep A H d v
 own:∀ i d,ρ[i]?=some (some d)->i∈O->∃ a,σ[i]?=some (some (.ref a))/\A a/\H0 a=none/\Own A H d a
 inj:∀ i j d d' a,i∈O->j∈O->ρ[i]?=some (some d)->ρ[j]?=some (some d')->σ[i]?=some (some (.ref a))->σ[j]?=some (some (.ref a))->i=j
 ext:∀ p∈E,p.Holds A H
section
variable {H0:Hp}{A0 A:Av}{E:List Fact}{O:List Nat}{σ:L2.St}{H H':Hp}{ρ:Rho}
theorem ST.mono(s:ST H0 A0 A E O σ H ρ)(x:Ext A H H'):ST H0 A0 A E O σ H' ρ where
 ex:=s.ex.trans (x.mono s.sub)
 sub:=s.sub
 l0:=s.l0
 live:=fun a ha=>by
  have:=s.live a ha
  cases e:H a with
  | none=>exact absurd e this
  | some u=>rw[x.ow a u ha e]; exact fun z=>nomatch z
 len:=s.len
 val:=fun i d h n=>by obtain⟨v,h1,h2⟩:=s.val i d h n; exact⟨v,h1,h2.ext x⟩
 own:=fun i d h n=>by obtain⟨a,h1,h2,h3,h4⟩:=s.own i d h n; exact⟨a,h1,h2,h3,h4.ext x h2⟩
 inj:=s.inj
 ext:=fun p hp=>Fact.ext x (s.ext p hp)
theorem ST.more(s:ST H0 A0 A E O σ H ρ){d:D}{v:V}(h:Rep A H d v):ST H0 A0 A (.rep d v :: E) O σ H ρ:=
 { s with ext:=fun p hp=>by rcases List.mem_cons.mp hp with e | e; rw[e]; exact h; exact s.ext p e }
theorem ST.less{E':List Fact}(s:ST H0 A0 A E O σ H ρ)(h:∀ p∈E',p∈E):ST H0 A0 A E' O σ H ρ:=
 { s with ext:=fun p hp=>s.ext p (h p hp) }
theorem qa8{ρ:Rho}{i j:Nat}{o:Option D}{d:D}(h:(ρ.set i o)[j]?=some (some d)):(j=i/\o=some d/\i < ρ.length)\/(j≠i/\ρ[j]?=some (some d)):=by
 rw[List.getElem?_set] at h
 by_cases e:i=j
 ·rw[if_pos e] at h
  by_cases l:i < ρ.length
  ·rw[if_pos l] at h
   exact .inl ⟨e.symm,zaF h,l⟩
  ·rw[if_neg l] at h; cases h
 ·rw[if_neg e] at h
  exact .inr ⟨fun z=>e z.symm,h⟩
theorem sig_set{σ:L2.St}{i:Nat}{v:V}(h:i < σ.length):(σ.set i (some v))[i]?=some (some v):=by simp[h]
theorem qc1{σ:L2.St}{i j:Nat}{v:V}(h:j≠i):(σ.set i (some v))[j]?=σ[j]?:=by rw[List.getElem?_set_ne (zaK h)]
theorem ST.put(s:ST H0 A0 A E O σ H ρ){i:Nat}{d:D}{v:V}(h:Rep A H d v)(n:i ∉ O):ST H0 A0 A E O (σ.set i (some v)) H (ρ.set i (some d)) where
 ex:=s.ex
 sub:=s.sub
 l0:=s.l0
 live:=s.live
 len:=by simp[s.len]
 val:=fun j d' h' n'=>by
  rcases qa8 h' with⟨e,e2,l⟩ | ⟨e,e2⟩
  ·subst e; cases e2; exact⟨v,sig_set (by rw[s.len]; exact l),h⟩
  ·obtain⟨w,h1,h2⟩:=s.val j d' e2 n'; exact⟨w,by rw[qc1 e]; exact h1,h2⟩
 own:=fun j d' h' n'=>by
  rcases qa8 h' with⟨e,e2,l⟩ | ⟨e,e2⟩
  ·subst e; exact absurd n' n
  ·obtain⟨w,h1,h2⟩:=s.own j d' e2 n'; exact⟨w,by rw[qc1 e]; exact h1,h2⟩
 inj:=fun j k d1 d2 a hj hk h1 h2 h3 h4=>by
  have nj:j≠i:=fun z=>n (z ▸ hj)
  have nk:k≠i:=fun z=>n (z ▸ hk)
  rcases qa8 h1 with⟨e,_⟩ | ⟨_,h1⟩
  ·exact absurd e nj
  rcases qa8 h2 with⟨e,_⟩ | ⟨_,h2⟩
  ·exact absurd e nk
  exact s.inj j k d1 d2 a hj hk h1 h2 (by rw[qc1 nj] at h3; exact h3) (by rw[qc1 nk] at h4; exact h4)
 ext:=s.ext
theorem ST.shut(s:ST H0 A0 A E O σ H ρ){O':List Nat}(h:∀ i,i∈O'->i∈O):∃ A',ST H0 A0 A' E O' σ H ρ:=by
 let F:Av:=fun a=>∃ i d,i∈O/\i ∉ O'/\ρ[i]?=some (some d)/\σ[i]?=some (some (.ref a))
 have cut:∀ a,(A a/\¬ F a)->A a\/H a=none:=fun a z=>.inl z.1
 refine⟨fun a=>A a/\¬ F a,s.ex,fun a ha=>⟨s.sub a ha,?_⟩,s.l0,fun a ha=>s.live a ha.1,s.len,fun i d hi n=>?_,fun i d hi n=>?_,fun i j d d' a hi hj=>s.inj i j d d' a (h i hi) (h j hj),fun p hp=>Fact.av cut (s.ext p hp)⟩
 ·rintro⟨i,d,h1,h2,h3,h4⟩
  obtain⟨b,e1,e2,e3,e4⟩:=s.own i d h3 h1
  rw[h4] at e1
  cases e1
  exact s.l0 a ha e3
 ·by_cases hO:i∈O
  ·obtain⟨a,e1,e2,e3,e4⟩:=s.own i d hi hO
   exact⟨.ref a,e1,(e4.av cut).rep fun z=>z.2 ⟨i,d,hO,n,hi,e1⟩⟩
  ·obtain⟨v,e1,e2⟩:=s.val i d hi hO
   exact⟨v,e1,e2.av cut⟩
 ·obtain⟨a,e1,e2,e3,e4⟩:=s.own i d hi (h i n)
  refine⟨a,e1,⟨e2,?_⟩,e3,e4.av cut⟩
  rintro⟨j,d',h1,h2,h3,h4⟩
  have:=s.inj i j d d' a (h i n) h1 hi h3 e1 h4
  subst this
  exact h2 n
end
noncomputable abbrev Ev:=Rho->Option D
noncomputable abbrev Bv:=Rho->Option Bool
noncomputable abbrev Lv:=Rho->Option (List D)
noncomputable abbrev RR:=Av->Hp->D->V->Prop
inductive tD(R:RR)(O:List Nat)(f:Ev)(σ:L2.St)(H:Hp)(Q:VK):Prop
 | mk (H0:Hp) (A0 A:Av) (E:List Fact) (ρ:Rho) (d:D) (st:ST H0 A0 A E O σ H ρ) (e:f ρ=some d) (q:∀ v H',Ext A H H'->R A H' d v->Q v H'):tD R O f σ H Q
inductive tDT(O:List Nat)(g:Bv)(σ:L2.St)(H:Hp)(Q:Bool->Hp->Prop):Prop
 | mk (H0:Hp) (A0 A:Av) (E:List Fact) (ρ:Rho) (b:Bool) (st:ST H0 A0 A E O σ H ρ) (e:g ρ=some b) (q:∀ H',Ext A H H'->Q b H'):tDT O g σ H Q
noncomputable def PD(X:Cx)(O:List Nat)(e:Expr)(f:Ev):Prop:=PE X e (tD Rep O f)
noncomputable def PB(X:Cx)(O:List Nat)(e:Expr)(f:Ev):Prop:=PE X e (tD RepB O f)
noncomputable def PDT(X:Cx)(O:List Nat)(e:Expr)(g:Bv):Prop:=PT X e (tDT O g)
noncomputable def PDW(X:Cx)(O:List Nat)(e:Expr)(g:Bv):Prop:=PW X e (tDT O g)
theorem PDW.pt{X:Cx}{O:List Nat}{e:Expr}{g:Bv}(h:PDW X O e g):PDT X O e g:=PW.pt h
inductive RL(R:RR)(A:Av)(H:Hp):List D->List V->Prop where
 | nil:RL R A H [] []
 | cons {d v ds vs} (h:R A H d v) (t:RL R A H ds vs):RL R A H (d :: ds) (v :: vs)
inductive tDA(R:RR)(O:List Nat)(f:Lv)(σ:L2.St)(H:Hp)(Q:List V->Hp->Prop):Prop
 | mk (H0:Hp) (A0 A:Av) (E:List Fact) (ρ:Rho) (ds:List D) (st:ST H0 A0 A E O σ H ρ) (e:f ρ=some ds) (q:∀ vs H',Ext A H H'->RL R A H' ds vs->Q vs H'):tDA R O f σ H Q
noncomputable def PDA(X:Cx)(O:List Nat)(es:List Expr)(f:Lv):Prop:=PA X es (tDA Rep O f)
noncomputable def PBA(X:Cx)(O:List Nat)(es:List Expr)(f:Lv):Prop:=PA X es (tDA RepB O f)
section
variable {X:Cx}{O:List Nat}
theorem PE.mono{e:Expr}{t t':TE}(h:PE X e t)(x:∀ σ H Q,t' σ H Q->t σ H Q):PE X e t':=fun pins s σ H Q I w=>h pins s σ H Q I (x σ H Q w)
theorem PT.mono{e:Expr}{t t':TT}(h:PT X e t)(x:∀ σ H Q,t' σ H Q->t σ H Q):PT X e t':=fun pins s σ H Q I w=>h pins s σ H Q I (x σ H Q w)
theorem PW.mono{e:Expr}{t t':TT}(h:PW X e t)(x:∀ σ H Q,t' σ H Q->t σ H Q):PW X e t':=fun wh pins s σ H Q I w=>h wh pins s σ H Q I (x σ H Q w)
theorem PA.mono{es:List Expr}{t t':TA}(h:PA X es t)(x:∀ σ H Q,t' σ H Q->t σ H Q):PA X es t':=fun pos pins s σ H Q I w=>h pos pins s σ H Q I (x σ H Q w)
theorem PD.b{e:Expr}{f:Ev}(h:PD X O e f):PB X O e f:=PE.mono h fun σ H Q ⟨H0,A0,A,E,ρ,d,st,e,q⟩=>⟨H0,A0,A,E,ρ,d,st,e,fun v H' x r=>q v H' x (.of r)⟩
theorem RL.toL{A:Av}{H:Hp}:∀ {ds:List D} {vs:List V},RL Rep A H ds vs->RepL A H ds vs
 | _,_,.nil=>.nil
 | _,_,.cons h t=>.cons h (RL.toL t)
noncomputable def eVar(i:Nat):Ev:=fun ρ=>(ρ[i]?).join
noncomputable def eC(d:D):Ev:=fun _=>some d
theorem qaB{ρ:Rho}{i:Nat}{d:D}(h:(ρ[i]?).join=some d):ρ[i]?=some (some d):=by
 cases e:ρ[i]? with
 | none=>rw[e] at h; cases h
 | some o=>rw[e] at h; cases o with
  | none=>cases h
  | some x=>cases h; rfl
theorem qe{e:Expr}(i:Nat)(h:PE X e (tVar i))(n:i ∉ O):PD X O e (eVar i):=PE.mono h <| by
 rintro σ H Q ⟨H0,A0,A,E,ρ,d,st,e,q⟩
 obtain⟨v,e1,r⟩:=st.val i d (qaB e) n
 exact⟨v,e1,q v H (Ext.refl _ _) r⟩
theorem qd{e:Expr}(i:Nat)(h:PE X e (tVar i)):PB X O e (eVar i):=PE.mono h <| by
 rintro σ H Q ⟨H0,A0,A,E,ρ,d,st,e,q⟩
 by_cases n:i∈O
 ·obtain⟨a,e1,_,_,r⟩:=st.own i d (qaB e) n
  exact⟨_,e1,q _ H (Ext.refl _ _) r.b⟩
 ·obtain⟨v,e1,r⟩:=st.val i d (qaB e) n
  exact⟨v,e1,q v H (Ext.refl _ _) (.of r)⟩
theorem ql{i j pos}:PD X O (.Constant (.int i) j pos) (eC (.int i)):=PE.mono qou fun σ H Q ⟨H0,A0,A,E,ρ,d,st,e,q⟩=>by cases e; exact q _ H (Ext.refl _ _) (.int _)
theorem qcI{i j pos}:PD X O (.Constant (.bool i) j pos) (eC (.bl i)):=PE.mono qoN fun σ H Q ⟨H0,A0,A,E,ρ,d,st,e,q⟩=>by cases e; exact q _ H (Ext.refl _ _) (.bl _)
theorem qlk{j pos}:PD X O (.Constant .none j pos) (eC .non):=PE.mono qnD fun σ H Q ⟨H0,A0,A,E,ρ,d,st,e,q⟩=>by cases e; exact q _ H (Ext.refl _ _) .non
noncomputable def Live(A:Av)(H:Hp):Prop:=∀ a,A a->H a≠none
theorem Live.ext{A:Av}{H H':Hp}(l:Live A H)(x:Ext A H H'):Live A H':=fun a ha=>by
 cases e:H a with
 | none=>exact absurd e (l a ha)
 | some u=>rw[x.ow a u ha e]; exact fun z=>nomatch z
inductive rD(g:D->D->Option D)(x y:V)(H:Hp)(Q:VK):Prop
 | mk (A:Av) (dx dy d:D) (lv:Live A H) (rx:RepB A H dx x) (ry:RepB A H dy y) (e:g dx dy=some d) (q:∀ v H',Ext A H H'->Rep A H' d v->Q v H'):rD g x y H Q
noncomputable def OpX(X:Cx)(f:Value->Value->Sem Value)(g:D->D->Option D):Prop:=OpR X f (rD g)
theorem OpR.mono{f:Value->Value->Sem Value}{r r':R2}(h:OpR X f r)(x:∀ a b H Q,r' a b H Q->r a b H Q):OpR X f r':=fun pins s σ H a b v u Q I rv ru w=>h pins s σ H a b v u Q I rv ru (x a b H Q w)
noncomputable def eOp(g:D->D->Option D)(fa fb:Ev):Ev:=fun ρ=>(fa ρ).bind fun x=>(fb ρ).bind fun y=>g x y
theorem bind_some{α β:Type}{o:Option α}{f:α->Option β}{b:β}(h:o.bind f=some b):∃ a,o=some a/\f a=some b:=by
 cases o with
 | none=>cases h
 | some a=>exact⟨a,rfl,h⟩
theorem qgL{g:D->D->Option D}{fa fb:Ev}{σ:L2.St}{H:Hp}{Q:VK}(h:tD Rep O (eOp g fa fb) σ H Q):tOp (rD g) (tD RepB O fa) (tD RepB O fb) σ H Q:=by
 obtain⟨H0,A0,A,E,ρ,d,st,e,q⟩:=h
 obtain⟨x,ex,e⟩:=bind_some e
 obtain⟨y,ey,e⟩:=bind_some e
 exact⟨H0,A0,A,E,ρ,x,st,ex,fun v H1 x1 r1=>⟨H0,A0,A,E,ρ,y,st.mono x1,ey,fun w H2 x2 r2=>⟨A,x,y,d,(st.mono (x1.trans x2)).live,r1.ext x2,r2,e,fun z H3 x3 r3=>q z H3 ((x1.trans x2).trans x3) r3⟩⟩⟩
theorem qL{a b:Expr}{op:Operator}{pos:Pos}{g:D->D->Option D}{fa fb:Ev}(ho:OpX X (zaQ op) g)(ha:PB X O a fa)(hb:PB X O b fb):PD X O (.BinOp a op b pos) (eOp g fa fb):=
 PE.mono (qoz ho ha hb) fun σ H Q h=>qgL h
theorem qk0{a b:Expr}{op:CmpOp}{pos:Pos}{g:D->D->Option D}{fa fb:Ev}(ho:OpX X (zaL op) g)(ha:PB X O a fa)(hb:PB X O b fb)(hm:behindInMarks op b=false):PD X O (.Compare a [op] [b] pos) (eOp g fa fb):=
 PE.mono (qmy ho ha hb hm) fun σ H Q h=>qgL h
noncomputable def asB:D->Option Bool
 | .bl b=>some b
 | _=>none
theorem qed{d:D}{b:Bool}(h:asB d=some b):d=.bl b:=by
 cases d <;> cases h; rfl
noncomputable def bOf(f:Ev):Bv:=fun ρ=>(f ρ).bind asB
theorem qha{f:Ev}{σ:L2.St}{H:Hp}{Q:Bool->Hp->Prop}(h:tDT O (bOf f) σ H Q):tD Rep O f σ H fun x H'=>∃ k,x=.bl k/\Q k H':=by
 obtain⟨H0,A0,A,E,ρ,b,st,e,q⟩:=h
 obtain⟨x,ex,e⟩:=bind_some e
 rw[qed e] at ex
 exact⟨H0,A0,A,E,ρ,_,st,ex,fun v H1 x1 r1=>⟨b,RepB.bl_inv (.of r1),q H1 x1⟩⟩
theorem qag{a b:Expr}{op:CmpOp}{pos:Pos}{g:D->D->Option D}{fa fb:Ev}(ho:OpX X (zaL op) g)(ha:PB X O a fa)(hb:PB X O b fb)(hm:behindInMarks op b=false):PDT X O (.Compare a [op] [b] pos) (bOf (eOp g fa fb)):=
 PT.mono (qlF ho ha hb hm) fun σ H Q h=>qgL (qha h)
theorem qb5{e:Expr}{f:Ev}(h:PD X O e f)(he:∀ whole,isTrue e X.env whole=(do let v <- whole; standAt e.pos; holding [v] (truthy v)):=by intro _; rfl):PDT X O e (bOf f):=
 PT.mono (qoh h he) fun σ H Q h=>qha h
noncomputable def bNot(g:Bv):Bv:=fun ρ=>(g ρ).map (!·)
noncomputable def bAnd(g h:Bv):Bv:=fun ρ=>(g ρ).bind fun b=>if b=true then h ρ else some false
noncomputable def bOr(g h:Bv):Bv:=fun ρ=>(g ρ).bind fun b=>if b=true then some true else h ρ
theorem qby{a:Expr}{pos:Pos}{g:Bv}(h:PDT X O a g):PDT X O (.UnaryOp .Not a pos) (bNot g):=PT.mono (qny h) <| by
 rintro σ H Q ⟨H0,A0,A,E,ρ,b,st,e,q⟩
 unfold bNot at e
 cases z:g ρ with
 | none=>rw[z] at e; cases e
 | some c=>rw[z] at e; cases e; exact⟨H0,A0,A,E,ρ,c,st,z,q⟩
theorem qjN{a:Expr}{pos:Pos}{g:Bv}(h:PDT X O a g):PDW X O (.BoolOp .And [a] pos) g:=ql7 h
theorem qdn{a:Expr}{pos:Pos}{g:Bv}(h:PDT X O a g):PDW X O (.BoolOp .Or [a] pos) g:=qnu h
theorem qlx{a b:Expr}{rest:List Expr}{pos:Pos}{g k:Bv}(ha:PDT X O a g)(hb:PDW X O (.BoolOp .And (b :: rest) pos) k):PDW X O (.BoolOp .And (a :: b :: rest) pos) (bAnd g k):=
 PW.mono (qob ha hb) <| by
  rintro σ H Q ⟨H0,A0,A,E,ρ,b,st,e,q⟩
  obtain⟨x,ex,e⟩:=bind_some e
  refine⟨H0,A0,A,E,ρ,x,st,ex,fun H1 x1=>?_⟩
  cases x with
  | false=>rw[if_neg zax] at e ⊢; cases e; exact q H1 x1
  | true=>rw[if_pos rfl] at e ⊢; exact⟨H0,A0,A,E,ρ,b,st.mono x1,e,fun H2 x2=>q H2 (x1.trans x2)⟩
theorem qdu{a b:Expr}{rest:List Expr}{pos:Pos}{g k:Bv}(ha:PDT X O a g)(hb:PDW X O (.BoolOp .Or (b :: rest) pos) k):PDW X O (.BoolOp .Or (a :: b :: rest) pos) (bOr g k):=
 PW.mono (qoK ha hb) <| by
  rintro σ H Q ⟨H0,A0,A,E,ρ,b,st,e,q⟩
  obtain⟨x,ex,e⟩:=bind_some e
  refine⟨H0,A0,A,E,ρ,x,st,ex,fun H1 x1=>?_⟩
  cases x with
  | true=>rw[if_pos rfl] at e ⊢; cases e; exact q H1 x1
  | false=>rw[if_neg zax] at e ⊢; exact⟨H0,A0,A,E,ρ,b,st.mono x1,e,fun H2 x2=>q H2 (x1.trans x2)⟩
noncomputable def eAnd(f g:Ev):Ev:=fun ρ=>(f ρ).bind fun x=>(asB x).bind fun b=>if b=true then g ρ else some (.bl false)
noncomputable def eNot(f:Ev):Ev:=fun ρ=>(f ρ).bind fun x=>(asB x).map fun b=>.bl (!b)
theorem qlj{op}{a:Expr}{pos:Pos}{f:Ev}(h:PD X O a f):PD X O (.BoolOp op [a] pos) f:=qm3 h
theorem qkV{a b:Expr}{rest:List Expr}{pos:Pos}{f g:Ev}(ha:PD X O a f)(hb:PD X O (.BoolOp .And (b :: rest) pos) g):PD X O (.BoolOp .And (a :: b :: rest) pos) (eAnd f g):=
 PE.mono (qoa ha hb) <| by
  rintro σ H Q ⟨H0,A0,A,E,ρ,d,st,e,q⟩
  obtain⟨x,ex,e⟩:=bind_some e
  obtain⟨b,eb,e⟩:=bind_some e
  rw[qed eb] at ex
  refine⟨H0,A0,A,E,ρ,_,st,ex,fun v H1 x1 r1=>⟨b,RepB.bl_inv (.of r1),?_⟩⟩
  cases b with
  | false=>rw[if_neg zax] at e ⊢; cases e; exact q _ H1 x1 (.bl _)
  | true=>rw[if_pos rfl] at e ⊢; exact⟨H0,A0,A,E,ρ,d,st.mono x1,e,fun w H2 x2=>q w H2 (x1.trans x2)⟩
theorem qnc{a:Expr}{pos:Pos}{f:Ev}(ha:PD X O a f):PD X O (.UnaryOp .Not a pos) (eNot f):=
 PE.mono (qop ha) <| by
  rintro σ H Q ⟨H0,A0,A,E,ρ,d,st,e,q⟩
  obtain⟨x,ex,e⟩:=bind_some e
  cases z:asB x with
  | none=>rw[z] at e; cases e
  | some b=>
   rw[z] at e; cases e
   rw[qed z] at ex
   exact⟨H0,A0,A,E,ρ,_,st,ex,fun v H1 x1 r1=>⟨b,RepB.bl_inv (.of r1),q _ H1 x1 (.bl _)⟩⟩
end
section
variable {X:Cx}{O:List Nat}
noncomputable def lNil:Lv:=fun _=>some []
noncomputable def qb(f:Ev)(g:Lv):Lv:=fun ρ=>(f ρ).bind fun x=>(g ρ).bind fun xs=>some (x :: xs)
theorem qj:PDA X O [] lNil:=PA.mono qdh fun σ H Q ⟨H0,A0,A,E,ρ,d,st,e,q⟩=>by cases e; exact q [] H (Ext.refl _ _) .nil
theorem qaa:PBA X O [] lNil:=PA.mono qdh fun σ H Q ⟨H0,A0,A,E,ρ,d,st,e,q⟩=>by cases e; exact q [] H (Ext.refl _ _) .nil
theorem qgV{R:RR}(hR:∀ A H H' d v,Ext A H H'->R A H d v->R A H' d v){f:Ev}{g:Lv}{σ:L2.St}{H:Hp}{Q:List V->Hp->Prop}(h:tDA R O (qb f g) σ H Q):qki (tD R O f) (tDA R O g) σ H Q:=by
 obtain⟨H0,A0,A,E,ρ,d,st,e,q⟩:=h
 obtain⟨x,ex,e⟩:=bind_some e
 obtain⟨xs,exs,e⟩:=bind_some e
 cases e
 exact⟨H0,A0,A,E,ρ,x,st,ex,fun v H1 x1 r1=>⟨H0,A0,A,E,ρ,xs,st.mono x1,exs,fun vs H2 x2 r2=>q (v :: vs) H2 (x1.trans x2) (.cons (hR _ _ _ _ _ x2 r1) r2)⟩⟩
theorem qks{e:Expr}{es:List Expr}{f:Ev}{g:Lv}(ha:PD X O e f)(hr:PDA X O es g)(hs:zap (e :: es) X.env=(false,eval e X.env) :: zap es X.env:=by rfl):PDA X O (e :: es) (qb f g):=
 PA.mono (qbA ha hr hs) fun σ H Q h=>qgV (fun _ _ _ _ _ x r=>r.ext x) h
theorem qjW{e:Expr}{es:List Expr}{f:Ev}{g:Lv}(ha:PB X O e f)(hr:PBA X O es g)(hs:zap (e :: es) X.env=(false,eval e X.env) :: zap es X.env:=by rfl):PBA X O (e :: es) (qb f g):=
 PA.mono (qbA ha hr hs) fun σ H Q h=>qgV (fun _ _ _ _ _ x r=>r.ext x) h
inductive tF(O:List Nat)(f:Ev)(σ:L2.St)(H:Hp)(Q:VK):Prop
 | mk (H0:Hp) (A0 A:Av) (E:List Fact) (ρ:Rho) (d:D) (st:ST H0 A0 A E O σ H ρ) (e:f ρ=some d) (q:∀ a H',Ext A H H'->H a=none->¬ A a->Own (fun b=>A b\/b=a) H' d a->Q (.ref a) H'):tF O f σ H Q
noncomputable def PF(X:Cx)(O:List Nat)(e:Expr)(f:Ev):Prop:=PE X e (tF O f)
theorem PF.d{e:Expr}{f:Ev}(h:PF X O e f):PD X O e f:=PE.mono h fun σ H Q ⟨H0,A0,A,E,ρ,d,st,e,q⟩=>
 ⟨H0,A0,A,E,ρ,d,st,e,fun a H' x n na o=>q _ H' x ((o.av (A':=A) fun b hb=>.inl (.inl hb)).rep na)⟩
theorem RepL.fresh{A:Av}{H:Hp}{p:Addr}{o:HO}(n:H p=none){ds:List D}{vs:List V}(r:RepL A H ds vs):RepL (fun b=>A b\/b=p) (upd H p o) ds vs:=by
 have r1:RepL (fun b=>A b\/b=p) H ds vs:=r.av fun b hb=>by
  rcases hb with hb | hb
  ·exact .inl hb
  ·exact .inr (hb ▸ n)
 exact r1.ext (Ext.new n)
theorem Ext.free{A:Av}{H H':Hp}(x:Ext A H H'){p:Addr}(n:H' p=none):H p=none:=by
 cases e:H p with
 | none=>rfl
 | some u=>rcases x.rd p u (.inl e) with h | ⟨o,h⟩ <;> (rw[n] at h; cases h)
noncomputable def eTup(g:Lv):Ev:=fun ρ=>(g ρ).map .tup
noncomputable def eLst(g:Lv):Ev:=fun ρ=>(g ρ).map .lst
theorem RL.length{R:RR}{A:Av}{H:Hp}:∀ {ds:List D} {vs:List V},RL R A H ds vs->vs.length=ds.length
 | _,_,.nil=>rfl
 | _,_,.cons _ t=>by rw[zaW,zaW,RL.length t]
noncomputable def szOk(n:Nat):Bool:=decide (n<=1000000)
theorem qbS{n:Nat}(h:szOk n=true):n<=zal:=za6 (of_decide_eq_true h) (by decide)
theorem qd0{n:Nat}(h:szOk n=true):n < zal:=zbL (of_decide_eq_true h) (by decide)
theorem map_some{α β:Type}{o:Option α}{f:α->β}{b:β}(h:o.map f=some b):∃ a,o=some a/\f a=b:=by
 cases o with
 | none=>cases h
 | some a=>exact⟨a,rfl,zaF h⟩
noncomputable def Len(g:Lv)(n:Nat):Prop:=∀ ρ ds,g ρ=some ds->ds.length=n
theorem qmA:Len lNil 0:=fun ρ ds h=>by cases h; rfl
theorem qjO{f:Ev}{g:Lv}{n:Nat}(h:Len g n):Len (qb f g) (n + 1):=fun ρ ds e=>by
 obtain⟨x,ex,e⟩:=bind_some e
 obtain⟨xs,exs,e⟩:=bind_some e
 cases e
 rw[zaW,h ρ xs exs]
theorem qam{es:List Expr}{x1}{pos:Pos}{g:Lv}(h:PDA X O es g)(hl:∀ ρ ds,g ρ=some ds->ds.length<=100):PD X O (.Tuple es x1 pos) (eTup g):=PE.mono (qnw h) <| by
 rintro σ H Q ⟨H0,A0,A,E,ρ,d,st,e,q⟩
 obtain⟨ds,e1,rfl⟩:=map_some e
 refine⟨H0,A0,A,E,ρ,ds,st,e1,fun vs H1 x1 r1=>⟨by rw[r1.length]; exact za6 (hl ρ ds e1) (by decide),fun p hp=>?_⟩⟩
 exact q _ _ (x1.trans (Ext.new hp)) (.tup qw (r1.toL.ext (Ext.new hp)))
theorem qdU{es:List Expr}{pos:Pos}{g:Lv}(h:PDA X O es g)(hl:∀ ρ ds,g ρ=some ds->ds.length<=100):PF X O (.List es pos) (eLst g):=PE.mono (qnT h) <| by
 rintro σ H Q ⟨H0,A0,A,E,ρ,d,st,e,q⟩
 obtain⟨ds,e1,rfl⟩:=map_some e
 refine⟨H0,A0,A,E,ρ,ds,st,e1,fun vs H1 x1 r1=>⟨by rw[r1.length]; exact za6 (hl ρ ds e1) (by decide),fun p hp=>?_⟩⟩
 exact q p _ (x1.trans (Ext.new hp)) (x1.free hp) (fun z=>(st.mono x1).live p z hp) (.lst qw (r1.toL.fresh hp))
theorem qcb{pos:Pos}:PF X O (.Dict [] [] pos) (eC (.dT [])):=PE.mono qjG <| by
 rintro σ H Q ⟨H0,A0,A,E,ρ,d,st,e,q⟩ p hp
 cases e
 exact q p _ (Ext.new hp) hp (fun z=>st.live p z hp) (.dT qw rfl .nil)
inductive rC(g:List D->Option D)(xs:List V)(H:Hp)(Q:VK):Prop
 | mk (A:Av) (ds:List D) (d:D) (lv:Live A H) (r:RL RepB A H ds xs) (e:g ds=some d) (q:∀ v H',Ext A H H'->Rep A H' d v->Q v H'):rC g xs H Q
inductive rCF(g:List D->Option D)(xs:List V)(H:Hp)(Q:VK):Prop
 | mk (A:Av) (ds:List D) (d:D) (lv:Live A H) (r:RL RepB A H ds xs) (e:g ds=some d) (q:∀ a H',Ext A H H'->H a=none->¬ A a->Own (fun b=>A b\/b=a) H' d a->Q (.ref a) H'):rCF g xs H Q
noncomputable def qht(X:Cx)(f:Value)(g:List D->Option D):Prop:=CallR X f (rC g)
noncomputable def qfa(X:Cx)(f:Value)(g:List D->Option D):Prop:=CallR X f (rCF g)
theorem CallR.mono{f:Value}{r r':List V->Hp->VK->Prop}(h:CallR X f r)(x:∀ a H Q,r' a H Q->r a H Q):CallR X f r':=fun pins s σ H a v Q I rv w=>h pins s σ H a v Q I rv (x a H Q w)
noncomputable def qy(g:List D->Option D)(f:Lv):Ev:=fun ρ=>(f ρ).bind g
theorem qeL{g:List D->Option D}{f:Lv}{σ:L2.St}{H:Hp}{Q:VK}(h:tD Rep O (qy g f) σ H Q):tCB (rC g) (tDA RepB O f) σ H Q:=by
 obtain⟨H0,A0,A,E,ρ,d,st,e,q⟩:=h
 obtain⟨ds,e1,e⟩:=bind_some e
 exact⟨H0,A0,A,E,ρ,ds,st,e1,fun vs H1 x1 r1=>⟨A,ds,d,(st.mono x1).live,r1,e,fun v H2 x2 r2=>q v H2 (x1.trans x2) r2⟩⟩
theorem qeS{g:List D->Option D}{f:Lv}{σ:L2.St}{H:Hp}{Q:VK}(h:tF O (qy g f) σ H Q):tCB (rCF g) (tDA RepB O f) σ H Q:=by
 obtain⟨H0,A0,A,E,ρ,d,st,e,q⟩:=h
 obtain⟨ds,e1,e⟩:=bind_some e
 exact⟨H0,A0,A,E,ρ,ds,st,e1,fun vs H1 x1 r1=>⟨A,ds,d,(st.mono x1).live,r1,e,fun a H2 x2 n na o=>q a H2 (x1.trans x2) (x1.free n) na o⟩⟩
section
variable {x:Str}{id T:String}{g:List D->Option D}{e:Expr}{es:List Expr}{f:Lv}{p pos:Pos}
theorem qky(hc:qht X (.builtin id) g)(hg:Gl X x)(hm:X.mg x=none)(hv:zaJ x=some (.builtin id))(ha:PBA X O (e :: es) f)(hn:x ≠ "__name__" := by decide)(hdb:(x == ("__debug__" : Str))=false:=by decide)
  (he:zap (e :: es) X.env=(false,eval e X.env) :: zap es X.env:=by rfl) (hpl:(backTo pos (zap es X.env)).any (·.1)=false:=by rfl) :
  PD X O (.Call (.Name x p) (e :: es) [] pos) (qy g f):=PE.mono (qcK hc hg hm hv ha hn hdb he hpl) fun σ H Q h=>qeL h
theorem qjJ(hc:qfa X (.builtin id) g)(hg:Gl X x)(hm:X.mg x=none)(hv:zaJ x=some (.builtin id))(ha:PBA X O (e :: es) f)(hn:x ≠ "__name__" := by decide)(hdb:(x == ("__debug__" : Str))=false:=by decide)
  (he:zap (e :: es) X.env=(false,eval e X.env) :: zap es X.env:=by rfl) (hpl:(backTo pos (zap es X.env)).any (·.1)=false:=by rfl) :
  PF X O (.Call (.Name x p) (e :: es) [] pos) (qy g f):=PE.mono (qcK hc hg hm hv ha hn hdb he hpl) fun σ H Q h=>qeS h
theorem qjh(hc:qht X (.type T) g)(hg:Gl X x)(hm:X.mg x=none)(hv:zaJ x=some (.type T))(ha:PBA X O (e :: es) f)(hn:x ≠ "__name__" := by decide)(hdb:(x == ("__debug__" : Str))=false:=by decide)
  (he:zap (e :: es) X.env=(false,eval e X.env) :: zap es X.env:=by rfl) (hpl:(backTo pos (zap es X.env)).any (·.1)=false:=by rfl) :
  PD X O (.Call (.Name x p) (e :: es) [] pos) (qy g f):=PE.mono (qda hc hg hm hv ha hn hdb he hpl) fun σ H Q h=>qeL h
theorem qiZ(hc:qfa X (.type T) g)(hg:Gl X x)(hm:X.mg x=none)(hv:zaJ x=some (.type T))(ha:PBA X O (e :: es) f)(hn:x ≠ "__name__" := by decide)(hdb:(x == ("__debug__" : Str))=false:=by decide)
  (he:zap (e :: es) X.env=(false,eval e X.env) :: zap es X.env:=by rfl) (hpl:(backTo pos (zap es X.env)).any (·.1)=false:=by rfl) :
  PF X O (.Call (.Name x p) (e :: es) [] pos) (qy g f):=PE.mono (qda hc hg hm hv ha hn hdb he hpl) fun σ H Q h=>qeS h
end
noncomputable def spD(n:Nat)(F:List D->Option D):Sp:=fun vs H Q _=>∃ A ds d,Live A H/\RepL A H ds vs/\vs.length=n/\F ds=some d/\∀ v H',Ext A H H'->Rep A H' d v->Q v H'
noncomputable def Fn(P:zai)(w:World)(K:zad)(mg:Str->Option Value)(base:Heap)(x:Str)(k:Nat)(ps:List Str)(F:List D->Option D):Prop:=My.Ok P w K mg base x k ps (spD ps.length F)
theorem Fn.mono{P:zai}{w:World}{K:zad}{mg:Str->Option Value}{base:Heap}{x:Str}{j k:Nat}{ps:List Str}{F:List D->Option D}(h:Fn P w K mg base x j ps F)(l:j<=k):Fn P w K mg base x k ps F:=My.Ok.mono h l
theorem qlm{x:Str}{k:Nat}{ps:List Str}{F:List D->Option D}{e:Expr}{es:List Expr}{f:Lv}{p pos:Pos}(O':Fn X.prog X.w X.K X.mg X.base x k ps F)(hr:Room k X.A)(hg:Gl X x)(ha:PDA X O (e :: es) f)(hl:∀ ρ ds,f ρ=some ds->ds.length=ps.length)(hdb:(x == ("__debug__" : Str))=false:=by decide)
  (he:zap (e :: es) X.env=(false,eval e X.env) :: zap es X.env:=by rfl) (hpl:(backTo pos (zap es X.env)).any (·.1)=false:=by rfl) :
  PD X O (.Call (.Name x p) (e :: es) [] pos) (qy F f):=PE.mono (My.qku O' hr hg ha hdb he hpl) fun σ H Q ⟨H0,A0,A,E,ρ,d,st,e,q⟩=>by
 obtain⟨ds,e1,e⟩:=bind_some e
 exact⟨H0,A0,A,E,ρ,ds,st,e1,fun vs H1 x1 r1=>⟨A,ds,d,(st.mono x1).live,r1.toL,by rw[r1.length]; exact hl ρ ds e1,e,fun v H2 x2 r2=>q v H2 (x1.trans x2) r2⟩⟩
theorem IxR.mono{r r':R2}(h:IxR X r)(x:∀ a b H Q,r' a b H Q->r a b H Q):IxR X r':=fun va sl pins s σ H a b v u Q I rv ru w=>h va sl pins s σ H a b v u Q I rv ru (x a b H Q w)
noncomputable def dIx:D->D->Option D
 | .lst l,.int i=>atI l i
 | .tup l,.int i=>atI l i
 | .str z,.int i=>if szOk z.length then (atI z.cps.toList i).map fun c=>.str ⟨#[c]⟩ else none
 | _,_=>none
theorem RepL.at{A:Av}{H:Hp}{ds:List D}{vs:List V}{i:Int}{d:D}(r:RepL A H ds vs)(h:atI ds i=some d):∃ v,atI vs i=some v/\Rep A H d v:=by
 obtain⟨j,e1,e2⟩:=bind_some h
 obtain⟨v,e3,e4⟩:=r.get' e2
 refine⟨v,?_,e4⟩
 unfold atI
 rw[r.length,e1]
 exact e3
theorem ix_D:IxR X (rD dIx):=IxR.mono qm4 <| by
 rintro x y H Q ⟨A,dx,dy,d,lv,rx,ry,e,q⟩
 cases dy with
 | int i=>
  have:=ry.int_inv; subst this
  cases dx with
  | lst l=>
   obtain⟨a,xs,rfl,h,r⟩:=rx.lst_inv
   obtain⟨v,e1,e2⟩:=r.at e
   exact .inl ⟨a,xs,i,v,rfl,rfl,.inl h,e1,q v H (Ext.refl _ _) e2⟩
  | tup l=>
   obtain⟨a,xs,rfl,h,r⟩:=rx.tup_inv
   obtain⟨v,e1,e2⟩:=r.at e
   exact .inr (.inl ⟨a,xs,i,v,rfl,rfl,.inl (.inl h),e1,q v H (Ext.refl _ _) e2⟩)
  | str z=>
   have:=rx.str_inv; subst this
   simp only[dIx] at e
   by_cases hz:szOk z.length=true
   ·rw[if_pos hz] at e
    obtain⟨c,e1,rfl⟩:=map_some e
    exact .inr (.inr ⟨z,i,c,rfl,rfl,qbS hz,e1,q _ H (Ext.refl _ _) (.str _)⟩)
   ·rw[if_neg hz] at e; cases e
  | _=>cases e
 | _=>cases dx <;> cases e
noncomputable abbrev Ov:=Rho->Option (Option Int)
inductive tDO(O:List Nat)(g:Ov)(σ:L2.St)(H:Hp)(Q:Option Int->Hp->Prop):Prop
 | mk (H0:Hp) (A0 A:Av) (E:List Fact) (ρ:Rho) (o:Option Int) (st:ST H0 A0 A E O σ H ρ) (e:g ρ=some o) (q:∀ H',Ext A H H'->Q o H'):tDO O g σ H Q
noncomputable def PDO(X:Cx)(O:List Nat)(e:Option Expr)(g:Ov):Prop:=PO X e (tDO O g)
theorem PO.mono{e:Option Expr}{t t':TO}(h:PO X e t)(x:∀ σ H Q,t' σ H Q->t σ H Q):PO X e t':=fun pins s σ H Q I w=>h pins s σ H Q I (x σ H Q w)
noncomputable def qff:Ov:=fun _=>some none
noncomputable def asI:D->Option Int
 | .int i=>some i
 | _=>none
theorem qcU{d:D}{i:Int}(h:asI d=some i):d=.int i:=by cases d <;> cases h; rfl
noncomputable def qcg(f:Ev):Ov:=fun ρ=>(f ρ).bind fun d=>(asI d).map some
theorem qb9:PDO X O none qff:=PO.mono qmt fun σ H Q ⟨H0,A0,A,E,ρ,d,st,e,q⟩=>by cases e; exact q H (Ext.refl _ _)
theorem qbj{e:Expr}{f:Ev}(h:PD X O e f):PDO X O (some e) (qcg f):=PO.mono (qiL h) <| by
 rintro σ H Q ⟨H0,A0,A,E,ρ,d,st,e,q⟩
 obtain⟨x,ex,e⟩:=bind_some e
 obtain⟨i,ei,rfl⟩:=map_some e
 rw[qcU ei] at ex
 exact⟨H0,A0,A,E,ρ,_,st,ex,fun v H1 x1 r1=>⟨i,RepB.int_inv (.of r1),q H1 x1⟩⟩
noncomputable def cutD(xs:List D)(lo hi:Option Int):List D:=(xs.drop (HT.sIx xs.length 0 lo)).take (HT.sIx xs.length xs.length hi - HT.sIx xs.length 0 lo)
theorem RepL.cut{A:Av}{H:Hp}{ds:List D}{vs:List V}{lo hi:Option Int}(r:RepL A H ds vs):RepL A H (cutD ds lo hi) (cutV vs lo hi):=by
 unfold cutD cutV
 rw[r.length]
 exact(r.drop _).take _
noncomputable def eSl(g:D->Option Int->Option Int->Option D)(f:Ev)(a b:Ov):Ev:=fun ρ=>(f ρ).bind fun x=>(a ρ).bind fun lo=>(b ρ).bind fun hi=>g x lo hi
inductive rS(g:D->Option Int->Option Int->Option D)(x:V)(lo hi:Option Int)(H:Hp)(Q:VK):Prop
 | mk (A:Av) (dx d:D) (lv:Live A H) (r:RepB A H dx x) (e:g dx lo hi=some d) (q:∀ v H',Ext A H H'->Rep A H' d v->Q v H'):rS g x lo hi H Q
inductive rSF(g:D->Option Int->Option Int->Option D)(x:V)(lo hi:Option Int)(H:Hp)(Q:VK):Prop
 | mk (A:Av) (dx d:D) (lv:Live A H) (r:RepB A H dx x) (e:g dx lo hi=some d) (q:∀ a H',Ext A H H'->H a=none->¬ A a->Own (fun b=>A b\/b=a) H' d a->Q (.ref a) H'):rSF g x lo hi H Q
theorem SlR.mono{r r':V->Option Int->Option Int->Hp->VK->Prop}(h:SlR X r)(x:∀ a b c H Q,r' a b c H Q->r a b c H Q):SlR X r':=fun pins s σ H a v vl vu lo hi sl Q I rv hs pl pu w=>h pins s σ H a v vl vu lo hi sl Q I rv hs pl pu (x a lo hi H Q w)
noncomputable def dSlT:D->Option Int->Option Int->Option D
 | .tup l,lo,hi=>some (.tup (cutD l lo hi))
 | _,_,_=>none
noncomputable def dSlL:D->Option Int->Option Int->Option D
 | .lst l,lo,hi=>some (.lst (cutD l lo hi))
 | _,_,_=>none
theorem qcj{e:Expr}{lo hi:Option Expr}{p2 pos:Pos}{g:D->Option Int->Option Int->Option D}{f:Ev}{a b:Ov}(hr:SlR X (rS g))(he:PB X O e f)(hl:PDO X O lo a)(hu:PDO X O hi b):PD X O (.Subscript e (.Slice lo hi none p2) pos) (eSl g f a b):=
 PE.mono (qkJ hr he hl hu) <| by
  rintro σ H Q ⟨H0,A0,A,E,ρ,d,st,e,q⟩
  obtain⟨x,ex,e⟩:=bind_some e
  obtain⟨l,el,e⟩:=bind_some e
  obtain⟨h,eh,e⟩:=bind_some e
  exact⟨H0,A0,A,E,ρ,x,st,ex,fun v H1 x1 r1=>⟨H0,A0,A,E,ρ,l,st.mono x1,el,fun H2 x2=>⟨H0,A0,A,E,ρ,h,st.mono (x1.trans x2),eh,fun H3 x3=>⟨A,x,d,(st.mono ((x1.trans x2).trans x3)).live,r1.ext (x2.trans x3),e,fun v H4 x4 r4=>q v H4 (((x1.trans x2).trans x3).trans x4) r4⟩⟩⟩⟩
theorem sl_T:SlR X (rS dSlT):=SlR.mono My.qmb <| by
 rintro x lo hi H Q ⟨A,dx,d,lv,rx,e,q⟩
 cases dx with
 | tup l=>
  obtain⟨a,xs,rfl,h,r⟩:=rx.tup_inv
  cases e
  by_cases w:HT.sIx xs.length 0 lo=0/\HT.sIx xs.length xs.length hi=xs.length
  ·refine .inr ⟨a,xs,rfl,.inl (.inl h),w,q _ H (Ext.refl _ _) (.tup h ?_)⟩
   have e1:cutV xs lo hi=xs:=by unfold cutV; rw[w.1,w.2]; simp
   rw[<- e1]
   exact r.cut
  ·exact .inl ⟨a,xs,rfl,.inl (.inl h),w,fun p hp=>q _ _ (Ext.new hp) (.tup qw (r.cut.ext (Ext.new hp)))⟩
 | _=>cases e
theorem sl_L:SlR X (rSF dSlL):=SlR.mono qmc <| by
 rintro x lo hi H Q ⟨A,dx,d,lv,rx,e,q⟩
 cases dx with
 | lst l=>
  obtain⟨a,xs,rfl,h,r⟩:=rx.lst_inv
  cases e
  exact⟨a,xs,rfl,.inl h,fun p hp=>q p _ (Ext.new hp) hp (fun z=>lv p z hp) (.lst qw (r.cut.fresh hp))⟩
 | _=>cases e
end
inductive Out where
 | nx (ρ:Rho) | rt (d:D) | bk (ρ:Rho) | ct (ρ:Rho)
noncomputable abbrev Sv:=Rho->Option Out
structure Lp where
 ob:List Nat
 oc:List Nat
noncomputable def Post(L:Lp)(H0:Hp)(A0:Av)(E:List Fact)(O':List Nat)(T:Ends):Out->Prop
 | .nx ρ=>∀ A σ H,ST H0 A0 A E O' σ H ρ->T.nx σ H
 | .rt d=>∀ v H,Ext A0 H0 H->Rep A0 H d v->T.rt v H
 | .bk ρ=>∀ A σ H,ST H0 A0 A E L.ob σ H ρ->T.bk σ H
 | .ct ρ=>∀ A σ H,ST H0 A0 A E L.oc σ H ρ->T.ct σ H
inductive tS(L:Lp)(O:List Nat)(f:Sv)(O':List Nat)(T:Ends)(σ:L2.St)(H:Hp):Prop
 | mk (H0:Hp) (A0 A:Av) (E:List Fact) (ρ:Rho) (out:Out) (st:ST H0 A0 A E O σ H ρ) (e:f ρ=some out) (p:Post L H0 A0 E O' T out):tS L O f O' T σ H
noncomputable def PSD(X:Cx)(L:Lp)(O:List Nat)(st:Stmt)(f:Sv)(O':List Nat):Prop:=PS X st (tS L O f O')
noncomputable def PSDs(X:Cx)(L:Lp)(O:List Nat)(st:List Stmt)(f:Sv)(O':List Nat):Prop:=PSs X st (tS L O f O')
section
variable {X:Cx}{L:Lp}{O O' O2:List Nat}
theorem PS.mono{st:Stmt}{t t':TS}(h:PS X st t)(x:∀ T σ H,t' T σ H->t T σ H):PS X st t':=fun pins s σ H T I w=>h pins s σ H T I (x T σ H w)
theorem PSs.mono{st:List Stmt}{t t':TS}(h:PSs X st t)(x:∀ T σ H,t' T σ H->t T σ H):PSs X st t':=fun pins s σ H T I w=>h pins s σ H T I (x T σ H w)
noncomputable def Sub(a b:List Nat):Bool:=a.all fun i=>b.contains i
theorem Sub.mem{a b:List Nat}(h:Sub a b=true)(i:Nat)(hi:i∈a):i∈b:=by
 have:=(List.all_eq_true.mp h) i hi
 simpa using this
theorem tS.pre{f:Sv}{O1:List Nat}(h:Sub O1 O=true){T:Ends}{σ:L2.St}{H:Hp}(t:tS L O f O' T σ H):tS L O1 f O' T σ H:=by
 obtain⟨H0,A0,A,E,ρ,out,st,e,p⟩:=t
 obtain⟨A',st'⟩:=st.shut (Sub.mem h)
 exact⟨H0,A0,A',E,ρ,out,st',e,p⟩
theorem PSDs.pre{st:List Stmt}{f:Sv}{O1:List Nat}(t:PSDs X L O1 st f O')(h:Sub O1 O=true):PSDs X L O st f O':=PSs.mono t fun T σ H z=>tS.pre h z
theorem PSD.pre{st:Stmt}{f:Sv}{O1:List Nat}(t:PSD X L O1 st f O')(h:Sub O1 O=true):PSD X L O st f O':=PS.mono t fun T σ H z=>tS.pre h z
noncomputable def sNx:Sv:=fun ρ=>some (.nx ρ)
noncomputable def sSeq(f g:Sv):Sv:=fun ρ=>(f ρ).bind fun o=>match o with
 | .nx ρ'=>g ρ'
 | o=>some o
theorem qap(h:Sub O' O=true:=by rfl):PSDs X L O [] sNx O':=PSs.mono qmq <| by
 rintro T σ H ⟨H0,A0,A,E,ρ,out,st,e,p⟩
 cases e
 obtain⟨A',st'⟩:=st.shut (Sub.mem h)
 exact p A' σ H st'
theorem qmS{f g:Sv}{T:Ends}{σ:L2.St}{H:Hp}(h:tS L O (sSeq f g) O' T σ H):tSeq (tS L O f O2) (tS L O2 g O') T σ H:=by
 obtain⟨H0,A0,A,E,ρ,out,st,e,p⟩:=h
 obtain⟨o,eo,e⟩:=bind_some e
 refine⟨H0,A0,A,E,ρ,o,st,eo,?_⟩
 cases o with
 | nx ρ'=>exact fun A' σ' H' st'=>⟨H0,A0,A',E,ρ',out,st',e,p⟩
 | rt d=>cases e; exact p
 | bk d=>cases e; exact p
 | ct d=>cases e; exact p
theorem qkn{st:Stmt}{rest:List Stmt}{f g:Sv}(h1:PSD X L O st f O2)(h2:PSDs X L O2 rest g O'):PSDs X L O (st :: rest) (sSeq f g) O':=PSs.mono (qjA h1 h2) fun T σ H h=>qmS h
theorem qp{st:Stmt}{f:Sv}(h1:PSD X L O st f O'):PSDs X L O [st] f O':=qmJ h1
noncomputable def sRt(f:Ev):Sv:=fun ρ=>(f ρ).map .rt
theorem qD{e:Expr}{pos:Pos}{f:Ev}(he:PD X O e f):PSD X L O (.Return (some e) pos) (sRt f) O':=PS.mono (qm5 he) <| by
 rintro T σ H ⟨H0,A0,A,E,ρ,out,st,e,p⟩
 obtain⟨d,e1,rfl⟩:=map_some e
 exact⟨H0,A0,A,E,ρ,d,st,e1,fun v H' x r=>p v H' (st.mono x).ex (r.av fun a ha=>.inl (st.sub a ha))⟩
noncomputable def sIf(c:Bv)(f g:Sv):Sv:=fun ρ=>(c ρ).bind fun b=>if b=true then f ρ else g ρ
theorem qaH{c:Expr}{a b:List Stmt}{pos:Pos}{g:Bv}{f k:Sv}(hc:PDT X O c g)(ha:PSDs X L O a f O')(hb:PSDs X L O b k O'):PSD X L O (.If c a b pos) (sIf g f k) O':=PS.mono (qoX hc ha hb) <| by
 rintro T σ H ⟨H0,A0,A,E,ρ,out,st,e,p⟩
 obtain⟨b,eb,e⟩:=bind_some e
 refine⟨H0,A0,A,E,ρ,b,st,eb,fun H1 x1=>?_⟩
 cases b with
 | true=>rw[if_pos rfl] at e ⊢; exact⟨H0,A0,A,E,ρ,out,st.mono x1,e,p⟩
 | false=>rw[if_neg zax] at e ⊢; exact⟨H0,A0,A,E,ρ,out,st.mono x1,e,p⟩
noncomputable def sSet(i:Nat)(f:Ev):Sv:=fun ρ=>(f ρ).map fun d=>.nx (ρ.set i (some d))
theorem Sub.er{a b:List Nat}{i j:Nat}(h:Sub a (b.filter (· != i))=true)(hj:j∈a):j∈b/\j≠i:=by
 have:=Sub.mem h j hj
 rw[List.mem_filter] at this
 exact⟨this.1,by simpa using this.2⟩
theorem qP{i:Nat}{x:Str}{e:Expr}{pos pos':Pos}{f:Ev}(hN:X.N.Nodup)(hi:X.N[i]?=some x)(hx:Loc X.env.scope x)(he:PD X O e f)(h:Sub O' (O.filter (· != i))=true:=by rfl)
  (hs:swapsWith e (some (.Name x pos')) pos.line X.env=pure false:=by rfl) (hf:X.fn x=true\/X.env.scope.names.lookup x=some .local:=by first | exact .inl rfl | exact .inr rfl):PSD X L O (.Assign [.Name x pos'] e pos) (sSet i f) O':=
 PS.mono (qlg hN hi hx he hs hf) <| by
  rintro T σ H ⟨H0,A0,A,E,ρ,out,st,e,p⟩
  obtain⟨d,e1,rfl⟩:=map_some e
  refine⟨H0,A0,A,E,ρ,d,st,e1,fun v H' x r=>?_⟩
  -- i leaves what may be written ahead of the store: the value is borne by fewer too
  have st1:=(st.mono x).more r
  obtain⟨A',st'⟩:=st1.shut (O':=O') fun j hj=>(Sub.er h hj).1
  exact p A' _ H' ((st'.put (st'.ext _ (zav ..)) fun z=>(Sub.er h z).2 rfl).less fun q hq=>zaw _ hq)
theorem Own.there{A:Av}{H:Hp}{d:D}{a:Addr}:Own A H d a->H a≠none
 | .lst h _=>by rw[h]; exact fun z=>nomatch z
 | .dK h _ _=>by rw[h]; exact fun z=>nomatch z
 | .dT h _ _=>by rw[h]; exact fun z=>nomatch z
theorem ST.own_put{H0:Hp}{A0 A:Av}{E:List Fact}{O:List Nat}{σ:L2.St}{H H':Hp}{ρ:Rho}(s:ST H0 A0 A E O σ H ρ)(x:Ext A H H'){i:Nat}{d:D}{a:Addr}(n:H a=none)(na:¬ A a)(o:Own (fun b=>A b\/b=a) H' d a)(ni:i ∉ O) :
  ST H0 A0 (fun b=>A b\/b=a) E (i :: O) (σ.set i (some (.ref a))) H' (ρ.set i (some d)):=by
 have s':=s.mono x
 have n0:H0 a=none:=s.ex.free n
 -- whatever was borne ahead avoids a
 have upX:Ext (fun b=>A b\/b=a) H H':=⟨x.rd,x.kp,fun b u hb e=>hb.elim (fun hb=>x.ow b u hb e) fun hb=>(by subst hb; rw[n] at e; exact nomatch e),x.fz⟩
 have upF:∀ {p:Fact},p.Holds A H->p.Holds (fun b=>A b\/b=a) H':=fun r=>Fact.ext upX (Fact.av (A':=fun b=>A b\/b=a) (fun b hb=>by
   rcases hb with hb | hb
   ·exact .inl hb
   ·exact .inr (hb ▸ n)) r)
 have up:∀ {d:D} {v:V},Rep A H d v->Rep (fun b=>A b\/b=a) H' d v:=fun r=>by
  have r1:Rep (fun b=>A b\/b=a) H _ _:=r.av fun b hb=>by
   rcases hb with hb | hb
   ·exact .inl hb
   ·exact .inr (hb ▸ n)
  exact r1.ext upX
 have upO:∀ {d:D} {b:Addr},A b->Own A H d b->Own (fun c=>A c\/c=a) H' d b:=fun hb r=>by
  have r1:Own (fun c=>A c\/c=a) H _ _:=r.av fun b hb=>by
   rcases hb with hb | hb
   ·exact .inl hb
   ·exact .inr (hb ▸ n)
  exact r1.ext upX (.inl hb)
 have ha:H' a≠none:=o.there
 refine⟨s'.ex,fun b hb=>.inl (s.sub b hb),s.l0,fun b hb=>?_,by simp[s.len],fun j d' h' n'=>?_,fun j d' h' n'=>?_,fun j k d1 d2 b hj hk h1 h2 h3 h4=>?_,fun p hp=>upF (s.ext p hp)⟩
 ·rcases hb with hb | hb
  ·exact s'.live b hb
  ·subst hb; exact ha
 ·rcases qa8 h' with⟨e,e2,l⟩ | ⟨e,e2⟩
  ·exact absurd (List.mem_cons.mpr (.inl e)) n'
  ·obtain⟨w,h1,h2⟩:=s.val j d' e2 fun z=>n' (zaw _ z)
   exact⟨w,by rw[qc1 e]; exact h1,up h2⟩
 ·rcases qa8 h' with⟨e,e2,l⟩ | ⟨e,e2⟩
  ·subst e; cases e2
   exact⟨a,sig_set (by rw[s.len]; exact l),.inr rfl,n0,o⟩
  ·rcases List.mem_cons.mp n' with z | z
   ·exact absurd z e
   ·obtain⟨w,h1,h2,h3,h4⟩:=s.own j d' e2 z
    exact⟨w,by rw[qc1 e]; exact h1,.inl h2,h3,upO h2 h4⟩
 ·have key:∀ {j:Nat} {d1:D},j∈i :: O->(ρ.set i (some d))[j]?=some (some d1)->(σ.set i (some (.ref a)))[j]?=some (some (.ref b))->(j=i/\b=a)\/(j≠i/\j∈O/\ρ[j]?=some (some d1)/\σ[j]?=some (some (.ref b))/\b≠a):=by
   intro j d1 hj h1 h3
   rcases qa8 h1 with⟨e,e2,l⟩ | ⟨e,e2⟩
   ·subst e
    rw[sig_set (by rw[s.len]; exact l)] at h3
    cases h3
    exact .inl ⟨rfl,rfl⟩
   ·rcases List.mem_cons.mp hj with z | z
    ·exact absurd z e
    ·rw[qc1 e] at h3
     obtain⟨w,q1,q2,_⟩:=s.own j d1 e2 z
     rw[h3] at q1; cases q1
     exact .inr ⟨e,z,e2,h3,fun z=>na (z ▸ q2)⟩
  rcases key hj h1 h3 with⟨e1,e2⟩ | ⟨e1,e2,e3,e4,e5⟩
  ·rcases key hk h2 h4 with⟨f1,f2⟩ | ⟨f1,f2,f3,f4,f5⟩
   ·rw[e1,f1]
   ·exact absurd e2 f5
  ·rcases key hk h2 h4 with⟨f1,f2⟩ | ⟨f1,f2,f3,f4,f5⟩
   ·exact absurd f2 e5
   ·exact s.inj j k d1 d2 b e2 f2 e3 f3 e4 f4
theorem ST.perm{H0:Hp}{A0 A:Av}{E:List Fact}{O O':List Nat}{σ:L2.St}{H:Hp}{ρ:Rho}(s:ST H0 A0 A E O σ H ρ)(h:∀ i,i∈O'↔i∈O):ST H0 A0 A E O' σ H ρ:=
 { s with val:=fun i d e n=>s.val i d e fun z=>n ((h i).mpr z),own:=fun i d e n=>s.own i d e ((h i).mp n),inj:=fun i j d d' a hi hj=>s.inj i j d d' a ((h i).mp hi) ((h j).mp hj) }
theorem qa3{i:Nat}{x:Str}{e:Expr}{pos pos':Pos}{f:Ev}(hN:X.N.Nodup)(hi:X.N[i]?=some x)(hx:Loc X.env.scope x)(he:PF X O e f)(h:Sub O' (i :: O)=true:=by rfl)(hn:O.contains i=false:=by rfl)
  (hs:swapsWith e (some (.Name x pos')) pos.line X.env=pure false:=by rfl) (hf:X.fn x=true\/X.env.scope.names.lookup x=some .local:=by first | exact .inl rfl | exact .inr rfl):PSD X L O (.Assign [.Name x pos'] e pos) (sSet i f) O':=
 PS.mono (qlg hN hi hx he hs hf) <| by
  rintro T σ H ⟨H0,A0,A,E,ρ,out,st,e,p⟩
  obtain⟨d,e1,rfl⟩:=map_some e
  refine⟨H0,A0,A,E,ρ,d,st,e1,fun a H' x n na o=>?_⟩
  have ni:i ∉ O:=fun z=>by
   have:O.contains i=true:=by simpa using z
   rw[hn] at this; cases this
  obtain⟨A1,st1⟩:=(st.own_put x n na o ni).shut (Sub.mem h)
  exact p A1 _ H' st1
theorem ST.write{H0:Hp}{A0 A:Av}{E:List Fact}{σ:L2.St}{H:Hp}{ρ:Rho}(s:ST H0 A0 A E O σ H ρ){i:Nat}{d d':D}{a:Addr}{u o:HO}(hi:ρ[i]?=some (some d))(hO:i∈O)(hs:σ[i]?=some (some (.ref a)))(ha:A a)(h0:H0 a=none)(hu:H a=some u)(ob:Obs u)(hn:Own A (upd H a o) d' a) :
  ST H0 A0 A E O σ (upd H a o) (ρ.set i (some d')):=by
 have ne0:∀ b,H0 b≠none->b≠a:=fun b hb z=>hb (z ▸ h0)
 refine⟨⟨fun b w r=>?_,fun b xs k r=>?_,fun b w n r=>?_,fun b q w r=>?_⟩,s.sub,s.l0,fun b hb=>?_,by simp[s.len],fun j d2 h' n'=>?_,fun j d2 h' n'=>?_,fun j k d1 d2 b hj hk h1 h2 h3 h4=>?_,fun p hp=>Fact.put ha hu ob (s.ext p hp)⟩
 ·refine qbL (ne0 b ?_) (s.ex.rd b w r)
  rcases r with r | ⟨_,r⟩ <;> (rw[r]; exact fun z=>nomatch z)
 ·rw[qt (ne0 b (by rw[r]; exact fun z=>nomatch z))]; exact s.ex.kp b xs k r
 ·rw[qt (ne0 b (by rw[r]; exact fun z=>nomatch z))]; exact s.ex.ow b w n r
 ·rw[qt (ne0 b (by rw[r]; exact fun z=>nomatch z))]; exact s.ex.fz b q w r
 ·by_cases e:b=a
  ·subst e; rw[qw]; exact fun z=>nomatch z
  ·rw[qt e]; exact s.live b hb
 ·rcases qa8 h' with⟨e,e2,l⟩ | ⟨e,e2⟩
  ·subst e; exact absurd hO n'
  ·obtain⟨w,h1,h2⟩:=s.val j d2 e2 n'
   exact⟨w,h1,h2.put ha hu ob⟩
 ·rcases qa8 h' with⟨e,e2,l⟩ | ⟨e,e2⟩
  ·subst e; cases e2; exact⟨a,hs,ha,h0,hn⟩
  ·obtain⟨b,h1,h2,h3,h4⟩:=s.own j d2 e2 n'
   refine⟨b,h1,h2,h3,h4.put ha hu ob fun z=>?_⟩
   subst z
   exact e (s.inj j i d2 d b n' hO e2 hi h1 hs)
 ·have key:∀ {j:Nat} {d1:D},(ρ.set i (some d'))[j]?=some (some d1)->∃ d0,ρ[j]?=some (some d0):=by
   intro j d1 h
   rcases qa8 h with⟨e,_,_⟩ | ⟨_,e⟩
   ·subst e; exact⟨d,hi⟩
   ·exact⟨d1,e⟩
  obtain⟨x,hx⟩:=key h1
  obtain⟨y,hy⟩:=key h2
  exact s.inj j k x y b hj hk hx hy h3 h4
noncomputable def mem(O:List Nat)(i:Nat):Bool:=O.contains i
theorem qbz{O:List Nat}{i:Nat}(h:mem O i=true):i∈O:=by simpa[mem] using h
noncomputable def sApp(i:Nat)(f:Ev):Sv:=fun ρ=>(eVar i ρ).bind fun x=>match x with
 | .lst l=>(f ρ).bind fun d=>if szOk l.length then some (.nx (ρ.set i (some (.lst (l ++ [d]))))) else none
 | _=>none
theorem qhH{o e:Expr}{i:Nat}{apos cpos pos:Pos}{f:Ev}(ho:PE X o (tVar i))(he:PD X O e f)(hO:mem O i=true)(hp:PE X (.Call (.Attribute o "append" apos) [e] [] cpos) (tBM X.K "list" qh3 (tVar i) (qki (tD Rep O f) tNil)))
  (hs:swapsWith (.Call (.Attribute o "append" apos) [e] [] cpos) none pos.line X.env=pure false:=by rfl) (h:Sub O' O=true:=by rfl):PSD X L O (.Expr (.Call (.Attribute o "append" apos) [e] [] cpos) pos) (sApp i f) O':=
 PS.mono (qlQ hp hs) <| by
  rintro T σ H ⟨H0,A0,A,E,ρ,out,st,e,p⟩
  obtain⟨x,ex,e⟩:=bind_some e
  cases x with
  | lst l=>
   obtain⟨d,ed,e⟩:=bind_some e
   by_cases hz:szOk l.length=true
   ·rw[if_pos hz] at e
    cases e
    obtain⟨a,e1,e2,e3,e4⟩:=st.own i _ (qaB ex) (qbz hO)
    cases e4 with
    | lst h4 r4=>
     refine⟨_,e1,.inl ⟨rfl,_,SqL.of h4⟩,H0,A0,A,E,ρ,d,st,ed,fun v H' x r=>⟨a,_,v,rfl,rfl,x.ow _ _ e2 h4,by rw[r4.length]; exact qd0 hz,?_⟩⟩
     have hu:=x.ow _ _ e2 h4
     obtain⟨A',st'⟩:=((st.mono x).write (o:=.lst _) (qaB ex) (qbz hO) e1 e2 e3 hu trivial (.lst qw (((r4.ext x).append (.cons r .nil)).put e2 hu trivial))).shut (Sub.mem h)
     exact p A' σ _ st'
   ·rw[if_neg hz] at e; cases e
  | _=>cases e
noncomputable def asK:D->Option Key
 | .int i=>some (.inl i)
 | .str x=>some (.inr x)
 | _=>none
noncomputable def asKs:List D->Option (List Key)
 | []=>some []
 | d :: ds=>(asK d).bind fun k=>(asKs ds).bind fun ks=>some (k :: ks)
noncomputable def asT:D->Option (List Key)
 | .tup l=>asKs l
 | _=>none
noncomputable def valD{κ:Type}[DecidableEq κ](l:List (κ × D))(k:κ):Option D:=(l.find? fun p=>decide (p.1=k)).map (·.2)
noncomputable def putD{κ:Type}[DecidableEq κ](l:List (κ × D))(k:κ)(d:D):List (κ × D):=if l.any (fun p=>decide (p.1=k)) then l.map (fun p=>if p.1=k then (p.1,d) else p) else l ++ [(k,d)]
end
section
variable {A:Av}{H:Hp}
section
variable {κ:Type}[DecidableEq κ]
noncomputable abbrev PP(A:Av)(H:Hp):List (κ × D)->List (κ × V)->Prop:=Paired fun (p:κ × D) (q:κ × V)=>p.1=q.1/\Rep A H p.2 q.2
theorem qfY:∀ {l:List (κ × D)} {xs:List (κ × V)},xs.map (·.1)=l.map (·.1)->RepL A H (l.map (·.2)) (xs.map (·.2))->PP A H l xs
 | [],[],_,_=>.nil
 | [],_ :: _,e,_=>by cases e
 | _ :: _,[],e,_=>by cases e
 | p :: l,q :: xs,e,r=>by
  rw[zaf,zaf] at e r
  injection e with e1 e2
  cases r with
  | cons h t=>exact .cons ⟨e1.symm,h⟩ (qfY e2 t)
theorem qjV:∀ {l:List (κ × D)} {xs:List (κ × V)},PP A H l xs->xs.map (·.1)=l.map (·.1)/\RepL A H (l.map (·.2)) (xs.map (·.2))
 | _,_,.nil=>⟨rfl,.nil⟩
 | _,_,.cons h t=>by
  obtain⟨e,r⟩:=qjV t
  exact⟨by rw[zaf,zaf,h.1,e],.cons h.2 r⟩
theorem qlc{l:List (κ × D)}{xs:List (κ × V)}(k:κ)(h:PP A H l xs):(valD l k=none/\valV xs k=none)\/∃ d v,valD l k=some d/\valV xs k=some v/\Rep A H d v:=by
 induction h with
 | nil=>exact .inl ⟨rfl,rfl⟩
 | @cons p q l xs h t ih=>
  by_cases e:p.1=k
  ·refine .inr ⟨p.2,q.2,?_,qar (h.1 ▸ e),h.2⟩
   simp[valD,zbf,e]
  ·have e':¬ q.1=k:=fun z=>e (h.1.trans z)
   have a:valD (p :: l) k=valD l k:=by simp[valD,zbf,e]
   rw[a,qat e']
   exact ih
theorem qnU{l:List (κ × D)}{xs:List (κ × V)}(k:κ)(h:PP A H l xs):(l.any fun p=>decide (p.1=k))=xs.any fun p=>decide (p.1=k):=by
 induction h with
 | nil=>rfl
 | cons h t ih=>rw[List.any_cons,List.any_cons,ih,h.1]
theorem qnS{l:List (κ × D)}{xs:List (κ × V)}(k:κ){d:D}{v:V}(r:Rep A H d v)(h:PP A H l xs):PP A H (l.map fun p=>if p.1=k then (p.1,d) else p) (xs.map fun p=>if p.1=k then (p.1,v) else p):=by
 induction h with
 | nil=>exact .nil
 | @cons p q l xs h t ih=>
  rw[zaf,zaf]
  refine .cons ?_ ih
  by_cases e:p.1=k
  ·rw[if_pos e,if_pos (h.1 ▸ e)]; exact⟨h.1,r⟩
  ·rw[if_neg e,if_neg (fun z=>e (h.1.trans z))]; exact h
theorem qnP{l:List (κ × D)}{xs:List (κ × V)}{m:List (κ × D)}{ys:List (κ × V)}(h:PP A H l xs)(h':PP A H m ys):PP A H (l ++ m) (xs ++ ys):=by
 induction h with
 | nil=>exact h'
 | cons h t ih=>exact .cons h ih
theorem qi7{l:List (κ × D)}{xs:List (κ × V)}(k:κ){d:D}{v:V}(r:Rep A H d v)(h:PP A H l xs):PP A H (putD l k d) (putK xs k v):=by
 unfold putD putK
 rw[qnU k h]
 by_cases e:(xs.any fun p=>decide (p.1=k))=true
 ·rw[if_pos e,if_pos e]; exact qnS k r h
 ·rw[if_neg e,if_neg e]; exact qnP h (.cons ⟨rfl,r⟩ .nil)
end
theorem qfN{d:D}{k:Key}{v:V}(h:asK d=some k)(r:RepB A H d v):v=kV k:=by
 cases d <;> cases h
 ·exact r.int_inv
 ·exact r.str_inv
theorem qgv:∀ {ds:List D} {ks:List Key} {vs:List V},asKs ds=some ks->RepL A H ds vs->vs=ks.map kV
 | _,_,_,h,.nil=>by cases h; rfl
 | _,_,_,h,.cons r t=>by
  obtain⟨k,e1,h⟩:=bind_some h
  obtain⟨ks,e2,h⟩:=bind_some h
  cases h
  rw[zaf,qfN e1 (.of r),qgv e2 t]
theorem qeF{d:D}{k:List Key}{v:V}(h:asT d=some k)(r:RepB A H d v):∃ b,v=.ref b/\H b=some (.tup (k.map kV)):=by
 cases d <;> try cases h
 rename_i l
 obtain⟨a,xs,rfl,h1,h2⟩:=r.tup_inv
 exact⟨a,rfl,by rw[h1,qgv h h2]⟩
noncomputable def qbT:D->D->Option (Option D)
 | .dK l,k=>(asK k).map fun k=>valD l k
 | .dT l,k=>(asT k).map fun k=>valD l k
 | _,_=>none
theorem qdX{d k:D}{x y:V}{o:Option D}(h:qbT d k=some o)(rx:RepB A H d x)(ry:RepB A H k y):∃ a ov,x=.ref a/\IsD H a/\DGet H a y ov/\((o=none/\ov=none)\/∃ z v,o=some z/\ov=some v/\Rep A H z v):=by
 cases d with
 | dK l=>
  obtain⟨kk,e1,rfl⟩:=map_some h
  obtain⟨a,xs,rfl,h1,e,r⟩:=rx.dK_inv
  have:=qfN e1 ry
  subst this
  refine⟨a,_,rfl,.inl ⟨xs,h1⟩,.inl ⟨xs,kk,h1,rfl,rfl⟩,qlc kk (qfY e r)⟩
 | dT l=>
  obtain⟨kk,e1,rfl⟩:=map_some h
  obtain⟨a,xs,rfl,h1,e,r⟩:=rx.dT_inv
  obtain⟨b,rfl,hb⟩:=qeF e1 ry
  exact⟨a,_,rfl,.inr ⟨xs,h1⟩,.inr ⟨xs,kk,b,h1,rfl,hb,rfl⟩,qlc kk (qfY e r)⟩
 | _=>cases h
end
section
variable {X:Cx}{O O':List Nat}{L:Lp}
theorem PE.or{e:Expr}{t u:TE}(h:PE X e t)(k:PE X e u):PE X e (fun σ H Q=>t σ H Q\/u σ H Q):=fun pins s σ H Q I w=>w.elim (h pins s σ H Q I) (k pins s σ H Q I)
noncomputable def qU(d k:D):Option D:=match d with
 | .dK _=>(qbT d k).join
 | .dT _=>(qbT d k).join
 | _=>dIx d k
theorem qdK{α:Type}{o:Option (Option α)}{d:α}(h:o.join=some d):o=some (some d):=by
 cases o with
 | none=>cases h
 | some o=>cases o with
  | none=>cases h
  | some x=>cases h; rfl
theorem qgq{fa fb:Ev}{σ:L2.St}{H:Hp}{Q:VK}(h:tD Rep O (eOp (fun d k=>(qbT d k).join) fa fb) σ H Q):qnt (tD RepB O fa) (tD RepB O fb) σ H Q:=by
 obtain⟨H0,A0,A,E,ρ,d,st,e,q⟩:=h
 obtain⟨x,ex,e⟩:=bind_some e
 obtain⟨y,ey,e⟩:=bind_some e
 refine⟨H0,A0,A,E,ρ,x,st,ex,fun v H1 x1 r1=>⟨H0,A0,A,E,ρ,y,st.mono x1,ey,fun w H2 x2 r2=>?_⟩⟩
 obtain⟨a,ov,e1,_,g,e2⟩:=qdX (qdK e) (r1.ext x2) r2
 rcases e2 with⟨e2,_⟩ | ⟨z,v',e2,e3,r3⟩
 ·cases e2
 ·cases e2; subst e3
  exact⟨a,v',e1,g,q v' H2 (x1.trans x2) r3⟩
theorem qW{a b:Expr}{pos:Pos}{fa fb:Ev}(hu:X.A.units + 1 < cLine)(ha:PB X O a fa)(hb:PB X O b fb)(hs:qir b):PD X O (.Subscript a b pos) (eOp qU fa fb):=
 PE.mono (PE.or (qoS ix_D ha hb hs) (qlR hu ha hb hs)) <| by
  rintro σ H Q ⟨H0,A0,A,E,ρ,d,st,e,q⟩
  obtain⟨x,ex,e'⟩:=bind_some e
  obtain⟨y,ey,e'⟩:=bind_some e'
  have key:∀ g:D->D->Option D,g x y=some d->tD Rep O (eOp g fa fb) σ H Q:=fun g h=>⟨H0,A0,A,E,ρ,d,st,by unfold eOp; rw[ex,ey]; exact h,q⟩
  cases x with
  | dK l=>exact .inr (qgq (key _ e'))
  | dT l=>exact .inr (qgq (key _ e'))
  | _=>exact .inl (qgL (key dIx e'))
noncomputable def qbI(fd fk fe:Ev):Ev:=fun ρ=>(fd ρ).bind fun d=>(fk ρ).bind fun k=>(fe ρ).bind fun e=>(qbT d k).map fun o=>o.getD e
theorem qnQ{A:Av}{H:Hp}{d:D}{v:V}(k:D){o:Option D}(h:qbT d k=some o)(r:RepB A H d v):∃ a,v=.ref a/\IsD H a:=by
 cases d with
 | dK l=>obtain⟨a,xs,rfl,h1,_⟩:=r.dK_inv; exact⟨a,rfl,.inl ⟨xs,h1⟩⟩
 | dT l=>obtain⟨a,xs,rfl,h1,_⟩:=r.dT_inv; exact⟨a,rfl,.inr ⟨xs,h1⟩⟩
 | _=>cases h
theorem qbV{o e f:Expr}{apos cpos:Pos}{fd fk fe:Ev}(hu:X.A.units + 1 < cLine)(ho:PB X O o fd)(he:PB X O e fk)(hf:PD X O f fe)(m:M2 X o "get" apos e f cpos):PD X O (.Call (.Attribute o "get" apos) [e,f] [] cpos) (qbI fd fk fe):=
 PE.mono (qkg hu ho he hf m) <| by
  rintro σ H Q ⟨H0,A0,A,E,ρ,d,st,e,q⟩
  obtain⟨x,ex,e⟩:=bind_some e
  obtain⟨y,ey,e⟩:=bind_some e
  obtain⟨z,ez,e⟩:=bind_some e
  obtain⟨ov,eo,rfl⟩:=map_some e
  refine⟨H0,A0,A,E,ρ,x,st,ex,fun v H1 x1 r1=>?_⟩
  obtain⟨a,e1,isd⟩:=qnQ y eo r1
  refine⟨a,e1,isd,H0,A0,A,E,ρ,y,st.mono x1,ey,fun w H2 x2 r2=>⟨H0,A0,A,E,ρ,z,st.mono (x1.trans x2),ez,fun u H3 x3 r3=>?_⟩⟩
  obtain⟨a',ov',e2,_,g,e3⟩:=qdX eo (r1.ext (x2.trans x3)) (r2.ext x3)
  rw[e1] at e2; cases e2
  refine⟨ov',g,?_⟩
  rcases e3 with⟨rfl,rfl⟩ | ⟨z',v',rfl,rfl,r4⟩
  ·exact q u H3 ((x1.trans x2).trans x3) r3
  ·exact q v' H3 ((x1.trans x2).trans x3) r4
noncomputable def dPut(d k e:D):Option D:=match d with
 | .dK l=>(asK k).bind fun k=>if szOk l.length then some (.dK (putD l k e)) else none
 | .dT l=>(asT k).bind fun k=>if szOk l.length then some (.dT (putD l k e)) else none
 | .lst l=>(asI k).bind fun k=>(ixN l.length k).map fun j=>.lst (l.set j e)
 | _=>none
noncomputable def sPut(i:Nat)(fk fe:Ev):Sv:=fun ρ=>(fe ρ).bind fun e=>(eVar i ρ).bind fun x=>(fk ρ).bind fun k=>(dPut x k e).map fun d=>.nx (ρ.set i (some d))
theorem PS.or{st:Stmt}{t u:TS}(h:PS X st t)(k:PS X st u):PS X st (fun T σ H=>t T σ H\/u T σ H):=fun pins s σ H T I w=>w.elim (h pins s σ H T I) (k pins s σ H T I)
theorem qbQ{o k value:Expr}{i:Nat}{pos pos':Pos}{fk fe:Ev}(hu:X.A.units + 1 < cLine)(ho:PE X o (tVar i))(hk:PB X O k fk)(hv:PD X O value fe)(hO:mem O i=true)(h:Sub O' O=true:=by rfl)
  (hs:swapsWith value (some (.Subscript o k pos')) pos.line X.env=pure false:=by rfl) (hs2:swapsWithSole [.Subscript o k pos'] value pos.line X.env=pure false:=by rfl) (hw:swappedStores [.Subscript o k pos'] value X.env=pure none:=by rfl)
  (hg:∀ {to ti:TE} {t:TSet},PE X o to->PE X k ti->PSet X t->PG X (.Subscript o k pos') (gSub to ti t):=by intro _ _ _ a b c; exact qoe a b c) :
  PSD X L O (.Assign [.Subscript o k pos'] value pos) (sPut i fk fe) O':=
 PS.mono (PS.or (qmB hu ho hk hv hs) (qkR hv (hg ho hk set_list) hs2 hw)) <| by
  rintro T σ H ⟨H0,A0,A,E,ρ,out,st,e,p⟩
  obtain⟨z,ez,e⟩:=bind_some e
  obtain⟨x,ex,e⟩:=bind_some e
  obtain⟨y,ey,e⟩:=bind_some e
  obtain⟨d,ed,rfl⟩:=map_some e
  obtain⟨a,e1,e2,e3,e4⟩:=st.own i _ (qaB ex) (qbz hO)
  cases x with
  | dK l=>
   obtain⟨kk,e5,e6⟩:=bind_some ed
   by_cases hz:szOk l.length=true
   ·rw[if_pos hz] at e6; cases e6
    refine .inl ⟨H0,A0,A,E,ρ,z,st,ez,fun v H1 x1 r1=>⟨_,e1,H0,A0,A,E,ρ,y,st.mono x1,ey,fun w H2 x2 r2=>?_⟩⟩
    have x12:=x1.trans x2
    cases e4 with
    | @dK _ _ xs h4 ee r4=>
     have hu:=x12.ow _ _ e2 h4
     have hl:xs.length=l.length:=by have:=congrArg zbI ee; simpa using this
     have:=qfN e5 r2
     subst this
     refine⟨a,_,rfl,DPut.k hu (by rw[hl]; exact qd0 hz),?_⟩
     obtain⟨e7,r7⟩:=qjV (qi7 kk (r1.ext x2) (qfY ee (r4.ext x12)))
     obtain⟨A',st'⟩:=((st.mono x12).write (o:=.dK _) (qaB ex) (qbz hO) e1 e2 e3 hu trivial (.dK qw e7 (r7.put e2 hu trivial))).shut (Sub.mem h)
     exact p A' σ _ st'
   ·rw[if_neg hz] at e6; cases e6
  | dT l=>
   obtain⟨kk,e5,e6⟩:=bind_some ed
   by_cases hz:szOk l.length=true
   ·rw[if_pos hz] at e6; cases e6
    refine .inl ⟨H0,A0,A,E,ρ,z,st,ez,fun v H1 x1 r1=>⟨_,e1,H0,A0,A,E,ρ,y,st.mono x1,ey,fun w H2 x2 r2=>?_⟩⟩
    have x12:=x1.trans x2
    cases e4 with
    | @dT _ _ xs h4 ee r4=>
     have hu:=x12.ow _ _ e2 h4
     have hl:xs.length=l.length:=by have:=congrArg zbI ee; simpa using this
     obtain⟨b,rfl,hb⟩:=qeF e5 r2
     refine⟨a,_,rfl,DPut.t hu hb (by rw[hl]; exact qd0 hz),?_⟩
     obtain⟨e7,r7⟩:=qjV (qi7 kk (r1.ext x2) (qfY ee (r4.ext x12)))
     obtain⟨A',st'⟩:=((st.mono x12).write (o:=.dT _) (qaB ex) (qbz hO) e1 e2 e3 hu trivial (.dT qw e7 (r7.put e2 hu trivial))).shut (Sub.mem h)
     exact p A' σ _ st'
   ·rw[if_neg hz] at e6; cases e6
  | lst l=>
   obtain⟨kk,e5,e6⟩:=bind_some ed
   obtain⟨j,e7,rfl⟩:=map_some e6
   refine .inr ⟨H0,A0,A,E,ρ,z,st,ez,fun v H1 x1 r1=>⟨_,e1,H0,A0,A,E,ρ,y,st.mono x1,ey,fun w H2 x2 r2=>?_⟩⟩
   have x12:=x1.trans x2
   cases e4 with
   | @lst _ _ xs h4 r4=>
    have hu:=x12.ow _ _ e2 h4
    rw[qcU e5] at r2
    have:=r2.int_inv
    subst this
    refine⟨a,xs,kk,j,rfl,rfl,hu,by rw[r4.length]; exact e7,?_⟩
    obtain⟨A',st'⟩:=((st.mono x12).write (o:=.lst _) (qaB ex) (qbz hO) e1 e2 e3 hu trivial (.lst qw (((r4.ext x12).set j (r1.ext x2)).put e2 hu trivial))).shut (Sub.mem h)
    exact p A' σ _ st'
  | _=>cases ed
noncomputable def dI2(g:Int->Int->Option D):D->D->Option D
 | .int i,.int j=>g i j
 | _,_=>none
theorem qek{g:Int->Int->Option D}{x y d:D}(h:dI2 g x y=some d):∃ i j,x=.int i/\y=.int j/\g i j=some d:=by
 cases x <;> cases y <;> first | (cases h; done) | exact⟨_,_,rfl,rfl,h⟩
theorem qgs{f:Value->Value->Sem Value}{C:Int->Int->Prop}[∀ i j,Decidable (C i j)]{g:Int->Int->Int}(h:OpR X f (rI C fun i j=>.int (g i j))):OpX X f (dI2 fun i j=>if C i j then some (.int (g i j)) else none):=
 OpR.mono h <| by
  rintro x y H Q ⟨A,dx,dy,d,lv,rx,ry,e,q⟩
  obtain⟨i,j,rfl,rfl,e'⟩:=qek e
  have:=rx.int_inv; subst this
  have:=ry.int_inv; subst this
  by_cases hc:C i j
  ·rw[if_pos hc] at e'; cases e'
   exact⟨i,j,rfl,rfl,hc,q _ H (Ext.refl _ _) (.int _)⟩
  ·rw[if_neg hc] at e'; cases e'
theorem qmh{f:Value->Value->Sem Value}{g:Int->Int->Int}(h:OpR X f (rI0 fun i j=>.int (g i j))):OpX X f (dI2 fun i j=>some (.int (g i j))):=
 OpR.mono h <| by
  rintro x y H Q ⟨A,dx,dy,d,lv,rx,ry,e,q⟩
  obtain⟨i,j,rfl,rfl,e⟩:=qek e
  have:=rx.int_inv; subst this
  have:=ry.int_inv; subst this
  cases e
  exact⟨i,j,rfl,rfl,q _ H (Ext.refl _ _) (.int _)⟩
theorem qgx{f:Value->Value->Sem Value}{g:Int->Int->Bool}(h:OpR X f (rI0 fun i j=>.bl (g i j))):OpX X f (dI2 fun i j=>some (.bl (g i j))):=
 OpR.mono h <| by
  rintro x y H Q ⟨A,dx,dy,d,lv,rx,ry,e,q⟩
  obtain⟨i,j,rfl,rfl,e⟩:=qek e
  have:=rx.int_inv; subst this
  have:=ry.int_inv; subst this
  cases e
  exact⟨i,j,rfl,rfl,q _ H (Ext.refl _ _) (.bl _)⟩
instance:∀ i j,Decidable (My.CBig i j):=fun i j=>by unfold My.CBig; infer_instance
instance:∀ i j,Decidable (CDiv i j):=fun i j=>by unfold CDiv; infer_instance
instance:∀ i j,Decidable (CPow i j):=fun i j=>by unfold CPow; infer_instance
noncomputable def dSub:D->D->Option D:=dI2 fun i j=>some (.int (i - j))
noncomputable def qjL:D->D->Option D:=dI2 fun i j=>if My.CBig i j then some (.int (i * j)) else none
noncomputable def dMod:D->D->Option D:=dI2 fun i j=>if 0 < j then some (.int (i % j)) else none
noncomputable def dDiv:D->D->Option D:=dI2 fun i j=>if CDiv i j then some (.int (i / j)) else none
noncomputable def dPow:D->D->Option D:=dI2 fun i j=>if CPow i j then some (.int (i ^ j.toNat)) else none
noncomputable def dGtI:D->D->Option D:=dI2 fun i j=>some (.bl (decide (j < i)))
noncomputable def dGeI:D->D->Option D:=dI2 fun i j=>some (.bl (decide (j<=i)))
theorem qcG:OpX X (zaQ .Sub) dSub:=qmh qnH
theorem qna:OpX X (zaQ .Mult) qjL:=qgs My.qlZ
theorem qaJ:OpX X (zaQ .Mod) dMod:=qgs qm8
theorem qc2:OpX X (zaQ .FloorDiv) dDiv:=qgs qlC
theorem qg4:OpX X (zaQ .Pow) dPow:=qgs qnC
theorem qoQ:OpX X (zaL .Gt) dGtI:=qgx qoV
theorem qo1:OpX X (zaL .GtE) dGeI:=qgx qo6
noncomputable def eNeg(f:Ev):Ev:=fun ρ=>(f ρ).bind fun d=>(asI d).map fun i=>.int (-i)
theorem qla{a:Expr}{pos:Pos}{f:Ev}(ha:PB X O a f):PD X O (.UnaryOp .USub a pos) (eNeg f):=PE.mono (qpa qon ha) <| by
 rintro σ H Q ⟨H0,A0,A,E,ρ,d,st,e,q⟩
 obtain⟨x,ex,e⟩:=bind_some e
 obtain⟨i,ei,rfl⟩:=map_some e
 rw[qcU ei] at ex
 exact⟨H0,A0,A,E,ρ,_,st,ex,fun v H1 x1 r1=>⟨i,r1.int_inv,q _ H1 x1 (.int _)⟩⟩
end
section
variable {X:Cx}{L:Lp}{O O':List Nat}
noncomputable abbrev Gv:=D->Rho->Option Rho
inductive tDG(O:List Nat)(g:Gv)(v:V)(σ:L2.St)(H:Hp)(Q:L2.St->Hp->Prop):Prop
 | mk (H0:Hp) (A0 A:Av) (E:List Fact) (ρ:Rho) (d:D) (ρ':Rho) (st:ST H0 A0 A E O σ H ρ) (r:Rep A H d v) (e:g d ρ=some ρ') (q:∀ σ',ST H0 A0 A E O σ' H ρ'->Q σ' H):tDG O g v σ H Q
noncomputable def PDG(X:Cx)(O:List Nat)(tg:Expr)(g:Gv):Prop:=PG X tg (tDG O g)
noncomputable abbrev Gsv:=List D->Rho->Option Rho
inductive tDGs(O:List Nat)(g:Gsv)(vs:List V)(σ:L2.St)(H:Hp)(Q:L2.St->Hp->Prop):Prop
 | mk (H0:Hp) (A0 A:Av) (E:List Fact) (ρ:Rho) (ds:List D) (ρ':Rho) (st:ST H0 A0 A E O σ H ρ) (r:RepL A H ds vs) (e:g ds ρ=some ρ') (q:∀ σ',ST H0 A0 A E O σ' H ρ'->Q σ' H):tDGs O g vs σ H Q
noncomputable def PDGs(X:Cx)(O:List Nat)(ts:List Expr)(g:Gsv):Prop:=PGs X ts (tDGs O g)
theorem PG.mono{tg:Expr}{t t':TG}(h:PG X tg t)(x:∀ v σ H Q,t' v σ H Q->t v σ H Q):PG X tg t':=fun pins s σ H v u Q I r w=>h pins s σ H v u Q I r (x v σ H Q w)
theorem PGs.mono{ts:List Expr}{t t':TGs}(h:PGs X ts t)(x:∀ v σ H Q,t' v σ H Q->t v σ H Q):PGs X ts t':=fun pins s σ H v u Q I r w=>h pins s σ H v u Q I r (x v σ H Q w)
noncomputable def qg(i:Nat):Gv:=fun d ρ=>some (ρ.set i (some d))
theorem qx{i:Nat}{tg:Expr}(h:PG X tg (qhl i))(n:O.contains i=false:=by rfl):PDG X O tg (qg i):=PG.mono h <| by
 rintro v σ H Q ⟨H0,A0,A,E,ρ,d,ρ',st,r,e,q⟩
 cases e
 exact q _ (st.put r fun z=>by
  have:O.contains i=true:=by simpa using z
  rw[n] at this; cases this)
noncomputable def qaf:Gsv:=fun ds ρ=>match ds with
 | []=>some ρ
 | _=>none
noncomputable def qu(g:Gv)(k:Gsv):Gsv:=fun ds ρ=>match ds with
 | d :: ds=>(g d ρ).bind fun ρ'=>k ds ρ'
 | _=>none
theorem qas:PDGs X O [] qaf:=PGs.mono qlU <| by
 rintro v σ H Q ⟨H0,A0,A,E,ρ,ds,ρ',st,r,e,q⟩
 cases r with
 | nil=>cases e; exact⟨rfl,q _ st⟩
 | cons _ _=>cases e
theorem qC{e:Expr}{es:List Expr}{g:Gv}{k:Gsv}(hp:∀ {t:TG} {u:TGs},PG X e t->PGs X es u->PGs X (e :: es) (qmW t u))(h1:PDG X O e g)(h2:PDGs X O es k):PDGs X O (e :: es) (qu g k):=
 PGs.mono (hp h1 h2) <| by
  rintro v σ H Q ⟨H0,A0,A,E,ρ,ds,ρ',st,r,e,q⟩
  cases r with
  | nil=>cases e
  | cons h t=>
   obtain⟨ρ1,e1,e⟩:=bind_some e
   exact⟨_,_,rfl,H0,A0,A,E,ρ,_,ρ1,st,h,e1,fun σ1 st1=>⟨H0,A0,A,E,ρ1,_,ρ',st1,t,e,q⟩⟩
noncomputable def qac(n:Nat)(k:Gsv):Gv:=fun d ρ=>match d with
 | .tup l=>if l.length=n then k l ρ else none
 | _=>none
theorem qaM{tg:Expr}{n:Nat}{k:Gsv}(hp:PG X tg (gTup X.K n (tDGs O k))):PDG X O tg (qac n k):=PG.mono hp <| by
 rintro v σ H Q ⟨H0,A0,A,E,ρ,d,ρ',st,r,e,q⟩
 cases d with
 | tup l=>
  obtain⟨a,xs,rfl,h,rl⟩:=RepB.tup_inv (.of r)
  by_cases hn:l.length=n
  ·simp only[qac,if_pos hn] at e
   exact⟨a,xs,rfl,.inl (.inl h),by rw[rl.length]; exact hn,H0,A0,A,E,ρ,l,ρ',st,rl,e,q⟩
  ·simp only[qac,if_neg hn] at e; cases e
 | _=>cases e
noncomputable def sAsg(f:Ev)(g:Gv):Sv:=fun ρ=>(f ρ).bind fun d=>(g d ρ).map .nx
theorem qmd{tg e:Expr}{pos:Pos}{f:Ev}{g:Gv}(he:PD X O e f)(hg:PDG X O tg g)(hs:swapsWithSole [tg] e pos.line X.env=pure false:=by rfl)(hw:swappedStores [tg] e X.env=pure none:=by rfl)(h:Sub O' O=true:=by rfl)(h1:(zbl [tg] X.env).map (·.2)=[assign tg X.env]:=by rfl)(h1:(zbl [tg] X.env).map (·.2)=[assign tg X.env]:=by rfl)(h1:(zbl [tg] X.env).map (·.2)=[assign tg X.env]:=by rfl)(h1:(zbl [tg] X.env).map (·.2)=[assign tg X.env]:=by rfl):PSD X L O (.Assign [tg] e pos) (sAsg f g) O':=
 PS.mono (qkR he hg hs hw h1) <| by
  rintro T σ H ⟨H0,A0,A,E,ρ,out,st,e,p⟩
  obtain⟨d,e1,e⟩:=bind_some e
  obtain⟨ρ',e2,rfl⟩:=map_some e
  refine⟨H0,A0,A,E,ρ,d,st,e1,fun v H' x r=>⟨H0,A0,A,E,ρ,d,ρ',st.mono x,r,e2,fun σ' st'=>?_⟩⟩
  obtain⟨A',st''⟩:=st'.shut (Sub.mem h)
  exact p A' σ' H' st''
noncomputable def ItOk(J:It)(E1:List Fact)(items:List D):Prop:=
 ∀ (A:Av) (H:Hp),Live A H->(∀ p∈E1,p.Holds A H)->∀ i,(items.length<=i->J.stop i H)/\∀ d,items[i]?=some d->J.go i H/\∀ x H',J.yld i H x H'->Ext A H H'/\Rep A H' d x
inductive tDI(O:List Nat)(f:Lv)(σ:L2.St)(H:Hp)(R:It->Hp->Prop):Prop
 | mk (H0:Hp) (A0 A:Av) (E:List Fact) (ρ:Rho) (items:List D) (st:ST H0 A0 A E O σ H ρ) (e:f ρ=some items) (q:∀ J H' E1,Ext A H H'->(∀ p∈E1,p.Holds A H')->ItOk J E1 items->R J H'):tDI O f σ H R
noncomputable def PDI(X:Cx)(O:List Nat)(tg e:Expr)(f:Lv):Prop:=PI X tg e (tDI O f)
theorem PI.mono{tg e:Expr}{t t':TI}(h:PI X tg e t)(x:∀ σ H Q,t' σ H Q->t σ H Q):PI X tg e t':=fun pins s σ H Q I w=>h pins s σ H Q I (x σ H Q w)
theorem PI.or{tg e:Expr}{t u:TI}(h:PI X tg e t)(k:PI X tg e u):PI X tg e (fun σ H Q=>t σ H Q\/u σ H Q):=fun pins s σ H Q I w=>w.elim (h pins s σ H Q I) (k pins s σ H Q I)
theorem qmz{a:Addr}{l:List D}{K:zad}:ItOk (Itl K a) [.rep (.lst l) (.ref a)] l:=by
 intro A H lv h i
 have r:Rep A H (.lst l) (.ref a):=h _ (List.mem_singleton.mpr rfl)
 obtain⟨a',xs,e,h1,rl⟩:=RepB.lst_inv (.of r)
 cases e
 refine⟨fun hi=>⟨xs,.inl h1,by rw[rl.length]; exact hi⟩,fun d hd=>?_⟩
 obtain⟨v,e1,r1⟩:=rl.get' hd
 refine⟨⟨xs,v,.inl h1,e1⟩,fun x H' y=>?_⟩
 obtain⟨rfl,y⟩:=y
 have:=y xs (.inl h1)
 rw[e1] at this; cases this
 exact⟨Ext.refl _ _,r1⟩
theorem qn3{a:Addr}{l:List D}{K:zad}:ItOk (Itt K a) [.rep (.tup l) (.ref a)] l:=by
 intro A H lv h i
 have r:Rep A H (.tup l) (.ref a):=h _ (List.mem_singleton.mpr rfl)
 obtain⟨a',xs,e,h1,rl⟩:=RepB.tup_inv (.of r)
 cases e
 refine⟨fun hi=>⟨xs,.inl (.inl h1),by rw[rl.length]; exact hi⟩,fun d hd=>?_⟩
 obtain⟨v,e1,r1⟩:=rl.get' hd
 refine⟨⟨xs,v,.inl (.inl h1),e1⟩,fun x H' y=>?_⟩
 obtain⟨rfl,y⟩:=y
 have:=y xs (.inl (.inl h1))
 rw[e1] at this; cases this
 exact⟨Ext.refl _ _,r1⟩
noncomputable def qai(lo c:Int)(n:Nat):List D:=(zbc n).map fun (i:Nat)=>.int (lo + (i:Int) * c)
theorem qaW(lo c:Int)(n:Nat):(qai lo c n).length=n:=by simp[qai]
theorem qaR{lo c:Int}{n i:Nat}{d:D}(h:(qai lo c n)[i]?=some d):i < n/\d=.int (lo + (i:Int) * c):=by
 unfold qai at h
 rw[zaz] at h
 by_cases hi:i < n
 ·rw[List.getElem?_range hi] at h; cases h; exact⟨hi,rfl⟩
 ·rw[List.getElem?_eq_none (by simpa using hi)] at h; cases h
theorem qiV{lo c:Int}{n:Nat}:ItOk (My.ItrS lo c n) [] (qai lo c n):=by
 intro A H lv h i
 refine⟨fun hi=>by rw[qaW] at hi; exact hi,fun d hd=>?_⟩
 obtain⟨hi,rfl⟩:=qaR hd
 exact⟨hi,fun x H' ⟨e,y⟩=>by subst e y; exact⟨Ext.refl _ _,.int _⟩⟩
theorem qjY{lo:Int}{n:Nat}:ItOk (Itr lo n) [] (qai lo 1 n):=by
 intro A H lv h i
 refine⟨fun hi=>by rw[qaW] at hi; exact hi,fun d hd=>?_⟩
 obtain⟨hi,rfl⟩:=qaR hd
 exact⟨hi,fun x H' ⟨e,y⟩=>by subst e y; rw[zbm]; exact⟨Ext.refl _ _,.int _⟩⟩
noncomputable def qc4(i:Int):Bool:=decide (-1000000<=i) && decide (i<=1000000)
noncomputable def qM:List D->Option (List D)
 | [.int j]=>if qc4 j then some (qai 0 1 j.toNat) else none
 | _=>none
noncomputable def qcv:List D->Option (List D)
 | [.int i,.int j,.int c]=>if c≠0/\c.natAbs < 1000/\zcb i j c=true then some (qai i c (My.rsz i j c)) else none
 | _=>none
theorem qgy{i:Int}(h:qc4 i=true):-(2 ^ 62)<=i/\i < 2 ^ 62:=by
 simp only[qc4,zaY,decide_eq_true_eq] at h
 omega
noncomputable def lR(g:List D->Option (List D))(f:Lv):Lv:=fun ρ=>(f ρ).bind g
theorem RL.one{R:RR}{A:Av}{H:Hp}{d:D}{vs:List V}(r:RL R A H [d] vs):∃ v,vs=[v]/\R A H d v:=by
 cases r with | cons h t=>cases t; exact⟨_,rfl,h⟩
theorem RL.two{R:RR}{A:Av}{H:Hp}{d e:D}{vs:List V}(r:RL R A H [d,e] vs):∃ v w,vs=[v,w]/\R A H d v/\R A H e w:=by
 cases r with | cons h t=>obtain⟨w,rfl,h2⟩:=RL.one t; exact⟨_,w,rfl,h,h2⟩
theorem RL.three{R:RR}{A:Av}{H:Hp}{d e f:D}{vs:List V}(r:RL R A H [d,e,f] vs):∃ v w u,vs=[v,w,u]/\R A H d v/\R A H e w/\R A H f u:=by
 cases r with | cons h t=>obtain⟨w,u,rfl,h2,h3⟩:=RL.two t; exact⟨_,w,u,rfl,h,h2,h3⟩
theorem qeU{ds l:List D}(h:qM ds=some l):∃ j,ds=[.int j]/\qc4 j=true/\l=qai 0 1 j.toNat:=by
 unfold qM at h
 split at h
 ·split at h
  ·cases h; exact⟨_,rfl,by assumption,rfl⟩
  ·cases h
 ·cases h
theorem qfp{ds l:List D}(h:qcv ds=some l):∃ i j c,ds=[.int i,.int j,.int c]/\(c≠0/\c.natAbs < 1000/\zcb i j c=true)/\l=qai i c (My.rsz i j c):=by
 unfold qcv at h
 split at h
 ·split at h
  ·cases h; exact⟨_,_,_,rfl,by assumption,rfl⟩
  ·cases h
 ·cases h
section
variable {tg a b c:Expr}{f:Lv}{p pos:Pos}
theorem qaS(hg:Gl X "range")(hm:X.mg "range" = none)(ha:PBA X O [a] f)(hs:zap [a] X.env=[(false,eval a X.env)]:=by rfl):PDI X O tg (.Call (.Name "range" p) [a] [] pos) (lR qM f):=PI.mono (qh7 hg hm ha hs) <| by
 rintro σ H R ⟨H0,A0,A,E,ρ,items,st,e,q⟩
 obtain⟨ds,e1,e⟩:=bind_some e
 refine⟨H0,A0,A,E,ρ,ds,st,e1,fun vs H1 x1 r1=>?_⟩
 obtain⟨j,rfl,h,rfl⟩:=qeU e
 obtain⟨v,rfl,h1⟩:=r1.one
 have:=h1.int_inv; subst this
 exact⟨j,rfl,(qgy h).1,(qgy h).2,q _ H1 [] x1 (fun _ h=>nomatch h) qjY⟩
theorem qhC(hg:Gl X "range")(hm:X.mg "range" = none)(ha:PBA X O [a,b,c] f)(hs:zap [a,b,c] X.env=[(false,eval a X.env),(false,eval b X.env),(false,eval c X.env)]:=by rfl)(hs2:zap [b,c] X.env=[(false,eval b X.env),(false,eval c X.env)]:=by rfl):PDI X O tg (.Call (.Name "range" p) [a,b,c] [] pos) (lR qcv f):=PI.mono (My.qjn hg hm ha hs hs2) <| by
 rintro σ H R ⟨H0,A0,A,E,ρ,items,st,e,q⟩
 obtain⟨ds,e1,e⟩:=bind_some e
 refine⟨H0,A0,A,E,ρ,ds,st,e1,fun vs H1 x1 r1=>?_⟩
 obtain⟨i,j,c',rfl,h,rfl⟩:=qfp e
 obtain⟨v,w,u,rfl,h1,h2,h3⟩:=r1.three
 have:=h1.int_inv; subst this
 have:=h2.int_inv; subst this
 have:=h3.int_inv; subst this
 exact⟨i,j,c',rfl,h,q _ H1 [] x1 (fun _ h=>nomatch h) qiV⟩
end
noncomputable def keyD:Key->D
 | .inl i=>.int i
 | .inr x=>.str x
noncomputable def lSeq(f:Ev):Lv:=fun ρ=>(f ρ).bind fun d=>match d with
 | .lst l=>some l
 | .tup l=>some l
 | .dT l=>some (l.map fun p=>.tup (p.1.map keyD))
 | _=>none
theorem qd6{A:Av}{H:Hp}:∀ k:List Key,RepL A H (k.map keyD) (k.map kV)
 | []=>.nil
 | .inl i :: k=>.cons (.int i) (qd6 k)
 | .inr x :: k=>.cons (.str x) (qd6 k)
noncomputable def qnq(tl:TE):TI:=fun σ H R=>tl σ H fun x H1=>∃ d kvs,x=.ref d/\((H1 d=some (.dT kvs)/\∀ o,R (My.ItD d o kvs) (upd H1 d (.frz o (.dT kvs))))\/∃ o,H1 d=some (.frz o (.dT kvs))/\R (My.ItD d o kvs) H1)
theorem qjC{tg l:Expr}{tl:TE}(hl:PE X l tl):PI X tg l (qnq tl):=by
 intro pins s σ H R I h
 refine thn (hl pins s σ H _ I h) fun v s1 ⟨x,H1,I1,r1,q1⟩=>?_
 obtain⟨d,kvs,rfl,q⟩:=q1
 cases r1
 have key:∀ (o:Obj) (H2:Hp),(d == za9)=false->Inv X pins σ H2 s1->s1.heap.get? d=some o->ObjOk X.prog X.w H2 s1.heap d (.dT kvs)->R (My.ItD d o kvs) H2->wpAny (model X.prog X.w) X.A (pyIter (.ref d)) (PIE X pins σ tg R) X.xe s1:=fun o H2 lo I2 ho ok q=>by
  obtain⟨_,_,es,ep,⟨o',r1,r2,r3⟩,hes,_⟩:=My.qe1 ok
  rw[ho] at r1; cases r1
  refine My.qgZ lo ⟨o,ho,r2,r3⟩ ?_
  refine⟨s1.heap.objs.size,[s1.heap.objs.size],_,_,_,rfl,I2.kept (t':=s1.toks) fun b o e=>zah _ e,My.qhS d _ o kvs es ep r3 hes,⟨_,zay _ rfl,rfl,rfl⟩,fun b hb=>?_,q⟩
  have e:b=s1.heap.objs.size:=by simpa using hb
  subst e
  exact I2.fpOk (zae _) (I2.hok.fresh (zae _))
 rcases q with⟨hd,q⟩ | ⟨o,hd,q⟩
 ·have ok:=(show ObjOk X.prog X.w H1 s1.heap d (.dT kvs) from I1.hok d _ hd)
  obtain⟨lo,_,es,ep,⟨o,r1,r2,r3⟩,hes,_⟩:=My.qe1 ok
  have I2:=My.qhb I1 hd r1
  have ok2:=(show ObjOk X.prog X.w _ s1.heap d (.frz o (.dT kvs)) from I2.hok d _ qw)
  exact key o _ lo I2 r1 ok2.2 (q o)
 ·have ok:=(show ObjOk X.prog X.w H1 s1.heap d (.frz o (.dT kvs)) from I1.hok d _ hd)
  obtain⟨lo,_⟩:=My.qe1 ok.2
  exact key o H1 lo I1 ok.1 ok.2 q
theorem qiv{a:Addr}{o:Obj}{xs:List (List Key × V)}{l:List (List Key × D)}(e:xs.map (·.1)=l.map (·.1)):ItOk (My.ItD a o xs) [.fz a o (.dT xs)] (l.map fun p=>.tup (p.1.map keyD)):=by
 intro A H lv h i
 have hf:H a=some (.frz o (.dT xs)):=h _ (List.mem_singleton.mpr rfl)
 have hl:xs.length=l.length:=by have:=congrArg zbI e; simpa using this
 refine⟨fun hi=>⟨hf,by rw[zaq] at hi; omega⟩,fun d hd=>?_⟩
 rw[zaz] at hd
 obtain⟨p,e1,rfl⟩:=map_some hd
 have hi:i < l.length:=(List.getElem?_eq_some_iff.mp e1).1
 refine⟨⟨hf,by omega⟩,fun x H' ⟨e2,k,v,b,e3,e4,e5⟩=>?_⟩
 subst e2 e4
 have:k=p.1:=by
  have h1:(xs.map (·.1))[i]?=some k:=by rw[zaz,e3]; rfl
  rw[e,zaz,e1] at h1
  exact(zaF h1).symm
 subst this
 exact⟨Ext.refl _ _,.tup e5 (qd6 _)⟩
theorem qly{A:Av}{H:Hp}{d:Addr}{o:Obj}{u:HO}(n:¬ A d)(hd:H d=some u)(ob:Obs u)(nk:¬ Kp u):Ext A H (upd H d (.frz o u)) where
 rd:=fun b w r=>by
  by_cases e:b=d
  ·subst e
   rcases r with r | ⟨q,r⟩
   ·rw[hd] at r; cases r; exact .inr ⟨o,qw⟩
   ·rw[hd] at r; cases r; exact ob.elim
  ·exact qbL e r
 kp:=fun b w k r=>by rw[qt (fun z=>by subst z; rw[hd] at r; cases r; exact nk k)]; exact r
 ow:=fun b w hb r=>by rw[qt (fun z=>n (by rw[<- z]; exact hb))]; exact r
 fz:=fun b q w r=>by rw[qt (fun z=>by subst z; rw[hd] at r; cases r; exact ob)]; exact r
theorem ql6{tg e:Expr}{f:Ev}(h:PD X O e f):PDI X O tg e (lSeq f):=PI.mono (PI.or (PI.or (qlP h) (qoo h)) (qjC h)) <| by
 rintro σ H R ⟨H0,A0,A,E,ρ,items,st,e,q⟩
 obtain⟨d,e1,e⟩:=bind_some e
 cases d with
 | lst l=>
  cases e
  refine .inl (.inl ⟨H0,A0,A,E,ρ,_,st,e1,fun v H1 x1 r1=>?_⟩)
  obtain⟨a,xs,rfl,h1,rl⟩:=RepB.lst_inv (.of r1)
  exact⟨a,rfl,⟨xs,.inl h1⟩,q _ H1 [.rep (.lst items) (.ref a)] x1 (fun p hp=>by rw[List.mem_singleton.mp hp]; exact r1) qmz⟩
 | tup l=>
  cases e
  refine .inl (.inr ⟨H0,A0,A,E,ρ,_,st,e1,fun v H1 x1 r1=>?_⟩)
  obtain⟨a,xs,rfl,h1,rl⟩:=RepB.tup_inv (.of r1)
  exact⟨a,rfl,⟨xs,.inl (.inl h1)⟩,q _ H1 [.rep (.tup items) (.ref a)] x1 (fun p hp=>by rw[List.mem_singleton.mp hp]; exact r1) qn3⟩
 | dT l=>
  cases e
  refine .inr ⟨H0,A0,A,E,ρ,_,st,e1,fun v H1 x1 r1=>?_⟩
  cases r1 with
  | @dT _ a xs n h ee rl=>
   refine⟨a,xs,rfl,?_⟩
   rcases h with h | ⟨o,h⟩
   ·refine .inl ⟨h,fun o=>q _ _ [.fz a o (.dT xs)] (x1.trans (qly n h trivial fun z=>z)) (fun p hp=>by rw[List.mem_singleton.mp hp]; exact qw) (qiv ee)⟩
   ·exact .inr ⟨o,h,q _ H1 [.fz a o (.dT xs)] x1 (fun p hp=>by rw[List.mem_singleton.mp hp]; exact h) (qiv ee)⟩
 | _=>cases e
noncomputable def forD(g:Gv)(body:Sv):List D->Rho->Option Out
 | [],ρ=>some (.nx ρ)
 | x :: xs,ρ=>(g x ρ).bind fun ρ1=>(body ρ1).bind fun o=>match o with
  | .nx ρ2=>forD g body xs ρ2
  | .ct ρ2=>forD g body xs ρ2
  | .bk ρ2=>some (.nx ρ2)
  | .rt d=>some (.rt d)
noncomputable def sFor(f:Lv)(g:Gv)(body:Sv):Sv:=fun ρ=>(f ρ).bind fun items=>forD g body items ρ
theorem ST.both{H0:Hp}{A0 A:Av}{E E1:List Fact}{σ:L2.St}{H:Hp}{ρ:Rho}(s:ST H0 A0 A E O σ H ρ)(h:∀ p∈E1,p.Holds A H):ST H0 A0 A (E1 ++ E) O σ H ρ:=
 { s with ext:=fun p hp=>by rcases List.mem_append.mp hp with e | e; exact h p e; exact s.ext p e }
theorem qae{tg iter:Expr}{body:List Stmt}{pos:Pos}{f:Lv}{g:Gv}{b:Sv}{O1 Ob:List Nat}(hp:PassesOwn (model X.prog X.w) X.A X.env X.xe)(hc:X.calm=true)(hi:PDI X O tg iter f)(hg:PDG X O1 tg g)(hb:PSDs X ⟨Ob,O1⟩ O1 body b O1)(h1:Sub O1 O=true)(h2:Sub O' O1=true)(h3:Sub O' Ob=true)
  (hs:∀ x,foldedSetIterable iter X.env x=pure x:=by intro _; rfl):PSD X L O (.For tg iter body [] pos) (sFor f g b) O':=PS.mono (qnA hp hc hi hg hb hs) fun T σ H ⟨H0,A0,A,E,ρ,out,st,e,p⟩=>by
 obtain⟨items,e1,e⟩:=bind_some e
 refine⟨H0,A0,A,E,ρ,items,st,e1,fun J H1 E1 x1 hE1 J1=>?_⟩
 obtain⟨A1,st1⟩:=((st.mono x1).both hE1).shut (Sub.mem h1)
 refine⟨fun i m σ H=>m=items.length - i/\i<=items.length/\∃ ρ A,ST H0 A0 A (E1 ++ E) O1 σ H ρ/\forD g b (items.drop i) ρ=some out,⟨items.length,by simp,zau _,ρ,A1,st1,e⟩,?_⟩
 rintro i m σ H ⟨rfl,hle,ρ,A,st,e⟩
 have hE:∀ p∈E1,p.Holds A H:=fun p hp=>st.ext p (List.mem_append_left _ hp)
 obtain⟨stop,go⟩:=J1 A H st.live hE i
 have fin:∀ {O2:List Nat} {A:Av} {σ:L2.St} {H:Hp} {ρ:Rho},Sub O' O2=true->ST H0 A0 A (E1 ++ E) O2 σ H ρ->(∀ A σ H,ST H0 A0 A E O' σ H ρ->T.nx σ H)->T.nx σ H:=fun hs st k=>by
  obtain⟨A2,st2⟩:=(st.less (E':=E) fun q hq=>zbt _ hq).shut (Sub.mem hs)
  exact k A2 _ _ st2
 by_cases hlt:i < items.length
 ·have ed:items[i]?=some items[i]:=by simp[hlt]
  obtain⟨hgo,hy⟩:=go _ ed
  rw[zcp hlt] at e
  obtain⟨ρ1,eg,e⟩:=bind_some e
  obtain⟨o,eo,e⟩:=bind_some e
  refine .inr ⟨hgo,fun σ' H'=>∃ ρ2 A2,ST H0 A0 A2 (E1 ++ E) O1 σ' H' ρ2/\forD g b (items.drop (i + 1)) ρ2=some out,fun σ' H' ⟨ρ2,A2,s2,e2⟩=>⟨items.length - (i + 1),by omega,rfl,hlt,ρ2,A2,s2,e2⟩,fun x H' y=>?_⟩
  obtain⟨x2,r2⟩:=hy x H' y
  refine⟨H0,A0,A,E1 ++ E,ρ,_,ρ1,st.mono x2,r2,eg,fun σ1 s1=>⟨H0,A0,A,E1 ++ E,ρ1,o,s1,eo,?_⟩⟩
  cases o with
  | nx ρ2=>exact fun A2 σ2 H2 s2=>⟨ρ2,A2,s2,e⟩
  | ct ρ2=>exact fun A2 σ2 H2 s2=>⟨ρ2,A2,s2,e⟩
  | bk ρ2=>cases e; exact fun A2 σ2 H2 s2=>fin h3 s2 p
  | rt d=>cases e; exact p
 ·have hi':i=items.length:=by omega
  subst hi'
  rw[List.drop_length] at e
  cases e
  exact .inl ⟨stop (zae _),fin h2 st p⟩
end
noncomputable def clOf(cells:List (Str × Addr)):List (Str × NameKind)->List (Str × Addr)->List (Str × Addr)
 | [],cs=>cs
 | (x,k) :: r,cs=>clOf cells r (if k == .free then (x,(cells.lookup x).getD 0) :: cs else cs)
theorem qfr{env:Env}:∀ (names:List (Str × NameKind)) (cs:List (Str × Addr)),(∀ y∈names,y.2=.free->∃ c,env.cells.lookup y.1=some c)->
  (forIn names cs (fun (p:Str × NameKind) (r:List (Str × Addr))=>if (p.2 == .free)=true then (do let c <- cellOf env p.1; pure (zb6 ((p.1,c) :: r))) else (pure (zb6 r):Sem _)))=(pure (clOf env.cells names cs):Sem _)
 | [],cs,_=>by simp[clOf]
 | (x,k) :: r,cs,h=>by
  have ih:=fun cs=>qfr r cs fun y hy=>h y (zaw _ hy)
  rw[List.forIn_cons]
  by_cases e:(k == zbT)=true
  ·have e':k=.free:=by simpa using e
   obtain⟨c,hc⟩:=h (x,k) (zav ..) e'
   have hc':env.cells.lookup x=some c:=hc
   simp only[e,if_true,clOf]
   have:cellOf env x=pure c:=by unfold cellOf; rw[hc']
   rw[this]
   simp only[pure_bind,hc',Option.getD_some]
   exact ih _
  ·simp only[e,clOf]
   simp only[zbj,if_false,pure_bind]
   exact ih _
theorem qmk{scope:Scope}{env:Env}(h:∀ y∈scope.names,y.2=.free->∃ c,env.cells.lookup y.1=some c):closureFor scope env=pure (clOf env.cells scope.names []):=by
 have:=qfr scope.names [] h
 unfold closureFor
 simp only[bind_pure]
 exact this
theorem qgu{cells:List (Str × Addr)}{x:Str}:∀ {names:List (Str × NameKind)} {cs:List (Str × Addr)} {c:Addr},(clOf cells names cs).lookup x=some c->(∃ c',cs.lookup x=some c'/\c=c')\/((x,zbT)∈names/\c=(cells.lookup x).getD 0)
 | [],cs,c,h=>.inl ⟨c,h,rfl⟩
 | (y,k) :: r,cs,c,h=>by
  rw[clOf] at h
  rcases qgu h with⟨c',h1,h2⟩ | ⟨h1,h2⟩
  ·by_cases e:(k == zbT)=true
   ·rw[if_pos e,List.lookup_cons] at h1
    by_cases ex:(x == y)=true
    ·rw[ex] at h1
     have exy:x=y:=by simpa using ex
     have ek:k=.free:=by simpa using e
     subst exy ek
     cases h1
     exact .inr ⟨zav ..,h2⟩
    ·rw[Bool.not_eq_true] at ex
     rw[ex] at h1
     exact .inl ⟨c',h1,h2⟩
   ·rw[if_neg e] at h1
    exact .inl ⟨c',h1,h2⟩
  ·exact .inr ⟨zaw _ h1,h2⟩
theorem qgO{cells:List (Str × Addr)}{x:Str}:∀ {names:List (Str × NameKind)} {cs:List (Str × Addr)},((x,zbT)∈names\/∃ c,cs.lookup x=some c)->∃ c,(clOf cells names cs).lookup x=some c
 | [],cs,h=>h.elim (fun h=>nomatch h) id
 | (y,k) :: r,cs,h=>by
  rw[clOf]
  apply qgO
  rcases h with h | ⟨c,h⟩
  ·rcases List.mem_cons.mp h with e | e
   ·cases e
    refine .inr ⟨(cells.lookup x).getD 0,?_⟩
    simp[List.lookup_cons]
   ·exact .inl e
  ·right
   by_cases e:(k == zbT)=true
   ·rw[if_pos e,List.lookup_cons]
    by_cases ex:(x == y)=true
    ·rw[ex]; exact⟨_,rfl⟩
    ·rw[Bool.not_eq_true] at ex; rw[ex]; exact⟨c,h⟩
   ·rw[if_neg e]; exact⟨c,h⟩
theorem qa9{α:Type}{x:Str}{v:α}:∀ {l:List (Str × α)},l.lookup x=some v->(x,v)∈l
 | (y,w) :: r,h=>by
  rw[List.lookup_cons] at h
  by_cases ex:(x == y)=true
  ·rw[ex] at h; cases h; rw[show x=y by simpa using ex]; exact zav ..
  ·rw[Bool.not_eq_true] at ex; rw[ex] at h; exact zaw _ (qa9 h)
noncomputable def qoE(names outer:List (Str × NameKind)):Bool:=
 names.all fun y=>y.2 != .cell && (y.2 != .local || names.lookup y.1 == some .local) && (y.2 != .free || outer.lookup y.1 == some .cell)
theorem qfc{X:Cx}{N:List Str}{scope:Scope}{n:Nat}(hk:scope.kind=.function)(h:qoE scope.names X.env.scope.names=true)(hc:X.env.cells=cellsFrom n X.env.scope.names []):My.Clo X N scope (clOf X.env.cells scope.names []):=by
 have h':=List.all_eq_true.mp h
 have c1:∀ y∈scope.names,y.2≠.cell:=fun y hy=>by
  have:=h' y hy; simp only[zaY] at this; simpa using this.1.1
 have c2:∀ y∈scope.names,y.2=.local->scope.names.lookup y.1=some .local:=fun y hy e=>by
  have:=h' y hy; simp only[zaY,Bool.or_eq_true] at this
  rcases this.1.2 with z | z
  ·rw[e] at z; exact absurd z (by decide)
  ·simpa using z
 have c3:∀ y∈scope.names,y.2=.free->∃ c,X.env.cells.lookup y.1=some c:=fun y hy e=>by
  have:=h' y hy; simp only[zaY,Bool.or_eq_true] at this
  rcases this.2 with z | z
  ·rw[e] at z; exact absurd z (by decide)
  ·rw[hc]; exact qeh (sc:=X.env.scope) (by simpa using z)
 have free_of:∀ x,((relabel scope X.env).names.lookup x=some .cell\/(relabel scope X.env).names.lookup x=some .free)->(x,zbT)∈scope.names:=fun x hx=>by
  have key:∀ k',(k'=NameKind.cell\/k'=zbT)->(x,k')∈(relabel scope X.env).names->(x,zbT)∈scope.names:=fun k' hk' hm=>by
   obtain⟨⟨y,k⟩,hy,e⟩:=List.mem_map.mp hm
   dsimp only at e
   by_cases hcnd:(k == zbT && X.env.scope.kind == .function && X.env.kindOf y == some .cell)=true
   ·rw[if_pos hcnd] at e
    have:k=.free:=by simp only[zaY] at hcnd; simpa using hcnd.1.1
    cases e; subst this; exact hy
   ·rw[if_neg hcnd] at e
    cases e
    rcases hk' with z | z
    ·exact absurd z (c1 _ hy)
    ·subst z; exact hy
  rcases hx with hx | hx
  ·exact key _ (.inl rfl) (qa9 hx)
  ·exact key _ (.inr rfl) (qa9 hx)
 refine⟨qmk c3,hk,c1,c2,fun x c e=>?_,fun x hx=>qgO (.inl (free_of x hx))⟩
 rcases qgu e with⟨c',z,_⟩ | ⟨z1,z2⟩
 ·cases z
 ·obtain⟨c0,hc0⟩:=c3 _ z1 rfl
  have hc0:X.env.cells.lookup x=some c0:=hc0
  rw[z2,hc0]; rfl
noncomputable def qbY(X:Cx)(scope:Scope):List Str->List (Option Nat)->Prop
 | [],[]=>True
 | _ :: N,none :: ms=>qbY X scope N ms
 | x :: N,some i :: ms=>(X.N[i]?=some x/\((relabel scope X.env).names.lookup x == some NameKind.local)=false/\(X.env.kindOf x=some .cell\/X.env.kindOf x=some .free))/\qbY X scope N ms
 | _,_=>False
noncomputable def inS{α:Type}(ms:List (Option Nat))(σ:List (Option α)):List (Option α):=ms.map fun o=>o.bind fun i=>(σ[i]?).join
theorem qbU{X:Cx}{scope:Scope}:∀ {N:List Str} {ms:List (Option Nat)},qbY X scope N ms->ms.length=N.length/\∀ (j:Nat) (x:Str) (i:Nat),N[j]?=some x->ms[j]?=some (some i)->X.N[i]?=some x/\(relabel scope X.env).names.lookup x≠some .local/\(X.env.kindOf x=some .cell\/X.env.kindOf x=some .free)
 | [],[],_=>⟨rfl,fun j x i h _=>by simp at h⟩
 | y :: N,none :: ms,h=>by
  obtain⟨l,g⟩:=qbU (N:=N) (ms:=ms) h
  refine⟨by simp[l],fun j x i h1 h2=>?_⟩
  cases j with
  | zero=>simp at h2
  | succ j=>exact g j x i (by simpa using h1) (by simpa using h2)
 | y :: N,some k :: ms,h=>by
  obtain⟨l,g⟩:=qbU (N:=N) (ms:=ms) h.2
  refine⟨by simp[l],fun j x i h1 h2=>?_⟩
  cases j with
  | zero=>simp at h1 h2; subst h1 h2; exact⟨h.1.1,fun z=>by have:=h.1.2.1; rw[z] at this; exact absurd this (by decide),h.1.2.2⟩
  | succ j=>exact g j x i (by simpa using h1) (by simpa using h2)
 | [],_ :: _,h=>h.elim
 | _ :: _,[],h=>h.elim
theorem qh6{α:Type}{ms:List (Option Nat)}{σ:List (Option α)}{j:Nat}{v:α}(h:(inS ms σ)[j]?=some (some v)):∃ i:Nat,ms[j]?=some (some i)/\σ[i]?=some (some v):=by
 unfold inS at h
 rw[zaz] at h
 obtain⟨o,e1,e2⟩:=map_some h
 cases o with
 | none=>cases e2
 | some i=>exact⟨i,e1,qdK e2⟩
theorem qjE{X:Cx}{N:List Str}{scope:Scope}{ms:List (Option Nat)}(h:qbY X scope N ms)(σ:L2.St):My.Start X N scope σ (inS ms σ):=by
 obtain⟨l,g⟩:=qbU h
 refine⟨by unfold inS; rw[zaq]; exact l,fun j x v h1 h2 _=>?_⟩
 obtain⟨i,e1,e2⟩:=qh6 h2
 obtain⟨a,b,c⟩:=g j x i h1 e1
 exact⟨b,i,a,e2,c⟩
theorem ST.inner{H0:Hp}{A0 A:Av}{E:List Fact}{O:List Nat}{σ:L2.St}{H:Hp}{ρ:Rho}(s:ST H0 A0 A E O σ H ρ)(ms:List (Option Nat))(n:∀ i,some i∈ms->i ∉ O):ST H0 A0 A E [] (inS ms σ) H (inS ms ρ) where
 ex:=s.ex
 sub:=s.sub
 l0:=s.l0
 live:=s.live
 len:=by simp[inS]
 val:=fun j d h _=>by
  obtain⟨i,e1,e2⟩:=qh6 h
  obtain⟨v,e3,r⟩:=s.val i d e2 (n i (za4 e1))
  refine⟨v,?_,r⟩
  unfold inS
  rw[zaz,e1]
  show some ((σ[i]?).join)=_
  rw[e3]
  rfl
 own:=fun j d _ h=>nomatch h
 inj:=fun i j d d' a hi=>nomatch hi
 ext:=s.ext
noncomputable def qb2(g:Gv)(c:Bv)(f:Ev):List D->Rho->Option (List D)
 | [],_=>some []
 | x :: xs,ρ=>(g x ρ).bind fun ρ1=>(c ρ1).bind fun b=>if b=true then (f ρ1).bind fun d=>(qb2 g c f xs ρ1).bind fun ds=>some (d :: ds) else qb2 g c f xs ρ1
noncomputable def qdr(ms:List (Option Nat))(it:Lv)(g:Gv)(c:Bv)(f:Ev):Ev:=fun ρ=>(it ρ).bind fun items=>if szOk items.length then (qb2 g c f items (inS ms ρ)).map .lst else none
noncomputable def bYes:Bv:=fun _=>some true
theorem qcW{X:Cx}{O:List Nat}:My.PTs X [] (tDT O bYes):=fun pins s σ H Q I ⟨H0,A0,A,E,ρ,b,st,e,q⟩=>My.qlz pins s σ H Q I (by cases e; exact q H (Ext.refl _ _))
theorem qj4{X:Cx}{O:List Nat}{c:Expr}{g:Bv}(h:PDT X O c g):My.PTs X [c] (tDT O g):=My.qmR h
section
variable {X:Cx}{O:List Nat}
theorem qgJ{scope:Scope}{N:List Str}{ms:List (Option Nat)}{it:Lv}{g:Gv}{c:Bv}{f:Ev}(hst:qbY X scope N ms)(hn:(ms.all fun o=>match o with | some i=>!O.contains i | none=>true)=true)(σ:L2.St)(H:Hp)(Q:VK) :
  tF O (qdr ms it g c f) σ H Q->My.qml (tDI O it) (tDG [] g) (tDT [] c) (tD Rep [] f) (My.Start X N scope) σ H Q:=fun⟨H0,A0,A,E,ρ,d,st,e,q⟩=>by
 obtain⟨items,e1,e⟩:=bind_some e
 by_cases hz:szOk items.length=true
 case neg=>rw[if_neg hz] at e; cases e
 rw[if_pos hz] at e
 obtain⟨ds,e2,rfl⟩:=map_some e
 have hnO:∀ i,some i∈ms->i ∉ O:=fun i hi z=>by
  have:=List.all_eq_true.mp hn _ hi
  simp only[Bool.not_eq_true'] at this
  have z':O.contains i=true:=by simpa using z
  rw[z'] at this; cases this
 refine⟨inS ms σ,qjE hst σ,H0,A0,A,E,ρ,items,st,e1,fun J H1 E1 x1 hE1 J1 D hD=>?_⟩
 have lv1:=(st.mono x1).live
 have nA:¬ A D:=fun z=>lv1 D z hD
 have n0:H D=none:=x1.free hD
 -- the state of the block: the list that grows stands outside all that is borne
 refine⟨fun i m σ2 us H2=>m=items.length - i/\i<=items.length/\∃ ρ2 done rest,ST H0 A0 (fun b=>A b\/b=D) (E1 ++ E) [] σ2 H2 ρ2/\H2 D=some (.lst us)/\Ext A H H2/\RepL (fun b=>A b\/b=D) H2 done us/\qb2 g c f (items.drop i) ρ2=some rest/\done ++ rest=ds/\done.length<=i,⟨items.length,by simp,zau _,inS ms ρ,[],ds,?_,qw,x1.trans (Ext.new hD),.nil,e2,rfl,zae _⟩,?_⟩
 ·have s1:=((st.mono x1).both hE1).inner ms hnO
  have up:∀ a,(A a\/a=D)->A a\/H1 a=none:=fun a ha=>ha.imp id fun z=>by rw[z]; exact hD
  refine⟨s1.ex.trans (Ext.new hD),fun a ha=>.inl (s1.sub a ha),s1.l0,fun a ha=>?_,s1.len,fun i d h n=>?_,(fun i d _ h=>nomatch h),(fun i j d d' a hi=>nomatch hi),fun p hp=>Fact.ext (Ext.new hD) (Fact.av up (s1.ext p hp))⟩
  ·rcases ha with ha | ha
   ·rw[qt (fun z=>by subst z; exact nA ha)]; exact s1.live a ha
   ·subst ha; rw[qw]; exact fun z=>nomatch z
  ·obtain⟨v,h1,h2⟩:=s1.val i d h n
   exact⟨v,h1,(h2.av up).ext (Ext.new hD)⟩
 ·rintro i m σ2 us H2 ⟨rfl,hle,ρ2,done,rest,s2,hD2,x2,rd2,ec,ed,hdl⟩
  obtain⟨stop,go⟩:=J1 _ H2 s2.live (fun p hp=>s2.ext p (List.mem_append_left _ hp)) i
  by_cases hlt:i < items.length
  ·have eg:items[i]?=some items[i]:=by simp[hlt]
   obtain⟨hgo,hy⟩:=go _ eg
   rw[zcp hlt] at ec
   obtain⟨ρ3,e3,ec⟩:=bind_some ec
   obtain⟨b,e4,ec⟩:=bind_some ec
   have hlen:us.length < zal:=by
    rw[rd2.length]
    exact zbL hdl (zaP hlt (qbS hz))
   refine .inr ⟨hgo,hlen,fun x H3 y=>?_⟩
   obtain⟨x3,r3⟩:=hy x H3 y
   refine⟨H0,A0,_,E1 ++ E,ρ2,_,ρ3,s2.mono x3,r3,e3,fun σ3 s3=>⟨H0,A0,_,E1 ++ E,ρ3,b,s3,e4,fun H5 x5=>?_⟩⟩
   have x35:=x3.trans x5
   have hD5:H5 D=some (.lst us):=x35.ow D _ (.inr rfl) hD2
   have x25:Ext A H H5:=x2.trans (x35.mono fun a ha=>.inl ha)
   cases b with
   | false=>
    rw[if_neg zax] at ec
    exact iteF ⟨hD5,items.length - (i + 1),by omega,rfl,hlt,ρ3,done,rest,s3.mono x5,hD5,x25,rd2.ext x35,ec,ed,by omega⟩
   | true=>
    rw[if_pos rfl] at ec
    refine iteT ?_
    obtain⟨d,e6,ec⟩:=bind_some ec
    obtain⟨rest',e7,ec⟩:=bind_some ec
    cases ec
    refine⟨H0,A0,_,E1 ++ E,ρ3,d,s3.mono x5,e6,fun v H6 x6 r6=>?_⟩
    have x36:=x35.trans x6
    have hD6:H6 D=some (.lst us):=x36.ow D _ (.inr rfl) hD2
    refine⟨hD6,items.length - (i + 1),by omega,rfl,hlt,ρ3,done ++ [d],rest',?_,qw,?_,((rd2.ext x36).append (.cons r6 .nil)).put (.inr rfl) hD6 trivial,e7,by rw[<- ed]; simp,by rw[zbA]; show done.length + 1<=i + 1; omega⟩
    ·have s6:=s3.mono (x5.trans x6)
     have n00:H0 D=none:=st.ex.free n0
     have ne0:∀ b,H0 b≠none->b≠D:=fun b hb z=>hb (by rw[z]; exact n00)
     refine⟨⟨fun b w r=>qbL (ne0 b (by rcases r with r | ⟨_,r⟩ <;> (rw[r]; exact fun z=>nomatch z))) (s6.ex.rd b w r),fun b xs k r=>?_,fun b w n r=>?_,fun b q w r=>?_⟩,s6.sub,s6.l0,fun a ha=>?_,s6.len,fun i d h n=>?_,(fun i d _ h=>nomatch h),(fun i j d d' a hi=>nomatch hi),fun p hp=>Fact.put (.inr rfl) hD6 trivial (s6.ext p hp)⟩
     ·rw[qt (ne0 b (by rw[r]; exact fun z=>nomatch z))]; exact s6.ex.kp b xs k r
     ·rw[qt (ne0 b (by rw[r]; exact fun z=>nomatch z))]; exact s6.ex.ow b w n r
     ·rw[qt (ne0 b (by rw[r]; exact fun z=>nomatch z))]; exact s6.ex.fz b q w r
     ·by_cases z:a=D
      ·subst z; rw[qw]; exact fun z=>nomatch z
      ·rw[qt z]; exact s6.live a ha
     ·obtain⟨v,h1,h2⟩:=s6.val i d h n
      exact⟨v,h1,h2.put (.inr rfl) hD6 trivial⟩
    ·have x26:Ext A H H6:=x25.trans (x6.mono fun a ha=>.inl ha)
     have ne0:∀ b,H b≠none->b≠D:=fun b hb z=>hb (by rw[z]; exact n0)
     exact⟨fun b w r=>qbL (ne0 b (by rcases r with r | ⟨_,r⟩ <;> (rw[r]; exact fun z=>nomatch z))) (x26.rd b w r),
      fun b xs k r=>by rw[qt (ne0 b (by rw[r]; exact fun z=>nomatch z))]; exact x26.kp b xs k r,
      fun b w n r=>by rw[qt (ne0 b (by rw[r]; exact fun z=>nomatch z))]; exact x26.ow b w n r,
      fun b q w r=>by rw[qt (ne0 b (by rw[r]; exact fun z=>nomatch z))]; exact x26.fz b q w r⟩
  ·have hi':i=items.length:=by omega
   subst hi'
   rw[List.drop_length] at ec
   cases ec
   rw[List.append_nil] at ed
   subst ed
   exact .inl ⟨stop (zae _),q D H2 x2 n0 nA (.lst hD2 rd2)⟩
theorem qef{elt tg iter:Expr}{ifs:List Expr}{scope:Scope}{pos:Pos}{N:List Str}{cl:List (Str × Addr)}{ms:List (Option Nat)}{it:Lv}{g:Gv}{c:Bv}{f:Ev}
  (hc:X.calm=true) (cc:My.Clo X N scope cl) (hst:qbY X scope N ms) (hn:(ms.all fun o=>match o with | some i=>!O.contains i | none=>true)=true) (hi:PDI X O tg iter it) (hg:∀ C s H fp,PDG (My.qad X N scope cl C s H fp) [] tg g)
  (ht:∀ C s H fp,My.PTs (My.qad X N scope cl C s H fp) ifs (tDT [] c)) (he:∀ C s H fp,PD (My.qad X N scope cl C s H fp) [] elt f) (hs:∀ x,foldedSetIterable iter X.env x=pure x:=by intro _; rfl) :
  PF X O (.ListComp elt [⟨tg,iter,ifs,0⟩] scope pos) (qdr ms it g c f):=PE.mono (My.qmP hc cc hi hg ht he hs) (qgJ hst hn)
noncomputable def qz(n:Nat)(ds:List D):Rho:=ds.map some ++ List.replicate (n - ds.length) none
noncomputable def runD(n:Nat)(f:Sv)(ds:List D):Option D:=(f (qz n ds)).bind fun o=>match o with
 | .rt d=>some d
 | .nx _=>some .non
 | _=>none
theorem ST.begun{A:Av}{H:Hp}{N:List Str}{ds:List D}{vs:List V}(lv:Live A H)(r:RepL A H ds vs):ST H A A [] [] (L2.start N vs) H (qz N.length ds) where
 ex:=Ext.refl _ _
 sub:=fun _ h=>h
 l0:=lv
 live:=lv
 len:=by unfold L2.start qz; simp[r.length]
 val:=fun i d h _=>by
  unfold qz at h
  by_cases hi:i < ds.length
  ·rw[zcj (by simpa using hi),zaz] at h
   obtain⟨d',e1,e2⟩:=map_some h
   cases e2
   obtain⟨v,e3,r3⟩:=r.get' e1
   refine⟨v,?_,r3⟩
   unfold L2.start
   rw[zcj (by rw[zaq,r.length]; exact hi),zaz,e3]
   rfl
  ·rw[List.getElem?_append_right (by simpa using hi),List.getElem?_replicate] at h
   split at h <;> cases h
 own:=fun i d _ h=>nomatch h
 inj:=fun i j d d' a hi=>nomatch hi
 ext:=fun p hp=>nomatch hp
theorem qa2{P:zai}{w:World}{K:zad}{mg:Str->Option Value}{base:Heap}{x:Str}{st:Stmt}{N ps:List Str}{k:Nat}{f:Sv}{O':List Nat}(Df:My.DefAt K mg x st ps)(S:FnScope N ps (qi st))
  (h:∀ (fa:Addr) (cdv:Value) (A:Around) (outer:List Env) (s:Shared) (H:Hp) (E:XK),Room k (A.deeper (envOfC x (qi st) s.heap.objs.size fa cdv))->∃ g,PSDs (cxOf CX0 P w K mg base N x (qi st) fa cdv A outer s H E).nox ⟨[],[]⟩ [] (qH st) g O'/\g=f) :
  Fn P w K mg base x (k + 1) ps (runD N.length f):=by
 refine My.BodyOk.ok (fun fa cdv A outer s H vs Q E hr hsp=>?_) Df S (fun vs H Q E hsp=>by obtain⟨A,ds,d,_,_,e,_⟩:=hsp; exact e)
 obtain⟨A1,ds,d,lv,r,e,eF,q⟩:=hsp
 obtain⟨o,eo,e2⟩:=bind_some eF
 obtain⟨g,hg,rfl⟩:=h fa cdv A outer s H E hr
 refine⟨_,hg,H,A1,A1,[],_,o,ST.begun lv r,eo,?_⟩
 cases o with
 | nx ρ=>cases e2; exact fun A2 σ2 H2 s2=>q .non H2 s2.ex .non
 | rt d'=>cases e2; exact fun v H2 x2 r2=>q v H2 x2 r2
 | bk _=>cases e2
 | ct _=>cases e2
noncomputable def qk8(K:zad):Bool:=K.all fun p=>match p.2.cls with
 | .type "list" => false
 | _=>true
theorem qi5{K:zad}(h:qk8 K=true){a:Addr}{o:Obj}(e:K.lookup a=some o):o.cls≠.type "list" := fun z=>by
 have m:∀ {K:zad},K.lookup a=some o->(a,o)∈K:=by
  intro K
  induction K with
  | nil=>intro e; cases e
  | cons p r ih=>
   intro e
   rw[List.lookup_cons] at e
   by_cases q:(a == p.1)=true
   ·rw[q] at e; cases e; rw[show a=p.1 by simpa using q]; exact zav ..
   ·rw[Bool.not_eq_true] at q; rw[q] at e; exact zaw _ (ih e)
 have:=List.all_eq_true.mp h _ (m e)
 dsimp only at this
 rw[z] at this
 exact absurd this (by decide)
theorem qn6{P:zai}{w:World}{K:zad}{mg:Str->Option Value}{base:Heap}{st:Stmt}{N:List Str}{k:Nat}{f:Sv}{O':List Nat}(hK:qk8 K=true)
  (h:∀ (fa:Addr) (cdv:Value) (A:Around) (outer:List Env) (s:Shared) (H:Hp) (E:XK),Room k (A.deeper (envOfC "law" (qi st) s.heap.objs.size fa cdv))->∃ g,PSDs (cxOf CX0 P w K mg base N "law" (qi st) fa cdv A outer s H E).nox ⟨[],[]⟩ [] (qH st) g O'/\g=f)
  (hv:∀ ns:List Int,ns.length<=63->runD N.length f [.lst (ns.map .int)]=some (.bl true)):My.BodyOk P w K mg base "law" st N k (My.qiO K):=by
 refine fun fa cdv A outer s H vs Q E hr hsp=>?_
 obtain⟨a,ns,rfl,hS,hl,q⟩:=hsp
 have hR:Rd H a (.lst (ns.map V.int)):=by
  rcases hS with hS | ⟨o,_,_,e,c,_⟩
  ·exact hS
  ·exact absurd c (qi5 hK e)
 have lv:Live (fun _=>False) H:=fun a h=>h.elim
 have hints:∀ ns:List Int,RepL (fun _=>False) H (ns.map .int) (ns.map V.int):=fun ns=>by
  induction ns with
  | nil=>exact .nil
  | cons n ns ih=>exact .cons (.int n) ih
 obtain⟨o,eo,e2⟩:=bind_some (hv ns hl)
 obtain⟨g,hg,rfl⟩:=h fa cdv A outer s H E hr
 refine⟨_,hg,H,fun _=>False,fun _=>False,[],_,o,ST.begun lv (.cons (.lst (fun z=>z) hR (hints ns)) .nil),eo,?_⟩
 cases o with
 | nx ρ=>cases e2
 | rt d'=>cases e2; exact fun v H2 x2 r2=>by cases r2; exact q _
 | bk _=>cases e2
 | ct _=>cases e2
end
mutual
noncomputable def toX:D->Option My.Dx
 | .non=>some .non
 | .bl b=>some (.bl b)
 | .int i=>some (.int i)
 | .str x=>some (.str x)
 | .tup l=>(toXs l).map .tup
 | .lst l=>(toXs l).map .lst
 | .dK _=>none
 | .dT _=>none
noncomputable def toXs:List D->Option (List My.Dx)
 | []=>some []
 | d :: ds=>(toX d).bind fun x=>(toXs ds).bind fun xs=>some (x :: xs)
end
mutual
theorem qd3:∀ {d e:D} {x:My.Dx},toX d=some x->toX e=some x->d=e
 | .non,e,x,h,k=>by cases h; cases e <;> simp[toX] at k <;> first | rfl | (obtain⟨_,_,z⟩:=k; cases z)
 | .bl b,e,x,h,k=>by cases h; cases e <;> simp[toX] at k <;> first | (rw[k]) | (obtain⟨_,_,z⟩:=k; cases z)
 | .int b,e,x,h,k=>by cases h; cases e <;> simp[toX] at k <;> first | (rw[k]) | (obtain⟨_,_,z⟩:=k; cases z)
 | .str b,e,x,h,k=>by cases h; cases e <;> simp[toX] at k <;> first | (rw[k]) | (obtain⟨_,_,z⟩:=k; cases z)
 | .tup l,e,x,h,k=>by
  rw[toX] at h
  obtain⟨xs,h1,rfl⟩:=map_some h
  cases e with
  | tup m=>
   rw[toX] at k
   obtain⟨ys,k1,k2⟩:=map_some k
   cases k2
   rw[qec h1 k1]
  | lst m=>rw[toX] at k; obtain⟨ys,k1,k2⟩:=map_some k; cases k2
  | _=>simp[toX] at k
 | .lst l,e,x,h,k=>by
  rw[toX] at h
  obtain⟨xs,h1,rfl⟩:=map_some h
  cases e with
  | lst m=>
   rw[toX] at k
   obtain⟨ys,k1,k2⟩:=map_some k
   cases k2
   rw[qec h1 k1]
  | tup m=>rw[toX] at k; obtain⟨ys,k1,k2⟩:=map_some k; cases k2
  | _=>simp[toX] at k
 | .dK _,e,x,h,k=>by rw[toX] at h; cases h
 | .dT _,e,x,h,k=>by rw[toX] at h; cases h
theorem qec:∀ {d e:List D} {x:List My.Dx},toXs d=some x->toXs e=some x->d=e
 | [],e,x,h,k=>by
  rw[toXs] at h; cases h
  cases e with
  | nil=>rfl
  | cons e es=>
   rw[toXs] at k
   obtain⟨_,_,k⟩:=bind_some k
   obtain⟨_,_,k⟩:=bind_some k
   cases k
 | d :: ds,e,x,h,k=>by
  rw[toXs] at h
  obtain⟨y,h1,h⟩:=bind_some h
  obtain⟨ys,h2,h⟩:=bind_some h
  cases h
  cases e with
  | nil=>rw[toXs] at k; cases k
  | cons e es=>
   rw[toXs] at k
   obtain⟨z,k1,k⟩:=bind_some k
   obtain⟨zs,k2,k⟩:=bind_some k
   cases k
   rw[qd3 h1 k1,qec h2 k2]
end
mutual
theorem qfP{K:zad}{A:Av}{H:Hp}:∀ {d:D} {x:My.Dx} {v:V},toX d=some x->Rep A H d v->My.Rep K H x v
 | .non,x,v,h,r=>by cases h; cases r; rw[My.Rep]
 | .bl b,x,v,h,r=>by cases h; cases r; rw[My.Rep]
 | .int b,x,v,h,r=>by cases h; cases r; rw[My.Rep]
 | .str b,x,v,h,r=>by cases h; cases r; rw[My.Rep]
 | .tup l,x,v,h,r=>by
  rw[toX] at h
  obtain⟨xs,h1,rfl⟩:=map_some h
  cases r with
  | tup hh rl=>rw[My.Rep]; exact⟨_,_,rfl,.inl (.inl hh),qcS h1 rl⟩
 | .lst l,x,v,h,r=>by
  rw[toX] at h
  obtain⟨xs,h1,rfl⟩:=map_some h
  cases r with
  | lst n hh rl=>rw[My.Rep]; exact⟨_,_,rfl,.inl hh,qcS h1 rl⟩
 | .dK _,x,v,h,r=>by rw[toX] at h; cases h
 | .dT _,x,v,h,r=>by rw[toX] at h; cases h
theorem qcS{K:zad}{A:Av}{H:Hp}:∀ {d:List D} {x:List My.Dx} {v:List V},toXs d=some x->RepL A H d v->My.RepL K H x v
 | [],x,v,h,r=>by rw[toXs] at h; cases h; cases r; rw[My.RepL]
 | d :: ds,x,v,h,r=>by
  rw[toXs] at h
  obtain⟨y,h1,h⟩:=bind_some h
  obtain⟨ys,h2,h⟩:=bind_some h
  cases h
  cases r with
  | cons r rs=>rw[My.RepL]; exact⟨_,_,rfl,qfP h1 r,qcS h2 rs⟩
end
theorem qb6{K:zad}{A:Av}{H:Hp}{d:D}{x:My.Dx}{v:V}(h:toX d=some x)(r:RepB A H d v):My.Rep K H x v:=by
 cases r with
 | of r=>exact qfP h r
 | lst hh rl=>
  rw[toX] at h
  obtain⟨xs,h1,rfl⟩:=map_some h
  rw[My.Rep]; exact⟨_,_,rfl,.inl hh,qcS h1 rl⟩
 | dK=>rw[toX] at h; cases h
 | dT=>rw[toX] at h; cases h
noncomputable def eqOk(d:D):Bool:=match toX d with
 | some x=>x.nb && decide (x.dep<=60)
 | none=>false
noncomputable def seqD:D->Bool
 | .tup _=>true | .lst _=>true | _=>false
noncomputable def qnY:D->D->Bool
 | .non,.non=>true | .non,.int _=>true | .int _,.non=>true | .non,.bl _=>true | .bl _,.non=>true | .non,.str _=>true | .str _,.non=>true
 | .int _,.int _=>true | .bl _,.bl _=>true | .str _,.str _=>true
 | .int _,.str _=>true | .str _,.int _=>true | .bl _,.str _=>true | .str _,.bl _=>true
 | _,_=>false
open Classical in
noncomputable def eqD(d e:D):Option Bool:=if qnY d e=true\/(seqD d=true/\seqD e=true/\eqOk d=true/\eqOk e=true) then some (decide (d=e)) else none
noncomputable def dEq(d e:D):Option D:=(eqD d e).map .bl
noncomputable def dNe(d e:D):Option D:=(eqD d e).map fun b=>.bl (!b)
theorem qle{A:Av}{H:Hp}{d e:D}{v w:V}(h:qnY d e=true)(r:RepB A H d v)(s:RepB A H e w):scal v w=true/\(v=w↔d=e):=by
 cases d <;> cases e <;> first
  | (cases h; done)
  | (have:=r.non_inv; subst this; have:=s.non_inv; subst this; exact⟨rfl,by simp⟩)
  | (have:=r.non_inv; subst this; have:=s.int_inv; subst this; exact⟨rfl,by simp⟩)
  | (have:=r.non_inv; subst this; have:=s.bl_inv; subst this; exact⟨rfl,by simp⟩)
  | (have:=r.non_inv; subst this; have:=s.str_inv; subst this; exact⟨rfl,by simp⟩)
  | (have:=r.int_inv; subst this; have:=s.non_inv; subst this; exact⟨rfl,by simp⟩)
  | (have:=r.int_inv; subst this; have:=s.int_inv; subst this; exact⟨rfl,by simp⟩)
  | (have:=r.int_inv; subst this; have:=s.str_inv; subst this; exact⟨rfl,by simp⟩)
  | (have:=r.bl_inv; subst this; have:=s.non_inv; subst this; exact⟨rfl,by simp⟩)
  | (have:=r.bl_inv; subst this; have:=s.bl_inv; subst this; exact⟨rfl,by simp⟩)
  | (have:=r.bl_inv; subst this; have:=s.str_inv; subst this; exact⟨rfl,by simp⟩)
  | (have:=r.str_inv; subst this; have:=s.non_inv; subst this; exact⟨rfl,by simp⟩)
  | (have:=r.str_inv; subst this; have:=s.int_inv; subst this; exact⟨rfl,by simp⟩)
  | (have:=r.str_inv; subst this; have:=s.bl_inv; subst this; exact⟨rfl,by simp⟩)
  | (have:=r.str_inv; subst this; have:=s.str_inv; subst this; exact⟨rfl,by simp⟩)
section
variable {X:Cx}{O:List Nat}
theorem OpR.orM{f:Value->Value->Sem Value}{r r' r2:R2}(h:OpR X f r)(h':OpR X f r')(x:∀ a b H Q,r2 a b H Q->r a b H Q\/r' a b H Q):OpR X f r2:=OpR.mono (OpR.or h h') x
theorem qdG{d:D}(h:eqOk d=true):∃ x,toX d=some x/\x.nb=true/\x.dep<=60:=by
 unfold eqOk at h
 cases e:toX d with
 | none=>rw[e] at h; cases h
 | some x=>rw[e] at h; simp only[zaY,decide_eq_true_eq] at h; exact⟨x,rfl,h.1,h.2⟩
theorem qka{d:D}{x:My.Dx}(h:seqD d=true)(e:toX d=some x):x.seq=true:=by
 cases d with
 | tup l=>rw[toX] at e; obtain⟨xs,_,rfl⟩:=map_some e; rfl
 | lst l=>rw[toX] at e; obtain⟨xs,_,rfl⟩:=map_some e; rfl
 | _=>cases h
theorem qfT(hu:X.A.units + 64 < cLine):OpX X (zaL .Eq) dEq:=OpR.orM qo4 (My.qm6 hu) <| by
 rintro x y H Q ⟨A,dx,dy,d,lv,rx,ry,e,q⟩
 obtain⟨b,eb,rfl⟩:=map_some e
 unfold eqD at eb
 split at eb
 case isFalse=>cases eb
 rename_i hc
 cases eb
 rcases hc with hs | ⟨s1,s2,k1,k2⟩
 ·left
  obtain⟨h1,h2⟩:=qle hs rx ry
  refine⟨h1,?_⟩
  have:decide (x=y)=@decide (dx=dy) (zb3 _):=decide_eq_decide.mpr h2
  rw[this]
  exact q _ H (Ext.refl _ _) (.bl _)
 ·right
  obtain⟨x1,a1,a2,a3⟩:=qdG k1
  obtain⟨x2,b1,b2,b3⟩:=qdG k2
  refine⟨x1,x2,qb6 a1 rx,qb6 b1 ry,qka s1 a1,qka s2 b1,a2,b2,a3,?_⟩
  have:@decide (x1=x2) (zb3 _)=@decide (dx=dy) (zb3 _):=decide_eq_decide.mpr ⟨fun z=>qd3 a1 (z ▸ b1),fun z=>by subst z; rw[a1] at b1; exact zaF b1⟩
  show Q (.bl (@decide (x1=x2) (zb3 _))) H
  rw[this]
  exact q _ H (Ext.refl _ _) (.bl _)
theorem qf4(hu:X.A.units + 64 < cLine):OpX X (zaL .NotEq) dNe:=OpR.orM qoO (My.qmX hu) <| by
 rintro x y H Q ⟨A,dx,dy,d,lv,rx,ry,e,q⟩
 obtain⟨b,eb,rfl⟩:=map_some e
 unfold eqD at eb
 split at eb
 case isFalse=>cases eb
 rename_i hc
 cases eb
 rcases hc with hs | ⟨s1,s2,k1,k2⟩
 ·left
  obtain⟨h1,h2⟩:=qle hs rx ry
  refine⟨h1,?_⟩
  have:decide (x=y)=@decide (dx=dy) (zb3 _):=decide_eq_decide.mpr h2
  rw[this]
  exact q _ H (Ext.refl _ _) (.bl _)
 ·right
  obtain⟨x1,a1,a2,a3⟩:=qdG k1
  obtain⟨x2,b1,b2,b3⟩:=qdG k2
  refine⟨x1,x2,qb6 a1 rx,qb6 b1 ry,qka s1 a1,qka s2 b1,a2,b2,a3,?_⟩
  have:@decide (x1=x2) (zb3 _)=@decide (dx=dy) (zb3 _):=decide_eq_decide.mpr ⟨fun z=>qd3 a1 (z ▸ b1),fun z=>by subst z; rw[a1] at b1; exact zaF b1⟩
  show Q (.bl (!@decide (x1=x2) (zb3 _))) H
  rw[this]
  exact q _ H (Ext.refl _ _) (.bl _)
noncomputable def qfR:D->Bool
 | .non=>true | _=>false
noncomputable def qj8(d e:D):Option D:=if qfR e then some (.bl (!qfR d)) else none
theorem qmi{A:Av}{H:Hp}{d:D}{v:V}(r:RepB A H d v):decide (v=.non)=qfR d:=by
 cases d with
 | non=>have:=r.non_inv; subst this; rfl
 | bl b=>have:=r.bl_inv; subst this; rfl
 | int b=>have:=r.int_inv; subst this; rfl
 | str b=>have:=r.str_inv; subst this; rfl
 | tup l=>obtain⟨_,_,rfl,_⟩:=r.tup_inv; rfl
 | lst l=>obtain⟨_,_,rfl,_⟩:=r.lst_inv; rfl
 | dK l=>obtain⟨_,_,rfl,_⟩:=r.dK_inv; rfl
 | dT l=>obtain⟨_,_,rfl,_⟩:=r.dT_inv; rfl
theorem qln:OpX X (zaL .IsNot) qj8:=OpR.mono qmn <| by
 rintro x y H Q ⟨A,dx,dy,d,lv,rx,ry,e,q⟩
 unfold qj8 at e
 cases dy with
 | non=>cases e; have:=ry.non_inv; subst this; exact⟨rfl,by rw[qmi rx]; exact q _ H (Ext.refl _ _) (.bl _)⟩
 | _=>cases e
theorem Inv.lstR{pins:List (Addr × Obj)}{σ:L2.St}{H:Hp}{s:Shared}{l:Addr}{xs:List V}(I:Inv X pins σ H s)(hH:Rd H l (.lst xs)):xs.length<=zal/\∃ (its:List Value) (n:Nat),Vals xs its/\xs.length=its.length/\s.heap.get? l=some { cls:=.type "list",data:=.seq its.toArray n }:=by
 obtain⟨hz,its,n,r,e⟩:=(show ObjOk X.prog X.w H s.heap l (.lst xs) from hH.ok I.hok)
 exact⟨hz,its,n,r,r.length,e⟩
noncomputable def qo3:R2:=fun x y H Q=>∃ l b xs zs,x=.ref l/\y=.ref b/\Rd H l (.lst xs)/\Rd H b (.lst zs)/\xs.length + zs.length<=zal/\∀ p,H p=none->Q (.ref p) (upd H p (.lst (xs ++ zs)))
theorem qlu:OpR X (zaQ .Add) qo3:=by
 intro pins s σ H x y v u Q I rx ry h
 obtain⟨l,b,xs,zs,rfl,rfl,hH,hB,hz,q⟩:=h
 cases rx
 cases ry
 obtain⟨z,its,n,r,hl,e⟩:=Inv.lstR I hH
 obtain⟨z2,its2,n2,r2,hl2,e2⟩:=Inv.lstR I hB
 refine PySem.P.add_list e e2 ?_ (by rw[zat,zat]; omega)
 have ea:its.toArray ++ its2.toArray=(its ++ its2).toArray:=by simp
 rw[ea]
 exact⟨.ref _,_,I.lnew (t':=s.toks) (r.append r2) (by rw[zbA]; omega),rfl,q _ I.fresh⟩
end
section
variable {X:Cx}{O:List Nat}
theorem RepL.nil_iff{A:Av}{H:Hp}{ds:List D}{vs:List V}(r:RepL A H ds vs):vs=[]↔ds=[]:=by cases r <;> simp
noncomputable def qhm:D->D->Option D
 | .int i,.int j=>some (.int (i + j))
 | .str i,.str j=>if szOk (i.length + j.length) then some (.str (i ++ j)) else none
 | .lst l,.lst m=>if szOk (l.length + m.length) then some (.lst (l ++ m)) else none
 | .tup (a :: l),.tup m=>if szOk (l.length + 1 + m.length) then some (.tup (a :: l ++ m)) else none
 | _,_=>none
theorem qnV:OpX X (zaQ .Add) qhm:=OpR.mono (OpR.or (OpR.or qov qhx) (OpR.or qlu qlH)) <| by
 rintro x y H Q ⟨A,dx,dy,d,lv,rx,ry,e,q⟩
 cases dx with
 | int i=>
  cases dy with
  | int j=>cases e; have:=rx.int_inv; subst this; have:=ry.int_inv; subst this; exact .inl (.inl ⟨i,j,rfl,rfl,q _ H (Ext.refl _ _) (.int _)⟩)
  | _=>cases e
 | str i=>
  cases dy with
  | str j=>
   simp only[qhm] at e
   by_cases hz:szOk (i.length + j.length)=true
   ·rw[if_pos hz] at e; cases e; have:=rx.str_inv; subst this; have:=ry.str_inv; subst this
    exact .inl (.inr ⟨i,j,rfl,rfl,qbS hz,q _ H (Ext.refl _ _) (.str _)⟩)
   ·rw[if_neg hz] at e; cases e
  | _=>cases e
 | lst l=>
  cases dy with
  | lst m=>
   simp only[qhm] at e
   by_cases hz:szOk (l.length + m.length)=true
   ·rw[if_pos hz] at e; cases e
    obtain⟨a,xs,rfl,h1,r1⟩:=rx.lst_inv
    obtain⟨b,ys,rfl,h2,r2⟩:=ry.lst_inv
    exact .inr (.inl ⟨a,b,xs,ys,rfl,rfl,h1,h2,by rw[r1.length,r2.length]; exact qbS hz,fun p hp=>q _ _ (Ext.new hp) (.lst (fun z=>lv p z hp) (.inl qw) ((r1.append r2).ext (Ext.new hp)))⟩)
   ·rw[if_neg hz] at e; cases e
  | _=>cases e
 | tup l=>
  cases l with
  | nil=>cases dy <;> cases e
  | cons a0 l=>
   cases dy with
   | tup m=>
    simp only[qhm] at e
    by_cases hz:szOk (l.length + 1 + m.length)=true
    ·rw[if_pos hz] at e; cases e
     obtain⟨a,xs,rfl,h1,r1⟩:=rx.tup_inv
     obtain⟨b,ys,rfl,h2,r2⟩:=ry.tup_inv
     refine .inr (.inr ⟨a,b,xs,ys,rfl,rfl,.inl (.inl h1),.inl (.inl h2),fun z=>(by have:=r1.nil_iff.mp z; cases this),by rw[r1.length,r2.length]; exact qbS hz,fun z=>?_,fun _ p hp=>q _ _ (Ext.new hp) (.tup qw ((r1.append r2).ext (Ext.new hp)))⟩)
     refine q _ H (Ext.refl _ _) (.tup h1 ?_)
     have:=r2.nil_iff.mp z
     subst this
     rw[List.append_nil]
     exact r1
    ·rw[if_neg hz] at e; cases e
   | _=>cases e
 | _=>cases dy <;> cases e
noncomputable def qbP:List D->Option (List Int)
 | []=>some []
 | .int i :: ds=>(qbP ds).map (i :: ·)
 | _=>none
theorem qbE{A:Av}{H:Hp}:∀ {ds:List D} {ns:List Int} {vs:List V},qbP ds=some ns->RepL A H ds vs->vs=ns.map V.int
 | [],ns,vs,h,r=>by cases h; cases r; rfl
 | .int i :: ds,ns,vs,h,r=>by
  obtain⟨ms,h1,rfl⟩:=map_some h
  cases r with
  | cons r rs=>cases r; rw[qbE h1 rs]; rfl
noncomputable def dLt:D->D->Option D
 | .int i,.int j=>some (.bl (decide (i < j)))
 | .tup l,.tup m=>(qbP l).bind fun ns=>(qbP m).map fun ms=>.bl (HT.lexLt ns ms)
 | _,_=>none
theorem qi2(hu:X.A.units < cLine):OpX X (zaL .Lt) dLt:=OpR.mono (OpR.or qoY (qnN hu)) <| by
 rintro x y H Q ⟨A,dx,dy,d,lv,rx,ry,e,q⟩
 cases dx with
 | int i=>
  cases dy with
  | int j=>cases e; have:=rx.int_inv; subst this; have:=ry.int_inv; subst this; exact .inl ⟨i,j,rfl,rfl,q _ H (Ext.refl _ _) (.bl _)⟩
  | _=>cases e
 | tup l=>
  cases dy with
  | tup m=>
   obtain⟨ns,e1,e⟩:=bind_some e
   obtain⟨ms,e2,rfl⟩:=map_some e
   obtain⟨a,xs,rfl,h1,r1⟩:=rx.tup_inv
   obtain⟨b,ys,rfl,h2,r2⟩:=ry.tup_inv
   have:=qbE e1 r1; subst this
   have:=qbE e2 r2; subst this
   exact .inr ⟨a,b,ns,ms,rfl,rfl,.inl (.inl h1),.inl (.inl h2),q _ H (Ext.refl _ _) (.bl _)⟩
  | _=>cases e
 | _=>cases dy <;> cases e
open Classical in
noncomputable def dInB(x y:D):Option Bool:=match y with
 | .dK _=>(qbT y x).map (·.isSome)
 | .dT _=>(qbT y x).map (·.isSome)
 | .lst l=>if eqOk x=true/\l.all eqOk=true then some (l.any fun d=>decide (d=x)) else none
 | .tup l=>if eqOk x=true/\l.all eqOk=true then some (l.any fun d=>decide (d=x)) else none
 | _=>none
noncomputable def qgX(x y:D):Option D:=(dInB x y).map fun b=>.bl (!b)
open Classical in
theorem qgo{pins:List (Addr × Obj)}{σ:L2.St}{H:Hp}{s:Shared}{A:Av}{Ar:Around}(I:Inv X pins σ H s)(hu:Ar.units + 60 < cLine){x:D}{v:V}{u:Value}(kx:eqOk x=true)(rx:RepB A H x v)(ru:RelV v u){l:List D}{xs:List V}{its:List Value}(kl:l.all eqOk=true)(rl:RepL A H l xs)(rv:Vals xs its) :
  ∃ f:Value->Bool,(∀ y∈its,SeqAt.EqAt Ar s y u (f y))/\its.any f=l.any fun d=>decide (d=x):=by
 obtain⟨x1,a1,a2,a3⟩:=qdG kx
 have rx1:My.Rep X.K H x1 v:=qb6 a1 rx
 let g:Value->Bool:=fun y=>decide (∃ w z,RelV w y/\My.Rep X.K H z w/\z=x1)
 have one:∀ {d:D} {w:V} {y:Value},eqOk d=true->Rep A H d w->RelV w y->g y=decide (d=x)/\SeqAt.EqAt Ar s y u (g y):=by
  intro d w y kd rd ry
  obtain⟨z,b1,b2,b3⟩:=qdG kd
  have rz:My.Rep X.K H z w:=qfP b1 rd
  have e:g y=decide (z=x1):=by
   refine decide_eq_decide.mpr ⟨fun⟨w',z',q1,q2,q3⟩=>?_,fun e=>⟨w,z,ry,rz,e⟩⟩
   have:=RelV.inj ry q1
   subst this
   rw[My.Rep.inj I _ _ _ rz q2,q3]
  have e2:decide (z=x1)=decide (d=x):=decide_eq_decide.mpr ⟨fun q=>qd3 b1 (q ▸ a1),fun q=>by subst q; rw[b1] at a1; exact zaF a1⟩
  refine⟨e.trans e2,?_⟩
  rw[e]
  exact My.qfJ I 60 Ar z x1 w v y u b3 hu b2 a2 rz rx1 ry ru
 refine⟨g,?_,?_⟩
 ·intro y hy
  obtain⟨j,hj⟩:=List.mem_iff_getElem?.mp hy
  have hlen:=rv.length
  have hjl:j < its.length:=(List.getElem?_eq_some_iff.mp hj).1
  have hx:xs[j]?=some (xs[j]'(by omega)):=zaC (by omega)
  obtain⟨u',e1,r1⟩:=rv.get hx
  rw[hj] at e1; cases e1
  obtain⟨d,e2,r2⟩:=rl.get hx
  exact(one (List.all_eq_true.mp kl _ (za4 e2)) r2 r1).2
 ·have all:∀ (l:List D) (xs:List V) (its:List Value),l.all eqOk=true->RepL A H l xs->Vals xs its->its.any g=l.any fun d=>decide (d=x):=by
   intro l
   induction l with
   | nil=>intro xs its _ r v; cases r; cases v; rfl
   | cons d l ih=>
    intro xs its k r v
    cases r with
    | cons h t=>
     cases v with
     | cons r rs=>
      rw[List.all_cons,zaY] at k
      rw[List.any_cons,List.any_cons,(one k.1 h r).1,ih _ _ k.2 t rs]
  exact all l xs its kl rl rv
theorem qkt(hu:X.A.units + 64 < cLine):OpX X (zaL .NotIn) qgX:=by
 intro pins s σ H x y v u Q I rv ru h
 obtain⟨A,dx,dy,d,lv,rx,ry,e,q⟩:=h
 obtain⟨b,eb,rfl⟩:=map_some e
 have fin:∀ k,k=(!b)->EP X pins σ Q (.bool k) s:=fun k hk=>⟨.bl (!b),H,I,by rw[hk]; rfl,q _ H (Ext.refl _ _) (.bl _)⟩
 have hu1:X.A.units + 1 < cLine:=by omega
 have dict:∀ o,qbT dy dx=some o->o.isSome=b->wpAny (model X.prog X.w) X.A (zaL .NotIn v u) (EP X pins σ Q) X.xe s:=fun o eo ob=>by
  obtain⟨a,ov,rfl,_,g,e3⟩:=qdX eo ry rx
  cases ru
  refine qlq hu1 I g rv fun s' I'=>⟨.bl (!b),H,I',?_,q _ H (Ext.refl _ _) (.bl _)⟩
  have:ov.isSome=b:=by rw[<- ob]; rcases e3 with⟨rfl,rfl⟩ | ⟨_,_,rfl,rfl,_⟩ <;> rfl
  rw[this]; rfl
 cases dy with
 | dK l=>obtain⟨o,eo,ob⟩:=map_some eb; exact dict o eo ob
 | dT l=>obtain⟨o,eo,ob⟩:=map_some eb; exact dict o eo ob
 | lst l=>
  simp only[dInB] at eb
  split at eb
  case isFalse=>cases eb
  rename_i hc
  cases eb
  obtain⟨a,xs,rfl,h1,r1⟩:=ry.lst_inv
  cases ru
  obtain⟨its,r,pl,hz⟩:=I.list (.inl h1)
  obtain⟨f,f1,f2⟩:=qgo (Ar:=X.A.in1) I (by show X.A.units + 1 + 60 < cLine; omega) hc.1 rx rv hc.2 r1 r
  refine SeqAt.notIn_listAt f (My.PlainL.isList pl) (fun w hw=>f1 w (by simpa using hw)) (fin _ ?_)
  rw[<- f2]; simp
 | tup l=>
  simp only[dInB] at eb
  split at eb
  case isFalse=>cases eb
  rename_i hc
  cases eb
  obtain⟨a,xs,rfl,h1,r1⟩:=ry.tup_inv
  cases ru
  obtain⟨its,r,pl,hz⟩:=I.tuple (.inl (.inl h1))
  obtain⟨f,f1,f2⟩:=qgo (Ar:=X.A.in1) I (by show X.A.units + 1 + 60 < cLine; omega) hc.1 rx rv hc.2 r1 r
  refine SeqAt.notIn_tupleAt f pl (fun w hw=>f1 w (by simpa using hw)) (fin _ ?_)
  rw[<- f2]; simp
 | _=>cases eb
noncomputable def dLen:List D->Option D
 | [.lst l]=>some (.int l.length)
 | [.tup l]=>some (.int l.length)
 | [.str z]=>if szOk z.length then some (.int z.length) else none
 | [.dK l]=>some (.int l.length)
 | _=>none
theorem qdi:qht X (.builtin "len") dLen:=by
 intro pins s σ H xs us Q I r h
 obtain⟨A,ds,d,lv,rl,e,q⟩:=h
 match ds,rl,e with
 | [.lst l],rl,e=>
  cases e
  obtain⟨v,rfl,h1⟩:=rl.one
  obtain⟨a,xs,rfl,h2,r2⟩:=h1.lst_inv
  exact qeu pins s σ H _ us Q I r ⟨_,_,rfl,.inl ⟨xs,.inl h2,rfl⟩,by rw[r2.length]; exact q _ H (Ext.refl _ _) (.int _)⟩
 | [.tup l],rl,e=>
  cases e
  obtain⟨v,rfl,h1⟩:=rl.one
  obtain⟨a,xs,rfl,h2,r2⟩:=h1.tup_inv
  exact qeu pins s σ H _ us Q I r ⟨_,_,rfl,.inr ⟨xs,.inl (.inl h2),rfl⟩,by rw[r2.length]; exact q _ H (Ext.refl _ _) (.int _)⟩
 | [.str z],rl,e=>
  simp only[dLen] at e
  by_cases hz:szOk z.length=true
  ·rw[if_pos hz] at e; cases e
   obtain⟨v,rfl,h1⟩:=rl.one
   have:=h1.str_inv; subst this
   exact qeu pins s σ H _ us Q I r ⟨_,_,rfl,⟨qbS hz,rfl⟩,q _ H (Ext.refl _ _) (.int _)⟩
  ·rw[if_neg hz] at e; cases e
 | [.dK l],rl,e=>
  cases e
  obtain⟨v,rfl,h1⟩:=rl.one
  obtain⟨a,xs,rfl,h2,e2,r2⟩:=h1.dK_inv
  obtain⟨u,rfl,ru⟩:=vals1 r
  cases ru
  have hl:xs.length=l.length:=by have:=congrArg zbI e2; simpa using this
  exact qo0 I h2 fun t s' I'=>⟨.int xs.length,H,I',⟨t,rfl⟩,by rw[hl]; exact q _ H (Ext.refl _ _) (.int _)⟩
 | [],_,e=>cases e
 | [.non],_,e=>cases e
 | [.bl _],_,e=>cases e
 | [.int _],_,e=>cases e
 | [.dT _],_,e=>cases e
 | _ :: _ :: _,_,e=>simp[dLen] at e
noncomputable def qb7:List D->Option D
 | [.lst l]=>some (.tup l)
 | [.tup l]=>some (.tup l)
 | _=>none
noncomputable def qkM:List D->Option D
 | [.lst l]=>some (.lst l)
 | [.tup l]=>some (.lst l)
 | _=>none
theorem qie{ds:List D}{d:D}{g:List D->D}(h:(match ds with | [.lst l]=>some (g l) | [.tup l]=>some (g l) | _=>none)=some d):∃ l,(ds=[.lst l]\/ds=[.tup l])/\d=g l:=by
 split at h
 ·cases h; exact⟨_,.inl rfl,rfl⟩
 ·cases h; exact⟨_,.inr rfl,rfl⟩
 ·cases h
theorem qcM:qht X (.type "tuple") qb7:=CallR.mono qev <| by
 rintro xs H Q ⟨A,ds,d,lv,r,e,q⟩
 obtain⟨l,hl,rfl⟩:=qie (g:=.tup) e
 rcases hl with rfl | rfl
 ·obtain⟨v,rfl,h1⟩:=r.one
  obtain⟨a,xs,rfl,h2,r2⟩:=h1.lst_inv
  exact⟨a,xs,rfl,.inl ⟨.inl h2,fun p hp=>q _ _ (Ext.new hp) (.tup qw (r2.ext (Ext.new hp)))⟩⟩
 ·obtain⟨v,rfl,h1⟩:=r.one
  obtain⟨a,xs,rfl,h2,r2⟩:=h1.tup_inv
  exact⟨a,xs,rfl,.inr ⟨.inl (.inl h2),q _ H (Ext.refl _ _) (.tup h2 r2)⟩⟩
theorem qlK:qfa X (.type "list") qkM:=CallR.mono qfq <| by
 rintro xs H Q ⟨A,ds,d,lv,r,e,q⟩
 obtain⟨l,hl,rfl⟩:=qie (g:=.lst) e
 rcases hl with rfl | rfl
 ·obtain⟨v,rfl,h1⟩:=r.one
  obtain⟨a,xs,rfl,h2,r2⟩:=h1.lst_inv
  exact⟨a,xs,rfl,.inl (.inl h2),fun p hp=>q p _ (Ext.new hp) hp (fun z=>lv p z hp) (.lst qw (r2.fresh hp))⟩
 ·obtain⟨v,rfl,h1⟩:=r.one
  obtain⟨a,xs,rfl,h2,r2⟩:=h1.tup_inv
  exact⟨a,xs,rfl,.inr (.inl (.inl h2)),fun p hp=>q p _ (Ext.new hp) hp (fun z=>lv p z hp) (.lst qw (r2.fresh hp))⟩
end
section
variable {X:Cx}{O:List Nat}
noncomputable def tyN:D->String
 | .non => "NoneType" | .bl _ => "bool" | .int _ => "int" | .str _ => "str" | .tup _ => "tuple" | .lst _ => "list" | .dK _ => "dict" | .dT _ => "dict"
noncomputable def rIsD(K:zad):List V->Hp->VK->Prop:=fun xs H Q=>∃ A d x n b,xs=[x,.ty n]/\RepB A H d x/\PySem.W.kitOne K (.type (tyN d)) (.type n)=some b/\Q (.bl b) H
theorem qkc:CallR X (.builtin "isinstance") (rIsD X.K):=by
 intro pins s σ H xs us Q I r h
 obtain⟨A,d,x,n,b,rfl,rx,e,q⟩:=h
 have go:∀ t,TyOf X.K H x t->t=.type (tyN d)->wpAny (model X.prog X.w) X.A (call (.builtin "isinstance") us) (EP X pins σ Q) X.xe s:=fun t ht et=>by
  subst et
  exact My.qkp pins s σ H _ us Q I r ⟨x,n,_,b,rfl,ht,e,q⟩
 cases d with
 | non=>have:=rx.non_inv; subst this; exact go _ .non rfl
 | bl c=>have:=rx.bl_inv; subst this; exact go _ (.bl c) rfl
 | int c=>have:=rx.int_inv; subst this; exact go _ (.int c) rfl
 | str c=>have:=rx.str_inv; subst this; exact go _ (.str c) rfl
 | tup l=>obtain⟨a,xs,rfl,h1,_⟩:=rx.tup_inv; exact go _ (.tup h1) rfl
 | lst l=>
  obtain⟨a,xs,rfl,h1,_⟩:=rx.lst_inv
  rcases h1 with h1 | ⟨o,h1⟩
  ·exact go _ (.lst h1) rfl
  ·exact go _ (.frz h1) rfl
 | dK l=>
  obtain⟨a,xs,rfl,h1,_⟩:=rx.dK_inv
  obtain⟨u,u',rfl,r1,r2⟩:=vals2 r
  cases r1
  cases r2
  obtain⟨_,_,vs,_,p⟩:=(show ObjOk X.prog X.w H s.heap a (.dK xs) from h1.ok I.hok)
  obtain⟨o,es,ep,h1,h2,_⟩:=p
  exact zbn PySem.W.kitx_dict I.kIn ⟨o,h1,h2.1⟩ e (fun z=>nomatch z) fun tk=>⟨.bl b,H,I.tok tk,rfl,q⟩
 | dT l=>
  obtain⟨a,xs,rfl,h1,_⟩:=rx.dT_inv
  obtain⟨u,u',rfl,r1,r2⟩:=vals2 r
  cases r1
  cases r2
  obtain⟨_,_,xs,_,o,es,ep,h1,h2,_⟩:=(show ObjOk X.prog X.w H s.heap a (.dT xs) from h1.ok I.hok)
  exact zbn PySem.W.kitx_dict I.kIn ⟨o,h1,h2.1⟩ e (fun z=>nomatch z) fun tk=>⟨.bl b,H,I.tok tk,rfl,q⟩
noncomputable def isiB(n:String)(d:D):Bool:=match d with
 | .non=>false
 | .bl _=>n == "bool" || n == "int"
 | .int _=>n == "int"
 | .str _=>n == "str"
 | .tup _=>n == "tuple"
 | .lst _=>n == "list"
 | .dK _=>n == "dict"
 | .dT _=>n == "dict"
noncomputable def Kit(n:String):Prop:=∀ (K:zad) (d:D),PySem.W.kitOne K (.type (tyN d)) (.type n)=some (isiB n d)
theorem qlY:Kit "int" := fun K d=>by cases d <;> rfl
theorem qkx:Kit "bool" := fun K d=>by cases d <;> rfl
theorem kit_tuple:Kit "tuple" := fun K d=>by cases d <;> rfl
noncomputable def eIsi(n:String)(f:Ev):Ev:=fun ρ=>(f ρ).map fun d=>.bl (isiB n d)
theorem qfn{e:Expr}{x:Str}{n:String}{f:Ev}{p p2 pos:Pos}(kit:Kit n)(hg:Gl X "isinstance")(hm:X.mg "isinstance" = none)(hg2:Gl X x)(hm2:X.mg x=none)(hb:zaJ x=some (.type n))(he:PB X O e f)(hn:x ≠ "__name__" := by decide)(hd:(x == ("__debug__" : Str))=false:=by decide)
  (h1:zap [e,.Name x p2] X.env=(false,eval e X.env) :: zap [.Name x p2] X.env:=by rfl) (h2:(backTo pos (zap [.Name x p2] X.env)).any (·.1)=false:=by rfl) (h3:zap [.Name x p2] X.env=(false,eval (.Name x p2) X.env) :: zap [] X.env:=by rfl) :
  PD X O (.Call (.Name "isinstance" p) [e,.Name x p2] [] pos) (eIsi n f):=
 PE.mono (qcK qkc hg hm My.boot_isinstance (qbA he (qbA (qlA (v:=.ty n) hg2 hm2 hb rfl hn hd) qdh h3) h1) (by decide) (by decide) h1 h2) <| by
  rintro σ H Q ⟨H0,A0,A,E,ρ,d,st,e,q⟩
  obtain⟨x,ex,rfl⟩:=map_some e
  exact⟨H0,A0,A,E,ρ,x,st,ex,fun v H1 x1 r1=>⟨A,x,v,n,_,rfl,r1,kit _ _,q _ H1 x1 (.bl _)⟩⟩
noncomputable def qe5:List Key->Option (List Int)
 | []=>some []
 | .inl i :: ks=>(qe5 ks).map (i :: ·)
 | _=>none
theorem qfu:∀ {k:List Key} {ns:List Int},qe5 k=some ns->k=ns.map zao
 | [],ns,h=>by cases h; rfl
 | .inl i :: ks,ns,h=>by obtain⟨ms,h1,rfl⟩:=map_some h; rw[qfu h1]; rfl
theorem qdt:∀ ns:List Int,qe5 (ns.map zao)=some ns
 | []=>rfl
 | n :: ns=>by rw[zaf,qe5,qdt ns]; rfl
noncomputable def intKeys{α:Type}:List (List Key × α)->Option (List (List Int × α))
 | []=>some []
 | p :: l=>(qe5 p.1).bind fun ns=>(intKeys l).map fun r=>(ns,p.2) :: r
noncomputable def kI'{α:Type}(p:List Int × α):List Key × α:=(p.1.map zao,p.2)
theorem qbd{α:Type}:∀ {l:List (List Key × α)} {m:List (List Int × α)},intKeys l=some m->l=m.map kI'
 | [],m,h=>by cases h; rfl
 | p :: l,m,h=>by
  obtain⟨ns,h1,h⟩:=bind_some h
  obtain⟨r,h2,rfl⟩:=map_some h
  rw[zaf,qbd h2]
  congr 1
  show p=(ns.map zao,p.2)
  rw[<- qfu h1]
theorem qbZ{α:Type}:∀ m:List (List Int × α),intKeys (m.map kI')=some m
 | []=>rfl
 | p :: m=>by rw[zaf,intKeys,show(kI' p).1=p.1.map zao from rfl,qdt,qbZ m]; rfl
noncomputable def qdH(k:List Int):Bool:=(k.length == 1 || k.length == 2) && k.all fun e=>decide (0<=e) && decide (e<=8)
theorem qi4{k:List Int}(h:qdH k=true):My.qce k:=by
 simp only[qdH,zaY,Bool.or_eq_true,beq_iff_eq,List.all_eq_true,decide_eq_true_eq] at h
 exact h
noncomputable def qh2:List D->Option D
 | [.dT l]=>(intKeys l).bind fun m=>if m.all fun p=>qdH p.1 then some (.dT l) else none
 | _=>none
theorem qhO{ds:List D}{d:D}(h:qh2 ds=some d):∃ l m,ds=[.dT l]/\d=.dT l/\intKeys l=some m/\(m.all fun p=>qdH p.1)=true:=by
 unfold qh2 at h
 split at h
 ·obtain⟨m,e1,h⟩:=bind_some h
  split at h
  ·cases h; exact⟨_,m,rfl,rfl,e1,by assumption⟩
  ·cases h
 ·cases h
theorem qbH{xs:List (List Key × V)}{m:List (List Int × D)}(e:xs.map (·.1)=(m.map kI').map (·.1)):∃ ps:List (List Int × V),xs=ps.map My.kI/\ps.map (·.1)=m.map (·.1):=by
 induction m generalizing xs with
 | nil=>cases xs with
  | nil=>exact⟨[],rfl,rfl⟩
  | cons _ _=>cases e
 | cons p m ih=>cases xs with
  | nil=>cases e
  | cons x xs=>
   rw[zaf,zaf,zaf] at e
   injection e with e1 e2
   obtain⟨ps,h1,h2⟩:=ih e2
   refine⟨(p.1,x.2) :: ps,?_,by rw[zaf,zaf,h2]⟩
   rw[zaf,<- h1]
   congr 1
   show x=(p.1.map zao,x.2)
   rw[<- show x.1=p.1.map zao from e1]
theorem qma:qfa X (.type "dict") qh2:=by
 intro pins s σ H xs us Q I r h
 obtain⟨A,ds,d,lv,rl,e,q⟩:=h
 obtain⟨l,m,rfl,rfl,e1,e2⟩:=qhO e
 obtain⟨v,rfl,h1⟩:=rl.one
 obtain⟨a,ys,rfl,h2,e3,r3⟩:=h1.dT_inv
 have el:=qbd e1
 subst el
 obtain⟨ps,rfl,e4⟩:=qbH e3
 obtain⟨_,_,hnd,_⟩:=My.qdF I h2
 have hn:((ps.map My.kI).map fun p=>(zaZ (qK X.prog X.w)).hash p.1).Nodup:=by
  let cs:List My.Tm:=ps.map fun p=>(p.1,(0:Int))
  have k1:cs.map (·.1)=ps.map (·.1):=by rw[zaD]; rfl
  have:=My.qhv X.prog X.w (cs:=cs) (by rw[k1]; exact hnd) (fun t ht=>by
   have:t.1∈m.map (·.1):=by rw[<- e4,<- k1]; exact List.mem_map.mpr ⟨t,ht,rfl⟩
   obtain⟨p,hp,ep⟩:=List.mem_map.mp this
   rw[<- ep]
   exact qi4 (List.all_eq_true.mp e2 p hp))
  have e5:((cs.map My.kJ).map fun p=>(zaZ (qK X.prog X.w)).hash p.1)=(ps.map My.kI).map fun p=>(zaZ (qK X.prog X.w)).hash p.1:=by
   rw[zaD,zaD,zaD]
   rfl
  rw[<- e5]; exact this
 exact My.qhu pins s σ H _ us Q I r ⟨a,_,rfl,h2,hn,fun p hp=>q p _ (Ext.new hp) hp (fun z=>lv p z hp) (.dT qw e3 (r3.fresh hp))⟩
noncomputable def ins{α:Type}(p:List Int × α):List (List Int × α)->List (List Int × α)
 | []=>[p]
 | q :: r=>if HT.lexLt p.1 q.1=true then p :: q :: r else q :: ins p r
noncomputable def qT{α:Type}:List (List Int × α)->List (List Int × α)
 | []=>[]
 | p :: r=>ins p (qT r)
theorem ins_map{α β:Type}(f:α->β)(p:List Int × α):∀ l:List (List Int × α),(ins p l).map (fun x=>(x.1,f x.2))=ins (p.1,f p.2) (l.map fun x=>(x.1,f x.2))
 | []=>rfl
 | q :: r=>by
  rw[ins,zaf,ins]
  by_cases h:HT.lexLt p.1 q.1=true
  ·rw[if_pos h,if_pos h]; rfl
  ·rw[if_neg h,if_neg h,zaf,ins_map f p r]
theorem qbx{α β:Type}(f:α->β):∀ l:List (List Int × α),(qT l).map (fun x=>(x.1,f x.2))=qT (l.map fun x=>(x.1,f x.2))
 | []=>rfl
 | p :: r=>by rw[qT,ins_map,qbx f r,zaf,qT]
theorem qem{α:Type}(p:List Int × α):∀ l:List (List Int × α),(ins p l).Perm (p :: l)
 | []=>.refl _
 | q :: r=>by
  rw[ins]
  by_cases h:HT.lexLt p.1 q.1=true
  ·rw[if_pos h]
  ·rw[if_neg h]; exact((qem p r).cons q).trans (.swap ..)
theorem qak{α:Type}:∀ l:List (List Int × α),(qT l).Perm l
 | []=>.refl _
 | p :: r=>(qem p (qT r)).trans ((qak r).cons p)
noncomputable def qaD{α:Type}(l:List (List Int × α)):Prop:=l.Pairwise fun a b=>HT.lexLt a.1 b.1=true
theorem qdN{α:Type}(p:List Int × α):∀ l:List (List Int × α),(∀ q∈l,q.1≠p.1)->qaD l->qaD (ins p l)
 | [],_,_=>by rw[ins]; exact zco _ _
 | q :: r,hn,h=>by
  rw[ins]
  have hq:=List.pairwise_cons.mp h
  by_cases c:HT.lexLt p.1 q.1=true
  ·rw[if_pos c]
   refine List.pairwise_cons.mpr ⟨fun x hx=>?_,h⟩
   rcases List.mem_cons.mp hx with e | e
   ·rw[e]; exact c
   ·exact My.qe0 _ _ _ c (hq.1 x e)
  ·rw[if_neg c]
   refine List.pairwise_cons.mpr ⟨fun x hx=>?_,qdN p r (fun y hy=>hn y (zaw _ hy)) hq.2⟩
   rcases List.mem_cons.mp ((qem p r).subset hx) with e | e
   ·rw[e]
    rcases My.qge p.1 q.1 (fun z=>hn q (zav ..) z.symm) with z | z
    ·exact absurd z c
    ·exact z
   ·exact hq.1 x e
theorem qa6{α:Type}:∀ l:List (List Int × α),(l.map (·.1)).Nodup->qaD (qT l)
 | [],_=>List.Pairwise.nil
 | p :: r,h=>by
  rw[zaf,List.nodup_cons] at h
  refine qdN p _ (fun q hq z=>h.1 ?_) (qa6 r h.2)
  exact List.mem_map.mpr ⟨q,(qak r).subset hq,z⟩
theorem qen{α:Type}{l m:List (List Int × α)}(h1:qaD l)(h2:qaD m)(hp:l.Perm m):l=m:=by
 refine List.Perm.eq_of_pairwise (le:=fun (a b:List Int × α)=>HT.lexLt a.1 b.1=true) (fun a b _ _ x y=>?_) h1 h2 hp
 have:=My.qe0 _ _ _ x y
 rw[My.qbX] at this
 cases this
theorem qdd{A:Av}{H:Hp}{m:List (List Int × D)}{ps qs:List (List Int × V)}(hnd:(ps.map (·.1)).Nodup)(h:PP A H (m.map kI') (ps.map My.kI))(hs:My.qgk qs)(hp:qs.Perm ps):Paired (fun (p:List Int × D) (q:List Int × V)=>p.1=q.1/\Rep A H p.2 q.2) (qT m) qs:=by
 -- both by one list of triples
 have key:∀ {m:List (List Int × D)} {ps:List (List Int × V)},PP A H (m.map kI') (ps.map My.kI)->∃ ts:List (List Int × (D × V)),m=ts.map (fun t=>(t.1,t.2.1))/\ps=ts.map (fun t=>(t.1,t.2.2))/\∀ t∈ts,Rep A H t.2.1 t.2.2:=by
  intro m
  induction m with
  | nil=>intro ps h; cases ps with
   | nil=>exact⟨[],rfl,rfl,fun _ h=>nomatch h⟩
   | cons _ _=>cases h
  | cons p m ih=>intro ps h; cases ps with
   | nil=>cases h
   | cons q ps=>
    cases h with
    | cons h t=>
     obtain⟨ts,e1,e2,e3⟩:=ih t
     have ek:p.1=q.1:=My.qaL.mp h.1
     refine⟨(p.1,(p.2,q.2)) :: ts,by rw[zaf,<- e1],by rw[zaf,<- e2]; congr 1; rw[ek],fun t ht=>?_⟩
     rcases List.mem_cons.mp ht with e | e
     ·rw[e]; exact h.2
     ·exact e3 t e
 obtain⟨ts,e1,e2,e3⟩:=key h
 have d1:qT m=(qT ts).map fun t=>(t.1,t.2.1):=by rw[e1,qbx]
 have d2:qs=(qT ts).map fun t=>(t.1,t.2.2):=by
  have s1:qaD (qT ps):=qa6 ps hnd
  have:=qen (l:=qs) (m:=qT ps) hs s1 (hp.trans (qak ps).symm)
  rw[this,e2,qbx]
 rw[d1,d2]
 refine My.qbh _ fun t ht=>⟨rfl,e3 t ((qak ts).subset ht)⟩
noncomputable def qeq:List D->Option D
 | [.dT l]=>(intKeys l).bind fun m=>if m.length < 128/\(m.all fun p=>!p.1.isEmpty)=true then some (.lst ((qT m).map fun p=>.tup (p.1.map .int))) else none
 | _=>none
theorem qcQ{A:Av}{H:Hp}:∀ ns:List Int,RepL A H (ns.map .int) (ns.map V.int)
 | []=>.nil
 | n :: ns=>.cons (.int n) (qcQ ns)
theorem qhz(hc:X.calm=true):qfa X (.builtin "sorted") qeq:=by
 intro pins s σ H xs us Q I r h
 obtain⟨A,ds,d,lv,rl,e,q⟩:=h
 unfold qeq at e
 split at e
 case h_2=>cases e
 rename_i l
 obtain⟨m,e1,e⟩:=bind_some e
 split at e
 case isFalse=>cases e
 rename_i hcnd
 cases e
 obtain⟨v,rfl,h1⟩:=rl.one
 obtain⟨a,ys,rfl,h2,e3,r3⟩:=h1.dT_inv
 have el:=qbd e1
 subst el
 obtain⟨ps,rfl,e4⟩:=qbH e3
 obtain⟨_,_,hnd,_⟩:=My.qdF I h2
 have hlen:ps.length=m.length:=by have:=congrArg zbI e4; simpa using this
 refine My.qeW hc pins s σ H _ us Q I r ⟨a,ps,rfl,h2,by omega,fun p hp z=>?_,fun la us qs H2 sm n0 h3 pr pm so=>?_⟩
 ·have:p.1∈m.map (·.1):=by rw[<- e4]; exact List.mem_map.mpr ⟨p,hp,rfl⟩
  obtain⟨p',hp',ep⟩:=List.mem_map.mp this
  have:=List.all_eq_true.mp hcnd.2 p' hp'
  rw[ep,z] at this
  cases this
 ·have sb:=qdd (A:=A) (H:=H) hnd (qfY e3 r3) so pm
  have rl2:∀ {ts:List (List Int × D)} {qs:List (List Int × V)} {us:List V},Paired (fun (p:List Int × D) (q:List Int × V)=>p.1=q.1/\Rep A H p.2 q.2) ts qs->Paired (My.elK H2) us qs->RepL (fun b=>A b\/b=la) H2 (ts.map fun p=>.tup (p.1.map .int)) us:=by
   intro ts qs us h
   induction h generalizing us with
   | nil=>intro h; cases h; exact .nil
   | cons h t ih=>
    intro h'
    cases h' with
    | cons h' t'=>
     obtain⟨b,rfl,hb⟩:=h'
     exact .cons (.tup hb (by rw[h.1]; exact qcQ _)) (ih t')
  exact q la H2 (Ext.same sm) n0 (fun z=>lv la z n0) (.lst h3 (rl2 sb pr))
theorem qlf{o:Expr}{name:Str}{id:String}{r:V->List V->Hp->VK->Prop}{to:TE}{apos cpos:Pos}(slot:Slot "dict" name id)(hty:typeOf (.builtin id)=pure (.type "method_descriptor"))(hm:MtR X id r)(ho:PE X o to)
  (hbase:attributeBase o name X.env (eval o X.env)=eval o X.env:=by rfl) (hline:(apos.endLine == cpos.line)=true:=by rfl):PE X (.Call (.Attribute o name apos) [] [] cpos) (fun σ H Q=>to σ H fun x H1=>∃ a,x=.ref a/\IsD H1 a/\r x [] H1 Q):=by
 intro pins s σ H Q I h
 refine wpAny_Call_method0_late hbase hline (thn (ho pins s σ H _ I h) fun v s1 ⟨x,H1,I1,r1,a,ex,isd,q1⟩=>?_)
 subst ex
 cases r1
 obtain⟨h1,h2,_⟩:=qkY I1 isd
 exact⟨"dict",id,PySem.F.plainAttrs_dict,slot,hty,h1,h2,Calls.callWith_builtin rfl (PySem.evalArgs_none (hm pins s1 σ H1 (.ref a) [] (.ref a) [] Q I1 rfl .nil q1))⟩
noncomputable def qdC(g:D->Option D)(f:Ev):Ev:=fun ρ=>(f ρ).bind g
noncomputable def qep:D->Option D
 | .dT l=>(intKeys l).bind fun m=>if m.length < 128 then some (.lst ((qT m).map fun p=>.tup [.tup (p.1.map .int),p.2])) else none
 | _=>none
theorem qhF{o:Expr}{f:Ev}{p pos apos cpos:Pos}(hc:X.calm=true)(hu:X.A.units + 64 < cLine)(hg:Gl X "sorted")(hm:X.mg "sorted" = none)(ho:PB X O o f)
  (hp:∀ {to:TE},PE X o to->PE X (.Call (.Attribute o "items" apos) [] [] cpos) (fun σ H Q=>to σ H fun x H1=>∃ a,x=.ref a/\IsD H1 a/\My.qix x [] H1 Q))
  (he:zap [.Call (.Attribute o "items" apos) [] [] cpos] X.env=(false,eval (.Call (.Attribute o "items" apos) [] [] cpos) X.env) :: zap [] X.env:=by rfl) (hpl:(backTo pos (zap [] X.env)).any (·.1)=false:=by rfl) :
  PF X O (.Call (.Name "sorted" p) [.Call (.Attribute o "items" apos) [] [] cpos] [] pos) (qdC qep f):=by
 have main:CallR X (.builtin "sorted") (fun xs H Q=>∃ A r a ys m,xs=[.ref r]/\Live A H/\H r=some (.ext fun h=>h.IsItemsView r a)/\Rd H a (.dT ys)/\ys.map (·.1)=(m.map kI').map (·.1)/\RepL A H ((m.map kI').map (·.2)) (ys.map (·.2))/\m.length < 128/\∀ a H',Ext A H H'->H a=none->¬ A a->Own (fun b=>A b\/b=a) H' (.lst ((qT m).map fun p=>.tup [.tup (p.1.map .int),p.2])) a->Q (.ref a) H'):=by
  intro pins s σ H xs us Q I r h
  obtain⟨A,r',a,ys,m,rfl,lv,hr,h2,e3,r3,hlt,q⟩:=h
  obtain⟨ps,rfl,e4⟩:=qbH e3
  obtain⟨_,_,hnd,_⟩:=My.qdF I h2
  have hlen:ps.length=m.length:=by have:=congrArg zbI e4; simpa using this
  refine My.qe2 hc hu pins s σ H _ us Q I r ⟨r',a,ps,rfl,hr,h2,by omega,fun la us qs H2 sm n0 h3 pr pm so=>?_⟩
  have sb:=qdd (A:=A) (H:=H) hnd (qfY e3 r3) so pm
  have up:∀ {d:D} {v:V},Rep A H d v->Rep (fun b=>A b\/b=la) H2 d v:=fun r=>by
   have r1:Rep (fun b=>A b\/b=la) H _ _:=r.av fun b hb=>hb.imp id fun z=>by rw[z]; exact n0
   exact r1.ext (Ext.same sm)
  have rl2:∀ {ts:List (List Int × D)} {qs:List (List Int × V)} {us:List V},Paired (fun (p:List Int × D) (q:List Int × V)=>p.1=q.1/\Rep A H p.2 q.2) ts qs->Paired (My.elP H2) us qs->RepL (fun b=>A b\/b=la) H2 (ts.map fun p=>.tup [.tup (p.1.map .int),p.2]) us:=by
   intro ts qs us h
   induction h generalizing us with
   | nil=>intro h; cases h; exact .nil
   | cons h t ih=>
    intro h'
    cases h' with
    | cons h' t'=>
     obtain⟨a,b,rfl,ha,hb⟩:=h'
     exact .cons (.tup ha (.cons (.tup hb (by rw[h.1]; exact qcQ _)) (.cons (up h.2) .nil))) (ih t')
  exact q la H2 (Ext.same sm) n0 (fun z=>lv la z n0) (.lst h3 (rl2 sb pr))
 refine PE.mono (qcK main hg hm My.boot_sorted (qbA (hp ho) qdh he) (by decide) (by decide) he hpl) fun σ H Q ⟨H0,A0,A,E,ρ,d,st,e,q⟩=>?_
 obtain⟨x,ex,e⟩:=bind_some e
 cases x with
 | dT l=>
  obtain⟨m,e1,e⟩:=bind_some e
  split at e
  case isFalse=>cases e
  rename_i hlt
  cases e
  have el:=qbd e1
  subst el
  refine⟨H0,A0,A,E,ρ,_,st,ex,fun v H1 x1 r1=>?_⟩
  obtain⟨a,ys,rfl,h2,e3,r3⟩:=r1.dT_inv
  refine⟨a,rfl,.inr ⟨ys,h2⟩,a,ys,rfl,rfl,h2,fun r hr=>⟨A,r,a,ys,m,rfl,Live.ext (st.mono x1).live (Ext.new hr),qw,qbL (fun z=>?_) h2,e3,r3.ext (Ext.new hr),hlt,fun a' H' x' n na o=>?_⟩⟩
  ·subst z; rcases h2 with h2 | ⟨_,h2⟩ <;> (rw[hr] at h2; cases h2)
  ·have x2:=(x1.trans (Ext.new hr)).trans x'
   exact q a' H' x2 ((x1.trans (Ext.new hr)).free n) na o
 | _=>cases e
end
noncomputable def dSlA:D->Option Int->Option Int->Option D
 | .tup l,lo,hi=>some (.tup (cutD l lo hi))
 | .lst l,lo,hi=>some (.lst (cutD l lo hi))
 | _,_,_=>none
theorem sl_A{X:Cx}:SlR X (rS dSlA):=SlR.mono (SlR.or sl_T (SlR.mono sl_L fun x lo hi H Q (h:rS dSlL x lo hi H Q)=>by
  obtain⟨A,dx,d,lv,rx,e,q⟩:=h
  exact⟨A,dx,d,lv,rx,e,fun a H' x n na o=>q _ H' x ((o.av (A':=A) fun b hb=>.inl (.inl hb)).rep na)⟩)) fun x lo hi H Q ⟨A,dx,d,lv,rx,e,q⟩=>by
 cases dx with
 | tup l=>exact .inl ⟨A,_,d,lv,rx,e,q⟩
 | lst l=>exact .inr ⟨A,_,d,lv,rx,e,q⟩
 | _=>cases e
section
variable {ρ:Rho}{f g:Ev}{d x y:D}{i j:Int}{k:Nat}
@[simp] theorem q_seq{f g:Sv}:sSeq f g ρ=(f ρ).bind fun o=>match o with | .nx ρ'=>g ρ' | o=>some o:=rfl
@[simp] theorem q_set:sSet k f ρ=(f ρ).map fun d=>.nx (ρ.set k (some d)):=rfl
@[simp] theorem q_if{c:Bv}{f g:Sv}:sIf c f g ρ=(c ρ).bind fun b=>if b=true then f ρ else g ρ:=rfl
@[simp] theorem q_rt:sRt f ρ=(f ρ).map .rt:=rfl
@[simp] theorem q_nx:sNx ρ=some (.nx ρ):=rfl
@[simp] theorem q_asg{g:Gv}:sAsg f g ρ=(f ρ).bind fun d=>(g d ρ).map .nx:=rfl
@[simp] theorem q_for{f:Lv}{g:Gv}{b:Sv}:sFor f g b ρ=(f ρ).bind fun items=>forD g b items ρ:=rfl
@[simp] theorem q_app:sApp k f ρ=(eVar k ρ).bind fun x=>match x with
 | .lst l=>(f ρ).bind fun d=>if szOk l.length then some (.nx (ρ.set k (some (.lst (l ++ [d]))))) else none
 | _=>none:=rfl
@[simp] theorem q_put:sPut k f g ρ=(g ρ).bind fun e=>(eVar k ρ).bind fun x=>(f ρ).bind fun q=>(dPut x q e).map fun d=>.nx (ρ.set k (some d)):=rfl
@[simp] theorem q_var:eVar k ρ=(ρ[k]?).join:=rfl
@[simp] theorem q_c:eC d ρ=some d:=rfl
@[simp] theorem q_op{o:D->D->Option D}:eOp o f g ρ=(f ρ).bind fun x=>(g ρ).bind fun y=>o x y:=rfl
@[simp] theorem q_call{F:List D->Option D}{l:Lv}:qy F l ρ=(l ρ).bind F:=rfl
@[simp] theorem q_lnil:lNil ρ=some []:=rfl
@[simp] theorem q_lcons{l:Lv}:qb f l ρ=(f ρ).bind fun x=>(l ρ).bind fun xs=>some (x :: xs):=rfl
@[simp] theorem q_tup{l:Lv}:eTup l ρ=(l ρ).map .tup:=rfl
@[simp] theorem q_lst{l:Lv}:eLst l ρ=(l ρ).map .lst:=rfl
@[simp] theorem q_bind{o:D->Option D}:qdC o f ρ=(f ρ).bind o:=rfl
@[simp] theorem q_bof:bOf f ρ=(f ρ).bind asB:=rfl
@[simp] theorem q_asB{b:Bool}:asB (.bl b)=some b:=rfl
@[simp] theorem q_asI:asI (.int i)=some i:=rfl
@[simp] theorem q_bnot{c:Bv}:bNot c ρ=(c ρ).map (!·):=rfl
@[simp] theorem q_band{a b:Bv}:bAnd a b ρ=(a ρ).bind fun x=>if x=true then b ρ else some false:=rfl
@[simp] theorem q_bor{a b:Bv}:bOr a b ρ=(a ρ).bind fun x=>if x=true then some true else b ρ:=rfl
@[simp] theorem q_and:eAnd f g ρ=(f ρ).bind fun x=>(asB x).bind fun b=>if b=true then g ρ else some (.bl false):=rfl
@[simp] theorem q_not:eNot f ρ=(f ρ).bind fun x=>(asB x).map fun b=>.bl (!b):=rfl
@[simp] theorem q_neg:eNeg f ρ=(f ρ).bind fun d=>(asI d).map fun i=>.int (-i):=rfl
@[simp] theorem q_isi{n:String}:eIsi n f ρ=(f ρ).map fun d=>.bl (isiB n d):=rfl
@[simp] theorem q_get2{a b c:Ev}:qbI a b c ρ=(a ρ).bind fun d=>(b ρ).bind fun k=>(c ρ).bind fun e=>(qbT d k).map fun o=>o.getD e:=rfl
@[simp] theorem q_sl{o:D->Option Int->Option Int->Option D}{a b:Ov}:eSl o f a b ρ=(f ρ).bind fun x=>(a ρ).bind fun lo=>(b ρ).bind fun hi=>o x lo hi:=rfl
@[simp] theorem q_oN:qff ρ=some none:=rfl
@[simp] theorem q_oS:qcg f ρ=(f ρ).bind fun d=>(asI d).map some:=rfl
@[simp] theorem q_lR{o:List D->Option (List D)}{l:Lv}:lR o l ρ=(l ρ).bind o:=rfl
@[simp] theorem q_lSeq:lSeq f ρ=(f ρ).bind fun d=>match d with
 | .lst l=>some l
 | .tup l=>some l
 | .dT l=>some (l.map fun p=>.tup (p.1.map keyD))
 | _=>none:=rfl
@[simp] theorem q_comp{ms:List (Option Nat)}{it:Lv}{g:Gv}{c:Bv}:qdr ms it g c f ρ=(it ρ).bind fun items=>if szOk items.length then (qb2 g c f items (inS ms ρ)).map .lst else none:=rfl
@[simp] theorem q_yes:bYes ρ=some true:=rfl
@[simp] theorem q_name:qg k d ρ=some (ρ.set k (some d)):=rfl
@[simp] theorem q_gnil:qaf [] ρ=some ρ:=rfl
@[simp] theorem q_gcons{g:Gv}{h:Gsv}{ds:List D}:qu g h (d :: ds) ρ=(g d ρ).bind fun ρ'=>h ds ρ':=rfl
@[simp] theorem q_gtup{n:Nat}{h:Gsv}{l:List D}:qac n h (.tup l) ρ=if l.length=n then h l ρ else none:=rfl
@[simp] theorem q_sub:dSub (.int i) (.int j)=some (.int (i - j)):=rfl
@[simp] theorem q_addI:qhm (.int i) (.int j)=some (.int (i + j)):=rfl
@[simp] theorem q_ltI:dLt (.int i) (.int j)=some (.bl (decide (i < j))):=rfl
@[simp] theorem q_gtI:dGtI (.int i) (.int j)=some (.bl (decide (j < i))):=rfl
@[simp] theorem q_geI:dGeI (.int i) (.int j)=some (.bl (decide (j<=i))):=rfl
@[simp] theorem q_eqI:dEq (.int i) (.int j)=some (.bl (decide (i=j))):=by
 unfold dEq eqD
 rw[if_pos (.inl rfl)]
 simp
@[simp] theorem q_neI:dNe (.int i) (.int j)=some (.bl (!decide (i=j))):=by
 unfold dNe eqD
 rw[if_pos (.inl rfl)]
 simp
@[simp] theorem q_eqB{a b:Bool}:dEq (.bl a) (.bl b)=some (.bl (decide (a=b))):=by
 unfold dEq eqD
 rw[if_pos (.inl rfl)]
 simp
@[simp] theorem q_neB{a b:Bool}:dNe (.bl a) (.bl b)=some (.bl (!decide (a=b))):=by
 unfold dNe eqD
 rw[if_pos (.inl rfl)]
 simp
theorem qcr(h:0 < j):dMod (.int i) (.int j)=some (.int (i % j)):=if_pos h
theorem qih(h:0 < j)(h2:j < 1073741824):dDiv (.int i) (.int j)=some (.int (i / j)):=if_pos ⟨h,h2⟩
theorem qoP(h:My.CBig i j):qjL (.int i) (.int j)=some (.int (i * j)):=if_pos h
theorem qlo(h:0<=j)(h2:j<=1000000)(h3:i.natAbs < 2 ^ 64):dPow (.int i) (.int j)=some (.int (i ^ j.toNat)):=if_pos ⟨h,h2,h3⟩
@[simp] theorem q_notN:qj8 d .non=some (.bl (!qfR d)):=rfl
@[simp] theorem q_lenL{l:List D}:dLen [.lst l]=some (.int l.length):=rfl
@[simp] theorem q_lenT{l:List D}:dLen [.tup l]=some (.int l.length):=rfl
@[simp] theorem q_tuL{l:List D}:qb7 [.lst l]=some (.tup l):=rfl
@[simp] theorem q_tuT{l:List D}:qb7 [.tup l]=some (.tup l):=rfl
@[simp] theorem q_liL{l:List D}:qkM [.lst l]=some (.lst l):=rfl
@[simp] theorem q_liT{l:List D}:qkM [.tup l]=some (.lst l):=rfl
@[simp] theorem q_slT{l:List D}{lo hi:Option Int}:dSlA (.tup l) lo hi=some (.tup (cutD l lo hi)):=rfl
@[simp] theorem q_slL{l:List D}{lo hi:Option Int}:dSlA (.lst l) lo hi=some (.lst (cutD l lo hi)):=rfl
@[simp] theorem q_itL{l:List D}:qU (.lst l) (.int i)=atI l i:=rfl
@[simp] theorem q_itT{l:List D}:qU (.tup l) (.int i)=atI l i:=rfl
@[simp] theorem q_itD{l:List (List Key × D)}:qU (.dT l) d=(qbT (.dT l) d).join:=rfl
@[simp] theorem isi_int_int:isiB "int" (.int i)=true:=rfl
@[simp] theorem isi_bool_int:isiB "bool" (.int i)=false:=rfl
@[simp] theorem isi_tuple_tup{l:List D}:isiB "tuple" (.tup l)=true:=rfl
@[simp] theorem isi_list_lst{l:List D}:isiB "list" (.lst l)=true:=rfl
end
noncomputable def turn(g:Gv)(b:Sv)(x:D):Sv:=fun ρ=>(g x ρ).bind b
theorem qbM{g:Gv}{b:Sv}{items:List D}{ρ:Rho}(I:Nat->Rho->Prop)(h0:I 0 ρ)(hs:∀ i x ρ,items[i]?=some x->I i ρ->∃ ρ',turn g b x ρ=some (.nx ρ')/\I (i + 1) ρ'):∃ ρ',forD g b items ρ=some (.nx ρ')/\I items.length ρ':=by
 have gen:∀ (m:List D) (k:Nat) (ρ:Rho),items.drop k=m->k<=items.length->I k ρ->∃ ρ',forD g b m ρ=some (.nx ρ')/\I items.length ρ':=by
  intro m
  induction m with
  | nil=>
   intro k ρ e hk h
   have:items.length<=k:=by rw[List.drop_eq_nil_iff] at e; exact e
   have:k=items.length:=by omega
   subst this
   exact⟨ρ,rfl,h⟩
  | cons x m ih=>
   intro k ρ e hk h
   have hlt:k < items.length:=by
    rcases Nat.lt_or_ge k items.length with z | z
    ·exact z
    ·rw[List.drop_eq_nil_iff.mpr z] at e; cases e
   rw[zcp hlt] at e
   injection e with e1 e2
   obtain⟨ρ',h1,h2⟩:=hs k x ρ (by rw[<- e1]; simp[hlt]) h
   obtain⟨ρ2,h3,h4⟩:=ih (k + 1) ρ' e2 hlt h2
   refine⟨ρ2,?_,h4⟩
   unfold turn at h1
   obtain⟨ρ1,z1,z2⟩:=bind_some h1
   unfold forD
   rw[z1]
   show(b ρ1).bind _=_
   rw[z2]
   exact h3
 exact gen items 0 ρ rfl (zau _) h0
theorem qax{n:Nat}{f:Sv}{ds:List D}{d:D}(h:f (qz n ds)=some (.rt d)):runD n f ds=some d:=by
 unfold runD; rw[h]; rfl
theorem qJ{f g:Sv}{ρ ρ':Rho}(h:f ρ=some (.nx ρ')):sSeq f g ρ=g ρ':=by
 unfold sSeq; rw[h]; rfl
theorem if_f{c:Bv}{f g:Sv}{ρ:Rho}(h:c ρ=some false):sIf c f g ρ=g ρ:=by
 unfold sIf; rw[h]; rfl
theorem qZ{k:Nat}{f:Ev}{ρ:Rho}{d:D}(h:f ρ=some d):sSet k f ρ=some (.nx (ρ.set k (some d))):=by
 unfold sSet; rw[h]; rfl
theorem rt_v{f:Ev}{ρ:Rho}{d:D}(h:f ρ=some d):sRt f ρ=some (.rt d):=by
 unfold sRt; rw[h]; rfl
theorem qcC{f:Lv}{g:Gv}{b rest:Sv}{ρ:Rho}{items:List D}{out:Option Out}(hf:f ρ=some items)(I:Nat->Rho->Prop)(h0:I 0 ρ)(hs:∀ i x ρ,items[i]?=some x->I i ρ->∃ ρ',turn g b x ρ=some (.nx ρ')/\I (i + 1) ρ')(k:∀ ρ',I items.length ρ'->rest ρ'=out):sSeq (sFor f g b) rest ρ=out:=by
 obtain⟨ρ',e,h⟩:=qbM (g:=g) (b:=b) I h0 hs
 rw[qJ (by rw[q_for,hf]; exact e)]
 exact k ρ' h
open My (look put qm7 add1 qaw)
noncomputable def kD(t:My.Tm):List Key × D:=(t.1.map zao,.int t.2)
noncomputable def tupI(k:List Int):D:=.tup (k.map .int)
noncomputable def tmD(t:My.Tm):D:=.tup [tupI t.1,.int t.2]
theorem qe7:∀ k:List Int,asKs (k.map .int)=some (k.map zao)
 | []=>rfl
 | i :: k=>by rw[zaf,asKs,qe7 k]; rfl
@[simp] theorem asT_tupI(k:List Int):asT (tupI k)=some (k.map zao):=qe7 k
theorem qn4(cs:List My.Tm)(k:List Int):valD (cs.map kD) (k.map zao:List Key)=(look cs k).map D.int:=by
 induction cs with
 | nil=>rfl
 | cons t cs ih=>
  rw[zaf]
  by_cases e:t.1=k
  ·have:(kD t).1=k.map zao:=by show t.1.map zao=_; rw[e]
   simp[valD,look,zbf,this,e,kD]
  ·have:¬ (kD t).1=k.map zao:=by show ¬ t.1.map zao=_; rw[My.qaL]; exact e
   have a:valD (kD t :: cs.map kD) (k.map zao)=valD (cs.map kD) (k.map zao):=by simp[valD,zbf,this]
   rw[a,ih]
   simp[look,zbf,e]
theorem qkS(cs:List My.Tm)(k:List Int)(c:Int):putD (cs.map kD) (k.map zao:List Key) (.int c)=(put cs k c).map kD:=by
 unfold putD put
 have e:((cs.map kD).any fun kv=>decide (kv.1=(k.map zao:List Key)))=cs.any fun t=>decide (t.1=k):=by
  rw[List.any_map]
  congr 1
  funext t
  exact decide_eq_decide.mpr (My.qaL (a:=t.1) (b:=k))
 rw[e]
 by_cases h:(cs.any fun t=>decide (t.1=k))=true
 ·rw[if_pos h,if_pos h,zaD,zaD]
  congr 1
  funext t
  show(if t.1.map zao=(k.map zao:List Key) then ((t.1.map zao:List Key),D.int c) else kD t)=kD (if t.1=k then (t.1,c) else t)
  by_cases z:t.1=k
  ·rw[if_pos z,if_pos (My.qaL.mpr z)]; rfl
  ·rw[if_neg z,if_neg (fun q=>z (My.qaL.mp q))]
 ·rw[if_neg h,if_neg h,List.map_append]
  rfl
@[simp] theorem look_kD(cs:List My.Tm)(k:List Int):qbT (.dT (cs.map kD)) (tupI k)=some ((look cs k).map D.int):=by
 show(asT (tupI k)).map _=_
 rw[asT_tupI,zam,qn4]
theorem qfL{cs:List My.Tm}(k:List Int)(c:Int)(h:cs.length<=1000000):dPut (.dT (cs.map kD)) (tupI k) (.int c)=some (.dT ((put cs k c).map kD)):=by
 show(asT (tupI k)).bind _=_
 rw[asT_tupI,zan,if_pos (by rw[szOk,zaq]; exact decide_eq_true h),qkS]
theorem qcm(cs:List My.Tm):intKeys (cs.map kD)=some (cs.map fun t=>(t.1,D.int t.2)):=by
 have:=qbZ (cs.map fun t=>(t.1,D.int t.2))
 rw[zaD] at this
 exact this
theorem qmf(cs:List My.Tm):(cs.map kD).map (fun p=>D.tup (p.1.map keyD))=cs.map fun t=>tupI t.1:=by
 rw[zaD]
 congr 1
 funext t
 show D.tup ((t.1.map zao).map keyD)=tupI t.1
 rw[zaD]; rfl
theorem qcJ{α:Type}{f:α->D}{g:α->My.Dx}(h:∀ a,toX (f a)=some (g a)):∀ l:List α,toXs (l.map f)=some (l.map g)
 | []=>rfl
 | a :: l=>by rw[zaf,toXs,h a,qcJ h l]; rfl
theorem qms(a b:List Int):dLt (tupI a) (tupI b)=some (.bl (HT.lexLt a b)):=by
 have h:∀ k:List Int,qbP (k.map .int)=some k:=fun k=>by
  induction k with
  | nil=>rfl
  | cons i k ih=>rw[zaf,qbP,ih]; rfl
 show(qbP (a.map .int)).bind _=_
 rw[h a,zan,h b]; rfl
theorem qkr(cs:List My.Tm)(k:List Int):qgX (tupI k) (.dT (cs.map kD))=some (.bl (!(look cs k).isSome)):=by
 unfold qgX dInB
 rw[look_kD]
 simp
theorem qhJ{cs:List My.Tm}(h:cs.length < 128):qep (.dT (cs.map kD))=some (.lst ((qT cs).map tmD)):=by
 show(intKeys (cs.map kD)).bind _=_
 rw[qcm,zan,if_pos (by rw[zaq]; exact h)]
 have:(qT (cs.map fun t=>(t.1,D.int t.2)))=(qT cs).map fun t=>(t.1,D.int t.2):=(qbx D.int cs).symm
 rw[this,zaD]
 rfl
theorem qhc{cs:List My.Tm}(h:cs.length < 128)(h2:∀ t∈cs,t.1≠[]):qeq [.dT (cs.map kD)]=some (.lst ((qT cs).map fun t=>tupI t.1)):=by
 show(intKeys (cs.map kD)).bind _=_
 rw[qcm,zan,if_pos]
 ·have:(qT (cs.map fun t=>(t.1,D.int t.2)))=(qT cs).map fun t=>(t.1,D.int t.2):=(qbx D.int cs).symm
  rw[this,zaD]
  rfl
 ·refine⟨by rw[zaq]; exact h,?_⟩
  rw[List.all_map]
  refine List.all_eq_true.mpr fun t ht=>?_
  have:=h2 t ht
  cases e:t.1 with
  | nil=>exact absurd e this
  | cons _ _=>simp[e]
theorem qhf{k:List Int}(h:My.qce k):qdH k=true:=by
 obtain⟨h1,h2⟩:=h
 simp only[qdH,zaY,Bool.or_eq_true,beq_iff_eq,List.all_eq_true,decide_eq_true_eq]
 exact⟨h1,h2⟩
theorem qlT{cs:List My.Tm}(h:∀ t∈cs,My.qce t.1):qh2 [.dT (cs.map kD)]=some (.dT (cs.map kD)):=by
 show(intKeys (cs.map kD)).bind _=_
 rw[qcm,zan,if_pos]
 rw[List.all_map]
 exact List.all_eq_true.mpr fun t ht=>qhf (h t ht)
theorem cut2{n:Int}(hn:n=1\/n=2)(a b:Int):∃ k:List Int,cutD [.int a,.int b] none (some n)=k.map .int/\(k.length:Int)=n/\∀ e∈k,e=a\/e=b:=by
 rcases hn with rfl | rfl
 ·exact⟨[a],rfl,rfl,fun e he=>by simp at he; exact .inl he⟩
 ·exact⟨[a,b],rfl,rfl,fun e he=>by simpa using he⟩
noncomputable def qfi:D->Option (List D)
 | .lst l=>some l
 | .tup l=>some l
 | _=>none
noncomputable def zipL:List D->List D->List D
 | x :: xs,y :: ys=>.tup [x,y] :: zipL xs ys
 | _,_=>[]
noncomputable def lZip(f:Lv):Lv:=fun ρ=>(f ρ).bind fun ds=>match ds with
 | [a,b]=>(qfi a).bind fun xs=>(qfi b).map fun ys=>zipL xs ys
 | _=>none
theorem qet:∀ {xs ys:List D} {i:Nat} {d:D},(zipL xs ys)[i]?=some d->∃ x y,xs[i]?=some x/\ys[i]?=some y/\d=.tup [x,y]
 | [],_,i,d,h=>by simp[zipL] at h
 | _ :: _,[],i,d,h=>by simp[zipL] at h
 | x :: xs,y :: ys,0,d,h=>by simp[zipL] at h; exact⟨x,y,rfl,rfl,h.symm⟩
 | x :: xs,y :: ys,i + 1,d,h=>qet (xs:=xs) (ys:=ys) (i:=i) (by simpa[zipL] using h)
theorem qcc:∀ {xs ys:List D} {i:Nat},(zipL xs ys).length<=i->xs.length<=i\/ys.length<=i
 | [],_,i,_=>.inl (zau _)
 | _ :: _,[],i,_=>.inr (zau _)
 | x :: xs,y :: ys,0,h=>by simp[zipL] at h
 | x :: xs,y :: ys,i + 1,h=>(qcc (xs:=xs) (ys:=ys) (i:=i) (by simpa[zipL] using h)).imp (fun z=>by simpa using z) fun z=>by simpa using z
theorem qia{A:Av}{H:Hp}{K:zad}{d:D}{l:List D}{v:V}(h:qfi d=some l)(r:Rep A H d v):∃ t a xs,v=.ref a/\My.SqB K t H a xs/\RepL A H l xs/\∀ A' H',Rep A' H' d v->∃ ys,My.SqB K t H' a ys/\RepL A' H' l ys:=by
 cases d with
 | lst m=>
  cases h
  obtain⟨a,xs,rfl,h1,r1⟩:=RepB.lst_inv (.of r)
  refine⟨false,a,xs,rfl,.inl h1,r1,fun A' H' r'=>?_⟩
  obtain⟨a',ys,e,h2,r2⟩:=RepB.lst_inv (.of r')
  cases e
  exact⟨ys,.inl h2,r2⟩
 | tup m=>
  cases h
  obtain⟨a,xs,rfl,h1,r1⟩:=RepB.tup_inv (.of r)
  refine⟨true,a,xs,rfl,.inl (.inl h1),r1,fun A' H' r'=>?_⟩
  obtain⟨a',ys,e,h2,r2⟩:=RepB.tup_inv (.of r')
  cases e
  exact⟨ys,.inl (.inl h2),r2⟩
 | _=>cases h
theorem qlM{X:Cx}{O:List Nat}{elts:List Expr}{x1}{tp:Pos}{a b:Expr}{f:Lv}{p pos:Pos}(hg:Gl X "zip")(hm:X.mg "zip" = none)(ha:PDA X O [a,b] f)(hs:zap [a,b] X.env=[(false,eval a X.env),(false,eval b X.env)]:=by rfl)(hs2:zap [b] X.env=[(false,eval b X.env)]:=by rfl) :
  PDI X O (.Tuple elts x1 tp) (.Call (.Name "zip" p) [a,b] [] pos) (lZip f):=PI.mono (My.qn2 hg hm ha hs hs2) fun σ H R ⟨H0,A0,A,E,ρ,items,st,e,q⟩=>by
 obtain⟨ds,e1,e⟩:=bind_some e
 refine⟨H0,A0,A,E,ρ,ds,st,e1,fun vs H1 x1 r1=>?_⟩
 split at e
 case h_2=>cases e
 rename_i da db
 obtain⟨xs,e2,e⟩:=bind_some e
 obtain⟨ys,e3,rfl⟩:=map_some e
 obtain⟨v,w,rfl,r2,r3⟩:=r1.two
 obtain⟨t1,l1,us,rfl,q1,_,k1⟩:=qia (K:=X.K) e2 r2
 obtain⟨t2,l2,ws,rfl,q2,_,k2⟩:=qia (K:=X.K) e3 r3
 refine⟨t1,t2,l1,l2,us,ws,rfl,q1,q2,q _ H1 [.rep da (.ref l1),.rep db (.ref l2)] x1 (fun p hp=>?_) ?_⟩
 ·rcases List.mem_cons.mp hp with z | z
  ·rw[z]; exact r2
  ·rw[List.mem_singleton.mp z]; exact r3
 ·intro A' H' lv hE i
  have a1:Rep A' H' da (.ref l1):=hE (.rep da (.ref l1)) (zav ..)
  have a2:Rep A' H' db (.ref l2):=hE (.rep db (.ref l2)) (zaw _ (zav ..))
  obtain⟨us',g1,rl1⟩:=k1 A' H' a1
  obtain⟨ws',g2,rl2⟩:=k2 A' H' a2
  refine⟨fun hi=>⟨us',ws',g1,g2,(qcc hi).imp (fun z=>by rw[rl1.length]; exact z) fun z=>by rw[rl2.length]; exact z⟩,fun d hd=>?_⟩
  obtain⟨x,y,ex,ey,rfl⟩:=qet hd
  obtain⟨u,eu,ru⟩:=rl1.get' ex
  obtain⟨w,ew,rw'⟩:=rl2.get' ey
  refine⟨⟨us',ws',g1,g2,(List.getElem?_eq_some_iff.mp eu).1,(List.getElem?_eq_some_iff.mp ew).1⟩,fun x' H2 ⟨p,u',w',e4,n,e5,e6⟩=>?_⟩
  subst e4 e5
  obtain⟨z1,z2⟩:=e6 us' ws' g1 g2
  rw[eu] at z1; cases z1
  rw[ew] at z2; cases z2
  exact⟨Ext.new n,.tup qw (.cons (ru.ext (Ext.new n)) (.cons (rw'.ext (Ext.new n)) .nil))⟩
@[simp] theorem q_zip{f:Lv}{ρ:Rho}:lZip f ρ=(f ρ).bind fun ds=>match ds with
 | [a,b]=>(qfi a).bind fun xs=>(qfi b).map fun ys=>zipL xs ys
 | _=>none:=rfl
@[simp] theorem q_seqL{l:List D}:qfi (.lst l)=some l:=rfl
@[simp] theorem q_seqT{l:List D}:qfi (.tup l)=some l:=rfl
noncomputable def pwr(M v:Int):Nat->Int
 | 0=>1
 | k + 1=>(pwr M v k * v) % M
noncomputable def prodF(M:Int)(vs:List Int)(t:My.Tm):Int:=(t.1.zip vs).foldl (fun p ev=>p * pwr M ev.2 ev.1.toNat) t.2
noncomputable def sumF(M:Int)(vs:List Int)(ts:List My.Tm):Int:=(ts.map (prodF M vs)).sum
end P
namespace P
theorem len2{α:Type}:∀ {l:List α},l.length=2->∃ a b,l=[a,b]
 | [a,b],_=>⟨a,b,rfl⟩
 | [],h=>by simp at h
 | [_],h=>by simp at h
 | _ :: _ :: _ :: _,h=>by simp at h
end P
namespace P
open PySem PySem.Spec PyProof.Rows L2
theorem qis(vs:List Int):eqOk (.lst (vs.map .int))=true/\eqOk (.tup (vs.map .int))=true:=by
 have e:toXs (vs.map D.int)=some (vs.map My.Dx.int):=qcJ (g:=My.Dx.int) (fun _=>rfl) vs
 have n:=My.qh9 vs
 have d:=My.qgn vs
 constructor
 ·unfold eqOk
  rw[toX,e]
  show(My.Dx.nb _ && decide (My.Dx.dep _<=60))=true
  rw[My.Dx.nb,My.Dx.dep,n,Bool.true_and]
  exact decide_eq_true (by omega)
 ·unfold eqOk
  rw[toX,e]
  show(My.Dx.nb _ && decide (My.Dx.dep _<=60))=true
  rw[My.Dx.nb,My.Dx.dep,n,Bool.true_and]
  exact decide_eq_true (by omega)
theorem qf8{cs:List My.Tm}{k:List Int}{c:Int}{t:My.Tm}(h:t∈My.put cs k c):t=(k,c)\/t∈cs:=by
 unfold My.put at h
 split at h
 ·obtain⟨u,hu,e⟩:=List.mem_map.mp h
  split at e
  ·rename_i z; left; rw[<- e,z]
  ·right; rw[<- e]; exact hu
 ·rcases List.mem_append.mp h with z | z
  ·exact .inr z
  ·exact .inl (List.mem_singleton.mp z)
theorem qdL{cs:List My.Tm}(hnd:(cs.map (·.1)).Nodup):∀ (qs:List My.Tm) (o:Option D),(∀ q∈qs,q∈cs)->qb2 (qg 0) bYes (eTup (qb (eVar 0) (qb (eOp qU (eVar 1) (eVar 0)) lNil))) (qs.map fun t=>tupI t.1) [o,some (.dT (cs.map kD))]=some (qs.map tmD)
 | [],o,_=>rfl
 | t :: qs,o,h=>by
  have ih:=qdL hnd qs (some (tupI t.1)) fun q hq=>h q (zaw _ hq)
  have lk:=My.qbG hnd (h t (zav ..))
  rw[zaf,qb2]
  simp[lk,ih,tmD]
noncomputable def pick{α:Type}(l:List α)(lo hi st:Option Int):List α:=(sliceRange (zbD lo hi st l.length).1 (zbD lo hi st l.length).2.1 (zbD lo hi st l.length).2.2).filterMap (l[·]?)
theorem qgG{A:Av}{H:Hp}{ds:List D}{vs:List V}(r:RepL A H ds vs):∀ ix:List Nat,RepL A H (ix.filterMap (ds[·]?)) (ix.filterMap (vs[·]?))
 | []=>.nil
 | i :: ix=>by
  have ih:=qgG r ix
  rw[zb4,zb4]
  cases e:ds[i]? with
  | none=>
   have:vs[i]?=none:=List.getElem?_eq_none (by rw[r.length]; exact List.getElem?_eq_none_iff.mp e)
   rw[this]; exact ih
  | some d=>
   obtain⟨v,e1,e2⟩:=r.get' e
   rw[e1]; exact .cons e2 ih
theorem qe6{xs:List V}{us:List Value}(r:Vals xs us):∀ ix:List Nat,Vals (ix.filterMap (xs[·]?)) (ix.filterMap (us[·]?))
 | []=>.nil
 | i :: ix=>by
  have ih:=qe6 r ix
  rw[zb4,zb4]
  cases e:xs[i]? with
  | none=>rw[r.none_of e]; exact ih
  | some x=>
   obtain⟨u,e1,e2⟩:=r.get e
   rw[e1]; exact .cons e2 ih
noncomputable def dSl3:D->Option Int->Option Int->Int->Option D
 | .lst l,lo,hi,st=>if st≠0/\szOk (pick l lo hi (some st)).length=true then some (.lst (pick l lo hi (some st))) else none
 | _,_,_,_=>none
noncomputable def eSl3(f:Ev)(a b:Ov)(c:Ev):Ev:=fun ρ=>(f ρ).bind fun x=>(a ρ).bind fun lo=>(b ρ).bind fun hi=>(c ρ).bind fun z=>(asI z).bind fun st=>dSl3 x lo hi st
section
variable {X:Cx}{O:List Nat}
theorem qjf{e c:Expr}{lo hi:Option Expr}{p2 pos:Pos}{te tc:TE}{tl th:TO}(he:PE X e te)(hl:PO X lo tl)(hu:PO X hi th)(hc:PO X (some c) (qmF tc)) :
  PE X (.Subscript e (.Slice lo hi (some c) p2) pos) (fun σ H Q=>te σ H fun x H1=>tl σ H1 fun l H2=>th σ H2 fun u H3=>qmF tc σ H3 fun st H4=>∃ a xs,x=.ref a/\SqL X.K H4 a xs/\st≠some 0/\(pick xs l u st).length<=zal/\∀ p,H4 p=none->Q (.ref p) (upd H4 p (.lst (pick xs l u st)))):=by
 intro pins s σ H Q I h
 refine Subscript_ (thn (he pins s σ H _ I h) fun v s1 ⟨x,H1,I1,r1,q1⟩=>?_)
 refine wpAny_Slice (thn (hl pins s1 σ H1 _ I1 q1) fun vl s2 ⟨l,H2,I2,pl,q2⟩=>thn (hu pins s2 σ H2 _ I2 q2) fun vu s3 ⟨u,H3,I3,pu,q3⟩=>thn (hc pins s3 σ H3 _ I3 q3) fun vc s4 ⟨st,H4,I4,pc,a,xs,ex,hx,h0,hz4,q⟩=>?_)
 subst ex
 cases r1
 have I5:Inv X pins σ H4 { s4 with heap:=s4.heap.push { cls:=.type "slice",data:=.fields #[vl,vu,vc] } }:=I4.kept (t':=s4.toks) fun b ob q=>zah _ q
 obtain⟨its,r,ht,hz⟩:=I5.list hx
 have hlen:=r.length
 show wpAny (model X.prog X.w) X.A (subscriptTail e (.Slice lo hi (some c) p2) (.ref a) (.ref s4.heap.objs.size)) (EP X pins σ Q) X.xe { s4 with heap:=s4.heap.push { cls:=.type "slice",data:=.fields #[vl,vu,vc] } }
 refine tail_any (T := "list") (ops:=[.ref a,.ref s4.heap.objs.size]) (My.PlainL.isList ht).typeIs slot_list_getitem.lookup ?_ (by with_unfolding_all rfl)
 refine wpAny_getItem_list_slice (My.PlainL.isList ht) (Heap.IsSliceOf.new ..) pl pu pc h0 ?_ (by rw[zat]; omega)
 have ep:slicePick its.toArray l u st=(pick its l u st).toArray:=by unfold slicePick pick; simp
 rw[ep]
 have rp:Vals (pick xs l u st) (pick its l u st):=by unfold pick; rw[hlen]; exact qe6 r _
 exact⟨.ref _,_,I5.lnew (t':=s4.toks) rp hz4,rfl,q _ I5.fresh⟩
theorem qiG{e c:Expr}{lo hi:Option Expr}{p2 pos:Pos}{f fc:Ev}{a b:Ov}(he:PB X O e f)(hl:PDO X O lo a)(hu:PDO X O hi b)(hc:PD X O c fc):PF X O (.Subscript e (.Slice lo hi (some c) p2) pos) (eSl3 f a b fc):=
 PE.mono (qjf he hl hu (qiL hc)) <| by
  rintro σ H Q ⟨H0,A0,A,E,ρ,d,st,e,q⟩
  obtain⟨x,ex,e⟩:=bind_some e
  obtain⟨l,el,e⟩:=bind_some e
  obtain⟨h,eh,e⟩:=bind_some e
  obtain⟨z,ez,e⟩:=bind_some e
  obtain⟨k,ek,e⟩:=bind_some e
  rw[qcU ek] at ez
  cases x with
  | lst m=>
   simp only[dSl3] at e
   split at e
   case isFalse=>cases e
   rename_i hcnd
   cases e
   refine⟨H0,A0,A,E,ρ,_,st,ex,fun v H1 x1 r1=>⟨H0,A0,A,E,ρ,l,st.mono x1,el,fun H2 x2=>⟨H0,A0,A,E,ρ,h,st.mono (x1.trans x2),eh,fun H3 x3=>⟨H0,A0,A,E,ρ,_,st.mono ((x1.trans x2).trans x3),ez,fun w H4 x4 r4=>⟨k,RepB.int_inv (.of r4),?_⟩⟩⟩⟩⟩
   obtain⟨a,xs,rfl,h2,r2⟩:=(r1.ext ((x2.trans x3).trans x4)).lst_inv
   have x14:=((x1.trans x2).trans x3).trans x4
   have rp:RepL A H4 (pick m l h (some k)) (pick xs l h (some k)):=by unfold pick; rw[r2.length]; exact qgG r2 _
   exact⟨a,xs,rfl,.inl h2,fun z=>hcnd.1 (zaF z),by rw[rp.length]; exact qbS hcnd.2,fun p hp=>q p _ (x14.trans (Ext.new hp)) (x14.free hp) (fun z=>(st.mono x14).live p z hp) (.lst qw (rp.fresh hp))⟩
  | _=>cases e
end
end P
namespace My
open PySem PySem.Spec PyProof.Rows L2 PySem.SeqAt
section
variable {X:Cx}
theorem Inv.gone{pins:List (Addr × Obj)}{σ:L2.St}{H:Hp}{s:Shared}{h':Heap}{C:Addr}(I:Inv X pins σ H s)(f:FpOk X pins H C)(hs:za3 C s.heap h'):Inv X pins σ H { s with heap:=h' }:=by
 obtain⟨f0,f1,f2,f3,f4,f5⟩:=f
 refine I.call' (s':={ s with heap:=h' }) (ch:=[C]) rfl ⟨fun b o e n hb hx=>?_,fun b o e n hb hx=>?_,fun _ _ _ n _=>n,fun b o e hx=>?_,fun _ _ q=>q,fun _ _ _ q=>q,fun _ ps q=>⟨#[],by simpa using q⟩⟩ ?_ I.bare fun b hb=>?_
 ·exact(hs.2 b (fun z=>hx (z ▸ List.mem_singleton.mpr rfl))).trans e
 ·exact⟨o.slots,(hs.2 b (fun z=>hx (z ▸ List.mem_singleton.mpr rfl))).trans e⟩
 ·exact⟨o,(hs.2 b (fun z=>hx (z ▸ List.mem_singleton.mpr rfl))).trans e⟩
 ·intro b ob e
  refine(I.hok b ob e).stay (fun c w' hc q=>(hs.2 c ?_).trans q) (fun _ q=>q) fun _ _ q=>q
  rintro rfl
  rcases hc with z | z
  ·subst z; rw[f0] at e; cases e
  ·rw[f0] at z; cases z
 ·rw[List.mem_singleton.mp hb]
  exact⟨f3,f1,f4,f5⟩
theorem qmu{i:Nat}{x:Str}{elt tg iter:Expr}{ifs:List Expr}{scope:Scope}{pos pos' spos:Pos}{N:List Str}{cl:List (Str × Addr)}{wi:TI}{g:TG}{tt:TT}{te:TE}(hN:X.N.Nodup)(hix:X.N[i]?=some x)(hx:Loc X.env.scope x)
  (hc:X.calm=true) (cc:Clo X N scope cl) (hi:PI X tg iter wi) (hg:∀ C s H fp,PG (qad X N scope cl C s H fp) tg g) (ht:∀ C s H fp,PTs (qad X N scope cl C s H fp) ifs tt) (he:∀ C s H fp,PE (qad X N scope cl C s H fp) elt te)
  (hs:∀ x,foldedSetIterable iter X.env x=pure x:=by intro _; rfl) (hsw:swapsWith (.ListComp elt [⟨tg,iter,ifs,0⟩] scope pos) (some (.Name x pos')) spos.line X.env=pure true:=by rfl)
  (hf:X.fn x=true\/X.env.scope.names.lookup x=some .local:=by first | exact .inl rfl | exact .inr rfl) :
  PS X (.Assign [.Name x pos'] (.ListComp elt [⟨tg,iter,ifs,0⟩] scope pos) spos) (tAsg (qml wi g tt te (Start X N scope)) (qhl i)):=by
 intro pins s σ H D I h
 obtain⟨σ',sS,hw⟩:=h
 rw[exec_Assign_Name_used _ _ _ _ hsw]
 refine zaa (wpAny_standAt (zaa ?_))
 show wpAny _ X.A (do let _ <- comprehension (.ListComp elt [⟨tg,iter,ifs,0⟩] scope pos) scope X.env _ (newList []) false (eval iter X.env) (some (assign (.Name x pos') X.env))) _ _ s
 refine zaa (za0 (wpAny_comprehension_free (use:=some (assign (.Name x pos') X.env)) (Q:=fun _ s'=>SP X pins D .next s') rfl hs cc.clos cc.kind cc.names
  (thn (hi pins s σ H _ I hw) fun v s1 h1=>thn h1 fun itv s2 h2=>?_)) (fun _ s' hq=>zab (zab hq)) fun _ _ e=>e)
 obtain⟨it,fp,tn,J,H2,e,I2,T,st2,f2,q2⟩:=h2
 subst e
 refine qe3 (wi:=wi) (Q:=fun v H1=>qhl i v σ H1 D.nx) (RR:=fun acc C=>compPost (model X.prog X.w) X.A X.xe (some (assign (.Name x pos') X.env)) (fun _ s'=>SP X pins D .next s') acc C) hc cc hg ht he I2 T st2 f2 sS q2 ?_
 intro s3 s5 H3 H5 σ5 D1 I3 f3 I5 q
 obtain⟨m,hn,_⟩:=id I5.loc
 have I6:Inv X pins σ H5 s5:=comp_back I3 f3 I5 (Heap.SameBut.refl _ _)
 have fc:FpOk X pins H5 s3.heap.objs.size:=I3.fpOk (zae _) I5.free
 show wpAny _ X.A (assign (.Name x pos') X.env (.ref D1)) _ _ s5
 refine wpAny_assign_Name (qe8 (v:=.ref D1) I6 hN hix hx rfl (fun s7 I7 ⟨a,hs7,ha⟩=>?_) hf)
 have ne:s3.heap.objs.size≠a:=fun z=>by
  rcases ha with ha | ha
  ·exact fc.2.1 (z.trans ha)
  ·exact fc.2.2.2.2.1 x a ha z.symm
 exact⟨m,Heap.Ns.sameBut hn hs7 ne,fun h' hs'=>⟨_,H5,Inv.gone I7 fc hs',q⟩⟩
end
end My
namespace P
open PySem PySem.Spec PyProof.Rows L2 PySem.SeqAt
section
variable {X:Cx}{O O':List Nat}{L:Lp}
theorem qhe{i:Nat}{x:Str}{e:Expr}{pos pos':Pos}{f:Ev}(hp:PS X (.Assign [.Name x pos'] e pos) (tAsg (tD Rep O f) (qhl i)))(h:Sub O' (O.filter (· != i))=true):PSD X L O (.Assign [.Name x pos'] e pos) (sSet i f) O':=
 PS.mono hp <| by
  rintro T σ H ⟨H0,A0,A,E,ρ,out,st,e,p⟩
  obtain⟨d,e1,rfl⟩:=map_some e
  refine⟨H0,A0,A,E,ρ,d,st,e1,fun v H' x r=>?_⟩
  have st1:=(st.mono x).more r
  obtain⟨A',st'⟩:=st1.shut (O':=O') fun j hj=>(Sub.er h hj).1
  exact p A' _ H' ((st'.put (st'.ext _ (zav ..)) fun z=>(Sub.er h z).2 rfl).less fun q hq=>zaw _ hq)
theorem qo8{f:Ev}{σ:L2.St}{H:Hp}{Q:VK}:tD Rep O f σ H Q->tF O f σ H Q:=fun⟨H0,A0,A,E,ρ,d,st,e,q⟩=>
 ⟨H0,A0,A,E,ρ,d,st,e,fun a H' x n na o=>q _ H' x ((o.av (A':=A) fun b hb=>.inl (.inl hb)).rep na)⟩
theorem qjH{i:Nat}{x:Str}{elt tg iter:Expr}{ifs:List Expr}{scope:Scope}{pos pos' spos:Pos}{N:List Str}{cl:List (Str × Addr)}{ms:List (Option Nat)}{it:Lv}{g:Gv}{c:Bv}{f:Ev}(hN:X.N.Nodup)(hix:X.N[i]?=some x)(hx:Loc X.env.scope x)
  (hc:X.calm=true) (cc:My.Clo X N scope cl) (hst:qbY X scope N ms) (hn:(ms.all fun o=>match o with | some i=>!O.contains i | none=>true)=true) (hi:PDI X O tg iter it) (hg:∀ C s H fp,PDG (My.qad X N scope cl C s H fp) [] tg g)
  (ht:∀ C s H fp,My.PTs (My.qad X N scope cl C s H fp) ifs (tDT [] c)) (he:∀ C s H fp,PD (My.qad X N scope cl C s H fp) [] elt f) (h:Sub O' (O.filter (· != i))=true:=by rfl) (hs:∀ x,foldedSetIterable iter X.env x=pure x:=by intro _; rfl)
  (hsw:swapsWith (.ListComp elt [⟨tg,iter,ifs,0⟩] scope pos) (some (.Name x pos')) spos.line X.env=pure true:=by rfl) (hf:X.fn x=true\/X.env.scope.names.lookup x=some .local:=by first | exact .inl rfl | exact .inr rfl) :
  PSD X L O (.Assign [.Name x pos'] (.ListComp elt [⟨tg,iter,ifs,0⟩] scope pos) spos) (sSet i (qdr ms it g c f)) O':=
 qhe (PS.mono (My.qmu hN hix hx hc cc hi hg ht he hs hsw hf) fun T σ H w=>qgJ hst hn _ _ _ (qo8 w)) h
end
end P
namespace My
open PySem PySem.Spec PyProof.Rows L2 PySem.SeqAt
noncomputable def gSeq(K:zad)(n:Nat)(t:TGs):TG:=fun v σ H Q=>∃ a xs,v=.ref a/\(SqT K H a xs\/SqL K H a xs)/\xs.length=n/\t xs σ H Q
theorem qom{X:Cx}{pos:Pos}{es:List Expr}{k:Nat}{t:TGs}{n:Nat}(hc:X.calm=true)(h:PGs X es t)
  (hn:(zbl es X.env).length=n:=by rfl) (hst:(zbl es X.env).findIdx? (·.1)=none:=by rfl):PG X (.Tuple es k pos) (gSeq X.K n t):=by
 intro pins s σ H v u Q I r hw
 obtain⟨a,xs,e1,hq,hl,hw⟩:=hw
 subst e1
 rcases hq with hq | hq
 ·exact qbe hc h hn hst pins s σ H _ u Q I r ⟨a,xs,rfl,hq,hl,hw⟩
 ·cases r
  obtain⟨its,rv,ht,hz⟩:=I.list hq
  have hsz:(zbl es X.env).length=its.toArray.size:=by simp[hn,<- hl,rv.length]
  rw[assign_Tuple]
  refine zaa (wpAny_standAt ?_)
  unfold unpack
  rw[hsz,hst]
  refine zaa (zba (PySem.W.kun_itemsOf (I.ok.hd hc) (My.PlainL.isList ht) fun h' hx=>?_))
  have I1:Inv X pins σ H { s with heap:=h' }:=I.kept (t':=s.toks) fun b o e=>hx b o (zaA (zag e)) e
  exact h pins _ σ H xs _ Q I1 (by simpa using rv) hw
end My
namespace P
open PySem PySem.Spec PyProof.Rows L2 PySem.SeqAt
noncomputable def qfb(n:Nat)(k:Gsv):Gv:=fun d ρ=>match d with
 | .tup l=>if l.length=n then k l ρ else none
 | .lst l=>if l.length=n then k l ρ else none
 | _=>none
theorem qlW{X:Cx}{O:List Nat}{tg:Expr}{n:Nat}{k:Gsv}(hp:PG X tg (My.gSeq X.K n (tDGs O k))):PDG X O tg (qfb n k):=PG.mono hp <| by
 rintro v σ H Q ⟨H0,A0,A,E,ρ,d,ρ',st,r,e,q⟩
 cases d with
 | tup l=>
  obtain⟨a,xs,rfl,h,rl⟩:=RepB.tup_inv (.of r)
  by_cases hn:l.length=n
  ·simp only[qfb,if_pos hn] at e
   exact⟨a,xs,rfl,.inl (.inl (.inl h)),by rw[rl.length]; exact hn,H0,A0,A,E,ρ,l,ρ',st,rl,e,q⟩
  ·simp only[qfb,if_neg hn] at e; cases e
 | lst l=>
  obtain⟨a,xs,rfl,h,rl⟩:=RepB.lst_inv (.of r)
  by_cases hn:l.length=n
  ·simp only[qfb,if_pos hn] at e
   exact⟨a,xs,rfl,.inr (.inl h),by rw[rl.length]; exact hn,H0,A0,A,E,ρ,l,ρ',st,rl,e,q⟩
  ·simp only[qfb,if_neg hn] at e; cases e
 | _=>cases e
@[simp] theorem q_gseqT{n:Nat}{h:Gsv}{l:List D}{ρ:Rho}:qfb n h (.tup l) ρ=if l.length=n then h l ρ else none:=rfl
@[simp] theorem q_gseqL{n:Nat}{h:Gsv}{l:List D}{ρ:Rho}:qfb n h (.lst l) ρ=if l.length=n then h l ρ else none:=rfl
end P
namespace P
open PySem PySem.Spec PyProof.Rows L2
theorem qdP:∀ {l m:List My.Tm},qaD l->qaD m->(∀ t,t∈l↔t∈m)->l=m
 | [],[],_,_,_=>rfl
 | [],y :: ys,_,_,h=>by have:=(h y).mpr (zav ..); cases this
 | x :: xs,[],_,_,h=>by have:=(h x).mp (zav ..); cases this
 | x :: xs,y :: ys,h1,h2,h=>by
  have a1:=List.pairwise_cons.mp h1
  have a2:=List.pairwise_cons.mp h2
  have e:x=y:=by
   refine zcg fun ne=>?_
   have m1:x∈ys:=by
    rcases List.mem_cons.mp ((h x).mp (zav ..)) with z | z
    ·exact absurd z ne
    ·exact z
   have m2:y∈xs:=by
    rcases List.mem_cons.mp ((h y).mpr (zav ..)) with z | z
    ·exact absurd z.symm ne
    ·exact z
   have:=My.qe0 _ _ _ (a1.1 y m2) (a2.1 x m1)
   rw[My.qbX] at this; cases this
  subst e
  rw[qdP a1.2 a2.2 fun t=>⟨fun ht=>?_,fun ht=>?_⟩]
  ·rcases List.mem_cons.mp ((h t).mp (zaw _ ht)) with z | z
   ·subst z; have:=a1.1 t ht; rw[My.qbX] at this; cases this
   ·exact z
  ·rcases List.mem_cons.mp ((h t).mpr (zaw _ ht)) with z | z
   ·subst z; have:=a2.1 t ht; rw[My.qbX] at this; cases this
   ·exact z
noncomputable def cf(qs:List My.Tm)(k:List Int):Int:=(My.look qs k).getD 0
theorem qcu(q:My.Tm)(qs:List My.Tm)(k:List Int):cf (q :: qs) k=if q.1=k then q.2 else cf qs k:=by
 unfold cf My.look
 rw[zbf]
 by_cases e:q.1=k <;> simp[e]
theorem qfo{qs:List My.Tm}{k:List Int}(h:k ∉ qs.map (·.1)):cf qs k=0:=by
 induction qs with
 | nil=>rfl
 | cons q qs ih=>
  rw[qcu,if_neg (fun z=>h (by simp[z])),ih fun z=>h (by simp at z ⊢; exact .inr z)]
theorem qlD{m c:Int}(h:(2 * m + 1) ∣ 2 * c):(2 * m + 1) ∣ c:=by
 obtain⟨t,ht⟩:=h
 refine⟨c - m * t,?_⟩
 have:(2 * m + 1) * (c - m * t)=(2 * m + 1) * c - m * ((2 * m + 1) * t):=by rw[Int.mul_sub]; congr 1; rw[<- zbG,<- zbG,Int.mul_comm m]
 rw[this,<- ht]
 have e2:(2 * m + 1) * c=2 * (m * c) + c:=by rw[Int.add_mul,Int.one_mul,zbG]
 have e3:m * (2 * c)=2 * (m * c):=by rw[<- zbG,Int.mul_comm m 2,zbG]
 omega
theorem three{m q a b c:Int}(hq:(2 * m + 1) ∣ (q - 4))(h0:(2 * m + 1) ∣ a)(h1:(2 * m + 1) ∣ (a + b + c))(h2:(2 * m + 1) ∣ (a + b * 2 + c * q)):(2 * m + 1) ∣ b/\(2 * m + 1) ∣ c:=by
 have d:(2 * m + 1) ∣ 2 * c:=by
  have e:2 * c=(a + b * 2 + c * q) - (2 * (a + b + c)) + a - c * (q - 4):=by rw[Int.mul_sub]; omega
  rw[e]
  exact Int.dvd_sub (Int.dvd_add (Int.dvd_sub h2 (Int.dvd_mul_of_dvd_right h1)) h0) (Int.dvd_mul_of_dvd_right hq)
 have dc:=qlD d
 refine⟨?_,dc⟩
 have e:b=(a + b + c) - a - c:=by omega
 rw[e]
 exact Int.dvd_sub (Int.dvd_sub h1 h0) dc
theorem qeY{f:Lv}{g:Gv}{b rest:Sv}{ρ:Rho}{items:List D}{R:D->Prop}(hf:f ρ=some items)(I:Nat->Rho->Prop)(h0:I 0 ρ)(hs:∀ i x ρ,items[i]?=some x->I i ρ->∃ ρ',turn g b x ρ=some (.nx ρ')/\I (i + 1) ρ')(k:∀ ρ',I items.length ρ'->∃ d,rest ρ'=some (.rt d)/\R d):∃ d,sSeq (sFor f g b) rest ρ=some (.rt d)/\R d:=by
 obtain⟨ρ',e,h⟩:=qbM (g:=g) (b:=b) I h0 hs
 rw[qJ (by rw[q_for,hf]; exact e)]
 exact k ρ' h
theorem qdQ{n:Nat}{f:Sv}{ds:List D}{R:D->Prop}(h:∃ d,f (qz n ds)=some (.rt d)/\R d):∃ d,runD n f ds=some d/\R d:=by
 obtain⟨d,e,r⟩:=h
 exact⟨d,qax e,r⟩
theorem qj0{α β:Type}(f:α->β)(l:List α)(lo hi st:Option Int):pick (l.map f) lo hi st=(pick l lo hi st).map f:=by
 unfold pick
 rw[zaq,List.map_filterMap]
 congr 1
 funext i
 simp
@[simp] theorem q_sl3{f c:Ev}{a b:Ov}{ρ:Rho}:eSl3 f a b c ρ=(f ρ).bind fun x=>(a ρ).bind fun lo=>(b ρ).bind fun hi=>(c ρ).bind fun z=>(asI z).bind fun st=>dSl3 x lo hi st:=rfl
noncomputable def lpw(M v p:Int):Nat->Int
 | 0=>p
 | k + 1=>(lpw M v p k * v) % M
theorem qkQ{M v p:Int}(h0:0 < M)(h1:M < 10 ^ 60)(hp:-(10 ^ 60) < p/\p < 10 ^ 60):∀ k,-(10 ^ 60) < lpw M v p k/\lpw M v p k < 10 ^ 60
 | 0=>hp
 | k + 1=>by
  unfold lpw
  have a:=zbb (lpw M v p k * v) (show M≠0 by omega)
  have b:=zbg (lpw M v p k * v) h0
  omega
theorem qjq(M v p:Int):∀ k,lpw M v p k % M=p * pwr M v k % M
 | 0=>by unfold lpw pwr; rw[zbm]
 | k + 1=>by
  unfold lpw pwr
  rw[Int.emod_emod,Int.mul_emod,qjq M v p k,<- Int.mul_emod,zbG,Int.mul_emod p (pwr M v k * v % M),Int.emod_emod,<- Int.mul_emod]
noncomputable def qfw(M:Int)(vs:List Int)(t:My.Tm):Int:=(t.1.zip vs).foldl (fun p ev=>lpw M ev.2 p ev.1.toNat) t.2
theorem qiH(M:Int)(vs:List Int)(t:My.Tm):qfw M vs t % M=prodF M vs t % M:=by
 have:∀ (l:List (Int × Int)) (a b:Int),a % M=b % M->l.foldl (fun p ev=>lpw M ev.2 p ev.1.toNat) a % M=l.foldl (fun p ev=>p * pwr M ev.2 ev.1.toNat) b % M:=fun l=>by
  induction l with
  | nil=>intro a b h; exact h
  | cons x l ih=>
   intro a b h
   rw[List.foldl_cons,List.foldl_cons]
   refine ih _ _ ?_
   rw[qjq,Int.mul_emod,h,<- Int.mul_emod]
 exact this _ _ _ rfl
noncomputable def lsum(M:Int)(vs:List Int)(ts:List My.Tm):Int:=(ts.map (qfw M vs)).sum
theorem lsum_snoc(M:Int)(vs:List Int)(ts:List My.Tm)(t:My.Tm):lsum M vs (ts ++ [t])=lsum M vs ts + qfw M vs t:=by
 simp[lsum]
theorem qgR(M:Int)(vs:List Int):∀ ts:List My.Tm,lsum M vs ts % M=sumF M vs ts % M
 | []=>rfl
 | t :: ts=>by
  have ih:=qgR M vs ts
  unfold lsum sumF at ih ⊢
  rw[zaf,zaf,List.sum_cons,List.sum_cons,Int.add_emod,qiH,ih,<- Int.add_emod]
theorem qgS{a b:List Int}(h:tupI a=tupI b):a=b:=by
 have g:∀ {a b:List Int},a.map D.int=b.map D.int->a=b:=by
  intro a
  induction a with
  | nil=>intro b h; cases b with
   | nil=>rfl
   | cons _ _=>cases h
  | cons x a ih=>intro b h; cases b with
   | nil=>cases h
   | cons y b=>
    rw[zaf,zaf] at h
    injection h with h1 h2
    rw[D.int.inj h1,ih h2]
 exact g (D.tup.inj h)
theorem qmx{a b:My.Tm}(h:tmD a=tmD b):a=b:=by
 have:=D.tup.inj h
 injection this with h1 h2
 injection h2 with h2 h3
 exact Prod.ext (qgS h1) (D.int.inj h2)
theorem qfg:∀ {a b:List My.Tm},a.map tmD=b.map tmD->a=b
 | [],[],_=>rfl
 | [],_ :: _,h=>by cases h
 | _ :: _,[],h=>by cases h
 | x :: a,y :: b,h=>by
  rw[zaf,zaf] at h
  injection h with h1 h2
  rw[qmx h1,qfg h2]
theorem qiM(k:List Int):eqOk (tupI k)=true:=(qis k).2
theorem qgl(p:List My.Tm):eqOk (.tup (p.map tmD))=true:=by
 let g:My.Tm->My.Dx:=fun t=>.tup [.tup (t.1.map My.Dx.int),.int t.2]
 have e:toXs (p.map tmD)=some (p.map g):=qcJ (g:=g) (fun t=>by
  show toX (.tup [.tup (t.1.map D.int),.int t.2])=_
  rw[toX,toXs,toX,qcJ (g:=My.Dx.int) (fun _=>rfl) t.1]; rfl) p
 unfold eqOk
 rw[toX,e]
 show(My.Dx.nb _ && decide (My.Dx.dep _<=60))=true
 have n1:∀ t,(g t).nb=true:=fun t=>by
  show My.Dx.nb (.tup [.tup (t.1.map My.Dx.int),.int t.2])=true
  rw[My.Dx.nb,My.nbL,My.Dx.nb,My.qh9]; rfl
 have d1:∀ t,(g t).dep<=5:=fun t=>by
  show My.Dx.dep (.tup [.tup (t.1.map My.Dx.int),.int t.2])<=5
  have:=My.qgn t.1
  rw[My.Dx.dep,My.depL,My.Dx.dep,My.depL,My.depL,My.Dx.dep]; omega
 have d:=My.qeD d1 p
 rw[My.Dx.nb,My.Dx.dep,My.qfI n1 p,Bool.true_and]
 exact decide_eq_true (by omega)
theorem qgj(p q:List My.Tm):dEq (.tup (p.map tmD)) (.tup (q.map tmD))=some (.bl (decide (p=q))):=by
 unfold dEq eqD
 rw[if_pos (.inr ⟨rfl,rfl,qgl p,qgl q⟩),zam]
 congr 2
 exact decide_eq_decide.mpr ⟨fun h=>qfg (D.tup.inj h),fun h=>by rw[h]⟩
end P
namespace My
open PySem PySem.Spec PyProof.Rows L2 PySem.SeqAt
theorem qcH:fillsNumberSlot (.type "tuple") "mul" = pure false:=
 PySem.fillsNumberSlot_seq (id := "tuple.__mul__") (r:=some (.builtin "tuple.__rmul__")) PySem.F.slot_tuple_mul.lookup (by decide +kernel) PySem.F.slot_tuple_rmul.lookup (by decide +kernel)
theorem qfm:seqRepeat? (.type "tuple")=pure (some (.builtin "tuple.__mul__")):=by
 unfold seqRepeat?
 rw[PySem.seqSlot_of (T := "tuple") (name := "__mul__") (id := "tuple.__mul__") PySem.F.slot_tuple_mul.lookup (by decide +kernel),PySem.seqSlot_of (T := "tuple") (name := "__rmul__") (id := "tuple.__rmul__") PySem.F.slot_tuple_rmul.lookup (by decide +kernel)]
 rfl
theorem qdy(a:Int)(t:Tok)(l:Addr)(items:Array Value)(n:Nat)(dd sl) :
  Meets (Builtin.«int.__rmul__» ⟨[.int a t,.ref l],[]⟩) (fun _ R s=>s.heap.get? l=some { cls:=.type "tuple",dict:=dd,data:=.seq items n,slots:=sl }/\R (.ok (.ret Value.notImplemented)) s):=
 .of_wp fun prog w A R s h=>by obtain⟨hp,g,d,tk,os⟩:=s; obtain⟨hl,h⟩:=h; wp_walk; exact⟨_,rfl,h⟩
theorem qhy(t:Tok)(l:Addr)(items:Array Value)(n:Nat)(dd sl) :
  Meets (Builtin.«tuple.__mul__» ⟨[.ref l,.int 1 t],[]⟩) (fun _ R s=>s.heap.get? l=some { cls:=.type "tuple",dict:=dd,data:=.seq items n,slots:=sl }/\R (.ok (.ret (.ref l))) s):=
 .of_wp fun prog w A R s h=>by obtain⟨hp,g,d,tk,os⟩:=s; obtain⟨hl,h⟩:=h; wp_walk; exact⟨_,rfl,h⟩
theorem qhp(t:Tok)(l:Addr)(x:Value)(n:Nat)(dd sl) :
  Meets (Builtin.«tuple.__mul__» ⟨[.ref l,.int 2 t],[]⟩) (fun _ R s=>s.heap.get? l=some { cls:=.type "tuple",dict:=dd,data:=.seq #[x] n,slots:=sl }/\R (.ok (.ret (.ref s.heap.objs.size))) { s with heap:=s.heap.push { cls:=.type "tuple",data:=.seq #[x,x] } }):=
 .of_wp fun prog w A R s h=>by obtain⟨hp,g,d,tk,os⟩:=s; obtain⟨hl,h⟩:=h; wp_walk; exact⟨_,rfl,h⟩
theorem qll{prog:zai}{w:World}{A:Around}{E:Value->Shared->Prop}{s:Shared}{l:Addr}{y:Value}{x:Int}{u:Tok}{Q:Value->Shared->Prop}(ht:IsTup s.heap l #[y])(hx:x=1\/x=2)
  (h1:x=1->Q (.ref l) s) (h2:x=2->Q (.ref s.heap.objs.size) { s with heap:=s.heap.push { cls:=.type "tuple",data:=.seq #[y,y] } }):wpAny (model prog w) A (zaQ .Mult (.ref l) (.int x u)) Q E s:=by
 obtain⟨⟨cls,dd,data,sl⟩,ho,hc,n,hd⟩:=id ht
 simp only at hc hd
 subst hc hd
 refine wpAny_binaryOp_repeat_ref (T := "tuple") (U := "int") (by decide) ⟨_,ho,rfl⟩ (fun s'=>typeIs_int s' x u) qcH PySem.F.fills_int_mul PySem.F.slot_int_rmul qfm PySem.F.slot_int_index.lookup
  (call_meets PySem.F.slot_int_rmul (typeIs_int s x u) PySem.F.entry_int_rmul (PySem.F.args_int_rmul_2 _ _) (qdy x u l #[y] n dd sl) ⟨ho,rfl,⟨_,ho,rfl⟩,?_⟩)
 rcases hx with rfl | rfl
 ·exact call_meets PySem.F.slot_tuple_mul ⟨_,ho,rfl⟩ PySem.F.entry_tuple_mul (PySem.F.args_tuple_mul_2 _ _) (qhy u l #[y] n dd sl) ⟨ho,h1 rfl⟩
 ·exact call_meets PySem.F.slot_tuple_mul ⟨_,ho,rfl⟩ PySem.F.entry_tuple_mul (PySem.F.args_tuple_mul_2 _ _) (qhp u l y n dd sl) ⟨ho,h2 rfl⟩
end My
namespace P
open PySem PySem.Spec PyProof.Rows L2 PySem.SeqAt
noncomputable def qi1:D->D->Option D
 | .tup [x],.int n=>if n=1 then some (.tup [x]) else if n=2 then some (.tup [x,x]) else none
 | _,_=>none
section
variable {X:Cx}
theorem qlp:OpR X (zaQ .Mult) (fun x y H Q=>∃ a v n,x=.ref a/\y=.int n/\SqT X.K H a [v]/\(n=1\/n=2)/\(n=1->Q (.ref a) H)/\(n=2->∀ p,H p=none->Q (.ref p) (upd H p (.tup [v,v])))):=by
 intro pins s σ H x y v u Q I rx ry h
 obtain⟨a,w,n,rfl,rfl,ha,hn,q1,q2⟩:=h
 cases rx
 obtain⟨t,rfl⟩:∃ t,u=.int n t:=ry
 obtain⟨its,r1,p1,_⟩:=I.tuple ha
 cases r1 with
 | cons r0 rr=>
  cases rr
  rename_i y
  refine My.qll p1 hn (fun e=>⟨.ref a,H,I,rfl,q1 e⟩) fun e=>?_
  refine⟨.ref s.heap.objs.size,_,I.laid (t':=s.toks) (o:=.tup [w,w]) (fun b ob q=>zah _ q) (zae _) ?_,rfl,q2 e _ (I.hok.fresh (zae _))⟩
  exact⟨by show 2<=zal; decide,_,.cons r0 (.cons r0 .nil),IsTupN.new _ _⟩
theorem qmK:OpX X (zaQ .Mult) qi1:=OpR.mono qlp <| by
 rintro x y H Q ⟨A,dx,dy,d,lv,rx,ry,e,q⟩
 unfold qi1 at e
 split at e
 case h_2=>cases e
 rename_i d0 n
 obtain⟨a,xs,rfl,h1,r1⟩:=rx.tup_inv
 have:=ry.int_inv; subst this
 cases r1 with
 | cons r0 rr=>
  cases rr
  by_cases n1:n=1
  ·rw[if_pos n1] at e; cases e
   exact⟨a,_,n,rfl,rfl,.inl (.inl h1),.inl n1,fun _=>q _ H (Ext.refl _ _) (.tup h1 (.cons r0 .nil)),fun z=>by omega⟩
  ·rw[if_neg n1] at e
   by_cases n2:n=2
   ·rw[if_pos n2] at e; cases e
    exact⟨a,_,n,rfl,rfl,.inl (.inl h1),.inr n2,fun z=>absurd z n1,fun _ p hp=>q _ _ (Ext.new hp) (.tup qw (.cons (r0.ext (Ext.new hp)) (.cons (r0.ext (Ext.new hp)) .nil)))⟩
   ·rw[if_neg n2] at e; cases e
end
@[simp] theorem q_mulT1{x:D}:qi1 (.tup [x]) (.int 1)=some (.tup [x]):=rfl
@[simp] theorem q_mulT2{x:D}:qi1 (.tup [x]) (.int 2)=some (.tup [x,x]):=rfl
end P
namespace My
open PySem PySem.Spec PyProof.Rows L2 PySem.SeqAt
noncomputable def qmY(tk tv:TE):TE:=fun σ H Q=>∀ p,H p=none->tk σ (upd H p (.dT [])) fun x H1=>tv σ H1 fun y H2=>∃ k b,x=.ref b/\H2 p=some (.dT [])/\H2 b=some (.tup (k.map kV))/\Q (.ref p) (upd H2 p (.dT [(k,y)]))
theorem qj3{X:Cx}{pos:Pos}{k v:Expr}{tk tv:TE}(hu:X.A.units + 1 < cLine)(hk:PE X k tk)(hv:PE X v tv):PE X (.Dict [some k] [v] pos) (qmY tk tv):=by
 intro pins s σ H Q I q
 have hn:=I.hok.fresh (zae s.heap.objs.size)
 have I1:=I.laid (a:=s.heap.objs.size) (o:=.dT []) (h':=s.heap.push { cls:=.type "dict",data:=.dict #[] }) (t':=s.toks) (fun _ _ q=>zah _ q) (zae _) (qd1 s.heap I.big)
 refine wpAny_Dict_any rfl rfl (by simp) (by simp) ?_
 refine pairTrees_cons_walk (thn (hk pins _ σ _ _ I1 (q _ hn)) fun u s1 ⟨x,H1,I2,rx,q1⟩=>thn (hv pins s1 σ H1 _ I2 q1) fun w2 s2 ⟨y,H2,I3,ry,kk,b,ex,e,eb,q2⟩=>pairTrees_nil_walk ?_)
 subst ex
 cases(show u=zaj b from rx)
 obtain⟨z,hd,xs,rel,dd⟩:=qmG I3.hok e
 have hz:xs.length<=zal:=by rw[<- zbr rel]; exact z
 show wpAny _ X.A (storeAll s.heap.objs.size [(zaj b,w2)]) _ _ s2
 unfold storeAll
 refine zaa (zaa (wpAny_dictSet_heap (hsz:=hz) (show X.A.units < cLine by omega) (qdj I3.hok eb) dd fun h' dd' hs=>?_))
 refine zab (zab ?_)
 obtain⟨q,es,ep,hq,h2,h3,h4,_,h5⟩:=dd'
 refine⟨.ref s.heap.objs.size,_,qdl I3 (ob:=.dT (putK [] kk y)) (by rw[e]; exact zbu) hs ⟨q,hq⟩ ⟨za6 (qaC _ _ _) (by decide),hd,_,(rel.put kk eb ry).keeps fun c ys ec=>?_,q,es,ep,hq,h2,h3,h4,h5⟩,rfl,q2⟩
 rw[qt (qkj ec e (fun z=>nomatch z))]
 exact ec
end My
namespace P
open PySem PySem.Spec PyProof.Rows L2 PySem.SeqAt
theorem ST.aside{H0:Hp}{A0 A:Av}{E:List Fact}{O:List Nat}{σ:L2.St}{H:Hp}{ρ:Rho}(s:ST H0 A0 A E O σ H ρ){p:Addr}(hp:H p=none)(o:HO):ST H0 A0 (fun b=>A b\/b=p) E O σ (upd H p o) ρ:=by
 have up:∀ a,(A a\/a=p)->A a\/H a=none:=fun a ha=>ha.imp id fun z=>by rw[z]; exact hp
 refine⟨s.ex.trans (Ext.new hp),fun a ha=>.inl (s.sub a ha),s.l0,fun a ha=>?_,s.len,fun i d h n=>?_,fun i d h n=>?_,s.inj,fun q hq=>Fact.ext (Ext.new hp) (Fact.av up (s.ext q hq))⟩
 ·rcases ha with ha | ha
  ·rw[qt (fun z=>by subst z; exact s.live _ ha hp)]; exact s.live a ha
  ·subst ha; rw[qw]; exact fun z=>nomatch z
 ·obtain⟨v,h1,h2⟩:=s.val i d h n
  exact⟨v,h1,(h2.av up).ext (Ext.new hp)⟩
 ·obtain⟨a,e1,e2,e3,e4⟩:=s.own i d h n
  exact⟨a,e1,.inl e2,e3,Own.ext (Ext.new hp) (.inl e2) (e4.av up)⟩
noncomputable def qjc(fk fv:Ev):Ev:=fun ρ=>(fk ρ).bind fun k=>(fv ρ).bind fun v=>(asT k).map fun kk=>.dT [(kk,v)]
@[simp] theorem q_disp1{fk fv:Ev}{ρ:Rho}:qjc fk fv ρ=(fk ρ).bind fun k=>(fv ρ).bind fun v=>(asT k).map fun kk=>.dT [(kk,v)]:=rfl
theorem qjI{X:Cx}{O:List Nat}{k v:Expr}{pos:Pos}{fk fv:Ev}(hu:X.A.units + 1 < cLine)(hk:PB X O k fk)(hv:PD X O v fv):PF X O (.Dict [some k] [v] pos) (qjc fk fv):=
 PE.mono (My.qj3 hu hk hv) <| by
  rintro σ H Q ⟨H0,A0,A,E,ρ,d,st,e,q⟩
  obtain⟨dk,ek,e⟩:=bind_some e
  obtain⟨dv,ev,e⟩:=bind_some e
  obtain⟨kk,et,rfl⟩:=map_some e
  intro p hp
  have s1:=st.aside hp (.dT [])
  have na:¬ A p:=fun z=>st.live p z hp
  refine⟨H0,A0,_,E,ρ,dk,s1,ek,fun x H1 x1 r1=>⟨H0,A0,_,E,ρ,dv,s1.mono x1,ev,fun y H2 x2 r2=>?_⟩⟩
  obtain⟨b,rfl,hb⟩:=qeF et (r1.ext x2)
  have hp2:H2 p=some (.dT []):=(x1.trans x2).ow p _ (.inr rfl) qw
  have x02:Ext A H H2:=(Ext.new hp).trans ((x1.trans x2).mono fun a ha=>.inl ha)
  have ne0:∀ b,H b≠none->b≠p:=fun b hb z=>hb (by rw[z]; exact hp)
  refine⟨kk,b,rfl,hp2,hb,q p _ ?_ hp na (.dT qw rfl (.cons (r2.put (.inr rfl) hp2 trivial) .nil))⟩
  exact⟨fun b w r=>qbL (ne0 b (by rcases r with r | ⟨_,r⟩ <;> (rw[r]; exact fun z=>nomatch z))) (x02.rd b w r),
      fun b xs k r=>by rw[qt (ne0 b (by rw[r]; exact fun z=>nomatch z))]; exact x02.kp b xs k r,
      fun b w n r=>by rw[qt (ne0 b (by rw[r]; exact fun z=>nomatch z))]; exact x02.ow b w n r,
      fun b q w r=>by rw[qt (ne0 b (by rw[r]; exact fun z=>nomatch z))]; exact x02.fz b q w r⟩
end P
namespace My
open PySem PySem.Spec PyProof.Rows L2
section
variable {X:Cx}
theorem qjK{ns:List Int}{its:List Value}(r:Vals (ns.map V.int) its){i:Nat}{v:Value}(h:its[i]?=some v):∃ t,v=.int ((ns[i]?).getD 0) t:=by
 have hl:=r.length
 rw[zaq] at hl
 have hi:i < ns.length:=by rw[hl]; exact(List.getElem?_eq_some_iff.mp h).1
 have e:(ns.map V.int)[i]?=some (.int ns[i]):=by simp[hi]
 obtain⟨u,eu,ru⟩:=r.get e
 rw[h] at eu
 cases eu
 obtain⟨t,rfl⟩:=ru
 exact⟨t,by simp[hi]⟩
theorem qmE:OpR X (zaQ .Add) (fun x y H Q=>∃ a b ys,x=.ref a/\y=.ref b/\SqT X.K H a []/\SqT X.K H b ys/\Q (.ref b) H):=by
 intro pins s σ H x y v u Q I rx ry h
 obtain⟨a,b,ys,rfl,rfl,ha,hb,q⟩:=h
 cases rx
 cases ry
 obtain⟨its,r1,p1,_⟩:=I.tuple ha
 obtain⟨its2,r2,p2,_⟩:=I.tuple hb
 have e1:its=[]:=r1.nil_iff.mpr rfl
 subst e1
 obtain⟨⟨cls,dd,data,sl⟩,ho,hc,n,hd⟩:=p1
 obtain⟨⟨cls2,dd2,data2,sl2⟩,ho2,hc2,n2,hd2⟩:=p2
 have hc':cls=.type "tuple" := hc
 have hd':data=.seq #[] n:=hd
 have hc2':cls2=.type "tuple" := hc2
 have hd2':data2=.seq its2.toArray n2:=hd2
 subst hc' hd' hc2' hd2'
 exact concat_meets ⟨_,ho,rfl⟩ ⟨_,ho2,rfl⟩ noFill_tuple_add seq_tuple_add PySem.F.slot_tuple_add PySem.F.entry_tuple_add (PySem.F.args_tuple_add_2 _ _)
  (tuple_addW0 a b #[] its2.toArray n n2 dd dd2 sl sl2 rfl) ⟨ho,ho2,.ref b,H,I,rfl,q⟩
end
end My
namespace P
open PySem PySem.Spec PyProof.Rows L2
theorem qm{α β:Type}(a:α)(f:α->Option β):(some a).bind f=f a:=by rw[zan]
theorem qG{α β:Type}(a:α)(f:α->β):(some a).map f=some (f a):=by rw[zam]
section
variable {X:Cx}{O O':List Nat}{L:Lp}
open Classical in
noncomputable def qaK:D->D->Option D:=dI2 fun i j=>if My.CBig i j then some (.int (i * j)) else none
theorem qh8:qaK=qjL:=by
 unfold qaK qjL
 congr 1
theorem qb4:OpX X (zaQ .Mult) qaK:=by rw[qh8]; exact qna
theorem qg3{i j:Int}(h:My.CBig i j):qaK (.int i) (.int j)=some (.int (i * j)):=by rw[qh8]; exact qoP h
theorem qd7{i j:Int}(h:-(10 ^ 250) < i)(h1:i < 10 ^ 250)(h2:-(10 ^ 250) < j)(h3:j < 10 ^ 250):qaK (.int i) (.int j)=some (.int (i * j)):=qg3 ⟨⟨h,h1⟩,h2,h3⟩
theorem qc0:∀ ns:List Int,qbP (ns.map .int)=some ns
 | []=>rfl
 | n :: ns=>by rw[zaf,qbP,qc0 ns]; rfl
theorem RepL.rep{A:Av}{H:Hp}{ds:List D}{vs:List V}(r:RepL A H ds vs):∀ k:Nat,RepL A H (List.replicate k ds).flatten (List.replicate k vs).flatten
 | 0=>.nil
 | k + 1=>by rw[List.replicate_succ,List.replicate_succ,List.flatten_cons,List.flatten_cons]; exact r.append (RepL.rep r k)
noncomputable def qal(x y:D):Option D:=match x,y with
 | .tup l,.tup m=>if szOk (l.length + m.length) then some (.tup (l ++ m)) else none
 | x,y=>qhm x y
theorem qao:OpX X (zaQ .Add) qal:=OpR.mono (OpR.or qnV My.qmE) <| by
 rintro x y H Q ⟨A,dx,dy,d,lv,rx,ry,e,q⟩
 unfold qal at e
 split at e
 ·rename_i l m
  cases l with
  | nil=>
   by_cases hz:szOk (([]:List D).length + m.length)=true
   ·rw[if_pos hz] at e
    cases e
    obtain⟨a,xs,rfl,h1,r1⟩:=rx.tup_inv
    obtain⟨b,ys,rfl,h2,r2⟩:=ry.tup_inv
    cases r1
    exact .inr ⟨a,b,ys,rfl,rfl,.inl (.inl h1),.inl (.inl h2),q _ H (Ext.refl _ _) (.tup h2 r2)⟩
   ·rw[if_neg hz] at e; cases e
  | cons a l=>
   refine .inl ⟨A,_,_,d,lv,rx,ry,?_,q⟩
   rw[<- e]
   rfl
 ·exact .inl ⟨A,_,_,d,lv,rx,ry,e,q⟩
@[simp] theorem q_addAI{i j:Int}:qal (.int i) (.int j)=some (.int (i + j)):=rfl
@[simp] theorem q_addAT{l m:List D}:qal (.tup l) (.tup m)=if szOk (l.length + m.length) then some (.tup (l ++ m)) else none:=rfl
@[simp] theorem q_addAL{l m:List D}:qal (.lst l) (.lst m)=if szOk (l.length + m.length) then some (.lst (l ++ m)) else none:=rfl
@[simp] theorem q_addAS{l m:Str}:qal (.str l) (.str m)=if szOk (l.length + m.length) then some (.str (l ++ m)) else none:=rfl
end
end P
namespace My
open PySem PySem.Spec PyProof.Rows L2
open AutoSeq1 (wpAny_loadPart')
section
variable {prog:zai}{w:World}{A:Around}{E:Value->Shared->Prop}{s:Shared}
end
end My
namespace P
open PySem PySem.Spec PyProof.Rows L2
end P
namespace P
open L2
structure Ro where
 j:Int
 k:Int
 a:Int
 b:Int
 p:Int
noncomputable def fl{α:Type}(h:Nat->Ro->List α):Nat->List Ro->List α
 | _,[]=>[]
 | m,r :: rs=>h m r ++ fl h (m + 1) rs
noncomputable def sg(q:Nat->Ro->Int):Nat->List Ro->Int
 | _,[]=>0
 | m,r :: rs=>q m r + sg q (m + 1) rs
end P
namespace P
open PySem PySem.Spec PyProof.Rows L2
theorem qjw{n:Nat}(h:n<=1000000):qM [.int (n:Int)]=some (qai 0 1 n):=by
 show(if qc4 (n:Int) then _ else _)=_
 rw[if_pos (by simp only[qc4,zaY,decide_eq_true_eq]; omega)]
 simp
theorem at0{a:D}{l:List D}:atI (a :: l) 0=some a:=qco (j:=0) rfl
theorem at1{a b:D}{l:List D}:atI (a :: b :: l) 1=some b:=qco (j:=1) rfl
theorem qin(a b:List Int):dEq (tupI a) (tupI b)=some (.bl (decide (a=b))):=by
 unfold dEq eqD
 rw[if_pos (.inr ⟨rfl,rfl,qiM a,qiM b⟩)]
 show some (D.bl _)=_
 congr 2
 exact decide_eq_decide.mpr ⟨fun h=>qgS h,fun h=>by rw[h]⟩
theorem qhr{a b:Int}(ha:-1000<=a)(ha2:a<=1000)(hb:-1000<=b)(hb2:b<=1000):qcv [.int a,.int b,.int (-1)]=some (qai a (-1) (a - b).toNat):=by
 have e:My.rsz a b (-1)=(a - b).toNat:=by
  unfold My.rsz zbP
  rw[if_neg (by decide)]
  by_cases h:a > b
  ·rw[if_pos h,show -(-1:Int)=1 from rfl,Int.ediv_one]; omega
  ·rw[if_neg h]; omega
 have s:zcb a b (-1)=true:=by
  unfold zcb zbP
  simp only[Builtin.Range.rangeFitsLong,zaY,Bool.or_eq_true,decide_eq_true_eq,beq_iff_eq]
  rw[if_neg (by decide),show -(-1:Int)=1 from rfl,Int.ediv_one]
  have t:(if (-1:Int) > 0 then decide (-2 ^ 63<=b + (-1 - 1)) && decide (b + (-1 - 1) < 2 ^ 63) else decide (-2 ^ 63<=b + (-1 + 1)) && decide (b + (-1 + 1) < 2 ^ 63))=true:=by
   rw[if_neg (by decide),zaY]
   exact⟨decide_eq_true (by omega),decide_eq_true (by omega)⟩
  rw[t]
  refine⟨?_,.inr rfl⟩
  split <;> omega
 show(if (-1:Int)≠0/\(-1:Int).natAbs < 1000/\zcb a b (-1)=true then some (qai a (-1) (My.rsz a b (-1))) else none)=_
 rw[if_pos ⟨by decide,by decide,s⟩,e]
end P
namespace My
open PySem PySem.Spec PyProof.Rows L2
noncomputable def sItN(a:Bool):String:=if a=true then "str_ascii_iterator" else "str_iterator"
noncomputable def ItS(x:Str):It:=⟨fun i H=>i < x.cps.size,fun i H y H'=>H'=H/\∃ c,x.cps[i]?=some c/\y=.str ⟨#[c]⟩,fun i H=>x.cps.size<=i⟩
theorem qkz{P:zai}{w:World}{K:zad}{tg:Expr}(a:Bool)(x:Str)(t:Tok)(it:Addr):Turn P w K tg (ItS x) [it] it (fun i h=>h.IsStrIter it (sItN a) x t i) where
 mem:=by simp
 obj:=fun i h st b hb=>by
  have e:b=it:=by simpa using hb
  subst e
  obtain⟨o,e,c,d⟩:=st
  exact⟨o,e,fun v z=>by rw[d] at z; cases z⟩
 keep:=fun i h h' st k=>let ⟨o,ho,r⟩:=st; ⟨o,k it (by simp) o ho,r⟩
 item:=by
  intro X hP hw hK hc i pins s σ H E I hf st hg
  subst hP hw hK
  obtain⟨f0,f1,f2,f3,f4,f5⟩:=hf it (by simp)
  have hi:i < x.cps.size:=hg
  have hx:x.cps[i]?=some x.cps[i]:=by simp[hi]
  cases a with
  | true=>
   refine wpAny_pyNext_ascii_item st hx fun h' st' sb=>?_
   have I1:Inv X pins σ H { s with heap:=h',toks:=s.toks + 1 }:=I.turned (t':=s.toks + 1) (fun b o hb e=>(sb.2 b hb).trans e) f0 f1 f3 f4 f5
   obtain⟨o,e,c,d⟩:=id st'
   exact⟨_,rfl,qfH (s:={ s with heap:=h',toks:=s.toks + 1 }) e c d (by decide) ⟨.str ⟨#[x.cps[i]]⟩,H,I1,⟨_,rfl⟩,⟨rfl,_,hx,rfl⟩,st',fun b hb=>(hf b hb).1⟩⟩
  | false=>
   refine wpAny_pyNext_wide_item st hx fun h' st' sb=>?_
   have I1:Inv X pins σ H { s with heap:=h',toks:=s.toks + 1 }:=I.turned (t':=s.toks + 1) (fun b o hb e=>(sb.2 b hb).trans e) f0 f1 f3 f4 f5
   obtain⟨o,e,c,d⟩:=id st'
   exact⟨_,rfl,qfH (s:={ s with heap:=h',toks:=s.toks + 1 }) e c d (by decide) ⟨.str ⟨#[x.cps[i]]⟩,H,I1,⟨_,rfl⟩,⟨rfl,_,hx,rfl⟩,st',fun b hb=>(hf b hb).1⟩⟩
 done:=by
  intro X hP hw hK hc i pins s σ H E I hf st hg
  subst hP hw hK
  obtain⟨f0,f1,f2,f3,f4,f5⟩:=hf it (by simp)
  have hi:x.cps.size<=i:=hg
  have hx:x.cps[i]?=none:=by simp[hi]
  cases a with
  | true=>exact wpAny_pyNext_ascii_end (I.ok.hd hc) st hx fun h' eb=>⟨rfl,I.turned (t':=s.toks) (fun b o hb e=>eb b o hb e) f0 f1 f3 f4 f5⟩
  | false=>exact wpAny_pyNext_wide_end (I.ok.hd hc) st hx fun h' eb=>⟨rfl,I.turned (t':=s.toks) (fun b o hb e=>eb b o hb e) f0 f1 f3 f4 f5⟩
 self:=fun _ _ _ _ _ st h=>by
  cases a with
  | true=>exact wpAny_pyIter_striter_ascii st h
  | false=>exact wpAny_pyIter_striter_wide st h
noncomputable def iStr(tl:TE):TI:=fun σ H R=>tl σ H fun x H1=>∃ y,x=.str y/\R (ItS y) H1
section
variable {X:Cx}{tg:Expr}
theorem qoc{l:Expr}{tl:TE}(hl:PE X l tl):PI X tg l (iStr tl):=by
 intro pins s σ H R I h
 refine thn (hl pins s σ H _ I h) fun v s1 ⟨x,H1,I1,r1,q1⟩=>?_
 obtain⟨y,rfl,q⟩:=q1
 obtain⟨t,rfl⟩:=r1
 have fin:∀ a:Bool,PIE X pins σ tg R (.ref s1.heap.objs.size) { s1 with heap:=s1.heap.push { cls:=.type (sItN a),data:=.fields #[.str y t,.int 0 0] } }:=fun a=>by
  refine⟨s1.heap.objs.size,[s1.heap.objs.size],_,_,H1,rfl,I1.kept (t':=s1.toks) fun b o e=>zah _ e,qkz a y t _,⟨_,zay _ rfl,rfl,rfl⟩,fun b hb=>?_,q⟩
  have e:b=s1.heap.objs.size:=by simpa using hb
  subst e
  exact I1.fpOk (zae _) (I1.hok.fresh (zae _))
 cases ha:y.cps.all (· < 128)
 ·exact wpAny_pyIter_wide ha (fin false)
 ·exact wpAny_pyIter_ascii ha (fin true)
end
end My
namespace P
open PySem PySem.Spec PyProof.Rows L2
section
variable {X:Cx}{O O':List Nat}{L:Lp}
noncomputable def qea(x y:D):Option D:=match x,y with
 | .str i,.str j=>some (.bl (!(!(Builtin.Str.occurrences j i 0 j.length 1).isEmpty)))
 | x,y=>qgX x y
theorem qh5(hu:X.A.units + 64 < cLine):OpX X (zaL .NotIn) qea:=OpR.mono (OpR.or (qkt hu) qe4) <| by
 rintro x y H Q ⟨A,dx,dy,d,lv,rx,ry,e,q⟩
 unfold qea at e
 split at e
 ·cases e
  cases rx.str_inv
  cases ry.str_inv
  exact .inr ⟨_,_,rfl,rfl,q _ H (Ext.refl _ _) (.bl _)⟩
 ·exact .inl ⟨A,_,_,d,lv,rx,ry,e,q⟩
noncomputable def signs(x:Str):List D:=x.cps.toList.map fun c=>.str ⟨#[c]⟩
theorem qnO{x:Str}:ItOk (My.ItS x) [] (signs x):=by
 intro A H lv hE i
 have hl:(signs x).length=x.cps.size:=by simp[signs]
 refine⟨fun hi=>by rw[hl] at hi; exact hi,fun d hd=>?_⟩
 have hi:i < x.cps.size:=by rw[<- hl]; exact(List.getElem?_eq_some_iff.mp hd).1
 refine⟨hi,fun y H' ⟨e,c,hc,ey⟩=>?_⟩
 subst e ey
 have:d=.str ⟨#[c]⟩:=by
  unfold signs at hd
  rw[zaz] at hd
  obtain⟨c',e1,rfl⟩:=map_some hd
  have:x.cps[i]?=some c':=by rw[<- zb1]; exact e1
  rw[hc] at this; cases this; rfl
 subst this
 exact⟨Ext.refl _ _,.str _⟩
noncomputable def qaI(f:Ev):Lv:=fun ρ=>(f ρ).bind fun d=>match d with
 | .lst l=>some l
 | .tup l=>some l
 | .dT l=>some (l.map fun p=>.tup (p.1.map keyD))
 | .str x=>some (signs x)
 | _=>none
@[simp] theorem q_lSeqA{f:Ev}{ρ:Rho}:qaI f ρ=(f ρ).bind fun d=>match d with
 | .lst l=>some l
 | .tup l=>some l
 | .dT l=>some (l.map fun p=>.tup (p.1.map keyD))
 | .str x=>some (signs x)
 | _=>none:=rfl
theorem qab{tg e:Expr}{f:Ev}(h:PD X O e f):PDI X O tg e (qaI f):=PI.mono (PI.or (ql6 h) (My.qoc h)) <| by
 rintro σ H R ⟨H0,A0,A,E,ρ,items,st,e,q⟩
 obtain⟨d,e1,e⟩:=bind_some e
 cases d with
 | str x=>
  cases e
  refine .inr ⟨H0,A0,A,E,ρ,_,st,e1,fun v H1 x1 r1=>?_⟩
  cases RepB.str_inv (.of r1)
  exact⟨x,rfl,q _ H1 [] x1 (fun p hp=>nomatch hp) qnO⟩
 | lst l=>exact .inl ⟨H0,A0,A,E,ρ,items,st,by unfold lSeq; rw[e1]; exact e,q⟩
 | tup l=>exact .inl ⟨H0,A0,A,E,ρ,items,st,by unfold lSeq; rw[e1]; exact e,q⟩
 | dT l=>exact .inl ⟨H0,A0,A,E,ρ,items,st,by unfold lSeq; rw[e1]; exact e,q⟩
 | _=>cases e
end
section
variable {X:Cx}{O:List Nat}
end
@[simp] theorem q_eqS{a b:Str}:dEq (.str a) (.str b)=some (.bl (decide (a=b))):=by
 unfold dEq eqD
 rw[if_pos (.inl rfl)]
 by_cases h:a=b
 ·subst h; simp
 ·have h2:¬ D.str a=D.str b:=fun z=>h (by injection z)
  simp[h]
@[simp] theorem q_neS{a b:Str}:dNe (.str a) (.str b)=some (.bl (!decide (a=b))):=by
 unfold dNe eqD
 rw[if_pos (.inl rfl)]
 by_cases h:a=b
 ·subst h; simp
 ·have h2:¬ D.str a=D.str b:=fun z=>h (by injection z)
  simp[h]
noncomputable def eqN(n:Nat)(d:D):Prop:=∃ x,toX d=some x/\x.nb=true/\x.dep<=n
theorem eqN.ok{n:Nat}{d:D}(h:eqN n d)(hn:n<=60):eqOk d=true:=by
 obtain⟨x,e,a,b⟩:=h
 unfold eqOk
 rw[e]
 show(x.nb && decide (x.dep<=60))=true
 rw[a,decide_eq_true (by omega)]
 rfl
theorem eqN.mono{n m:Nat}{d:D}(h:eqN n d)(hn:n<=m):eqN m d:=by
 obtain⟨x,e,a,b⟩:=h
 exact⟨x,e,a,by omega⟩
theorem eqN.int{n:Nat}{i:Int}:eqN n (.int i):=⟨.int i,rfl,rfl,zau _⟩
theorem eqN.str{n:Nat}{s:Str}:eqN n (.str s):=⟨.str s,rfl,rfl,zau _⟩
theorem eqN.list{n:Nat}:∀ {l:List D},(∀ d∈l,eqN n d)->∃ xs,toXs l=some xs/\My.nbL xs=true/\My.depL xs<=n
 | [],_=>⟨[],rfl,rfl,zau _⟩
 | d :: l,h=>by
  obtain⟨x,e,a,b⟩:=h d (zav ..)
  obtain⟨xs,e2,a2,b2⟩:=eqN.list (l:=l) fun q hq=>h q (zaw _ hq)
  refine⟨x :: xs,?_,?_,?_⟩
  ·rw[toXs,e,e2]; rfl
  ·show(x.nb && My.nbL xs)=true
   rw[a,a2]; rfl
  ·show max x.dep (My.depL xs)<=n
   omega
theorem eqN.tup{n:Nat}{l:List D}(h:∀ d∈l,eqN n d):eqN (n + 1) (.tup l):=by
 obtain⟨xs,e,a,b⟩:=eqN.list h
 refine⟨.tup xs,?_,a,?_⟩
 ·rw[toX,e]; rfl
 ·show My.depL xs + 1<=n + 1
  omega
theorem qgp{α:Type}{f:Ev}{rest:List (Option D)}{g h:α->D}:∀ (l:List α) (o:Option D),(∀ a∈l,f (some (g a) :: rest)=some (h a))->qb2 (qg 0) bYes f (l.map g) (o :: rest)=some (l.map h)
 | [],o,_=>rfl
 | a :: l,o,hf=>by
  have ih:=qgp (f:=f) (rest:=rest) (g:=g) (h:=h) l (some (g a)) fun b hb=>hf b (zaw _ hb)
  have ha:=hf a (zav ..)
  simp[-zan,-zam,qm,qG,qb2,ha,ih]
theorem PD.pe{X:Cx}{O:List Nat}{e:Expr}{f:Ev}(h:PD X O e f):PE X e (tD Rep O f):=h
noncomputable def isStar:Expr->Bool
 | .Starred ..=>true
 | _=>false
theorem qau{e:Expr}{es:List Expr}{env:Env}(h:isStar e=false):zap (e :: es) env=(false,eval e env) :: zap es env:=by
 cases e <;> first | rfl | cases h
theorem qbR{pos:Pos}{env:Env}:∀ {es:List Expr},(es.all fun e=>!isStar e)=true->(backTo pos (zap es env)).any (·.1)=false
 | [],_=>by simp[zap,backTo]
 | e :: es,h=>by
  rw[List.all_cons,zaY] at h
  have he:isStar e=false:=by cases z:isStar e; rfl; rw[z] at h; exact absurd h.1 (by decide)
  have ih:=qbR (pos:=pos) (env:=env) (es:=es) h.2
  rw[qau he]
  simp only[backTo,zaf,List.any_cons,Bool.false_or] at ih ⊢
  exact ih
end P
namespace My
open PySem PySem.Spec PyProof.Rows L2 PySem.SeqAt
noncomputable def bst(val:Nat->Int):Nat->Nat->Int->Int
 | 0,_,m=>m
 | k + 1,j,m=>bst val k (j + 1) (if val j > m then val j else m)
theorem qjz(a v:Value):argsOk "max" ⟨[a],[(za5 "default",v)]⟩:=by unfold argsOk; kernel_rfl
section
variable {prog:zai}{w:World}{A:Around}{R:Result->Shared->Prop}{I S:Addr}{fp wr:List Addr}{n:Nat}{P:Nat->Value->Prop}{St:Nat->Heap->Prop}{kw:List (Str × Value)}
theorem qdc(W:Walks prog w A.in1 I fp wr n P St)(val:Nat->Int)(hv:∀ j v,P j v->∃ t,v=.int (val j) t)(nS:S ∉ fp):∀ (k j:Nat) (s:Shared) (m:Int) (t:Tok) (c:Nat),n - j=k->j<=n->St j s.heap->
  s.heap.get? S=some { cls:=.type "list",dict:=none,data:=.seq #[.int m t,.int m t] c,slots:=#[] }->
  (∀ t' h' tk,(∀ b o,b ∉ wr->b≠S->s.heap.get? b=some o->h'.get? b=some o)->R (.ok (.ret (.int (bst val k j m) t'))) { s with heap:=h',toks:=tk })->
  codeAny (model prog w) A (.builtin "max.loop" ⟨[.ref I,.none,.ref S],kw⟩) R s
 | k,j,s,m,t,c,hk,hj,st,gS,fin=>by
  have nw:S ∉ wr:=fun z=>nS (W.sub _ z)
  have nm:(toString "max" ++ toString ".loop" : String) = "max.loop" := by decide
  refine zbW PySem.F.entry_max_loop ?_
  rw[zbX zch _]
  show wpAny _ A.in1 (seqItems? (.ref S) >>= fun _=>_) _ _ s
  refine zaa (zbx gS rfl ?_)
  show wpAny _ A.in1 (tryCatch (pyNext (.ref I)) _ >>= fun _=>_) _ _ s
  match k,hk,fin with
  | 0,hk,fin=>
   have e:j=n:=by omega
   refine zaa (wpAny_tryCatch (W.done s _ _ (e ▸ st) fun h1 tk same=>?_))
   have gS1:=same S _ nw gS
   show wpAny _ A.in1 (updateSeq S (fun _=>#[]) >>= fun _=>_) _ _ _
   refine zaa (zb9 gS1 rfl (zaa (wpAny_letGo (zab ?_))))
   exact fin t _ tk fun b o nb nbS eb=>(zbC _ _ (zaK nbS)).trans (same b o nb eb)
  | k + 1,hk,fin=>
   have lt:j < n:=by omega
   refine zaa (wpAny_tryCatch (W.item j s _ _ lt st fun v h1 tk pv st1 same=>?_))
   have gS1:=same S _ nw gS
   obtain⟨u,rfl⟩:=hv j v pv
   show wpAny _ A.in1 (tryCatch (holding [.int (val j) u,.int (val j) u] (richCompare .Gt (.int (val j) u) (.int m t) >>= fun _=>_)) _ >>= fun _=>_) _ _ _
   refine zaa (wpAny_tryCatch (zba (zaa ?_)))
   refine richCompare_gives (op:=.Gt) (typeIs_int _ _ u) (typeIs_int _ _ t) PySem.F.slot_int_gt PySem.F.entry_int_gt (PySem.F.args_int_gt_2 _ _) (gives_int_gt _ _ u t) (fun z=>nomatch z) ?_
   refine zaa (zba (wpAny_truthy_bool ?_))
   refine zaa (wpAny_letGo (zab ?_))
   by_cases hb:val j > m
   ·rw[decide_eq_true hb]
    simp only[if_true]
    refine zaa (zb9 gS1 rfl (zaa (wpAny_letGo ?_)))
    rw[nm]
    refine zab ⟨zbE zch _,qdc W val hv nS k (j + 1) _ (val j) u _ (by omega) lt (W.frame _ _ _ st1 fun b bf o eb=>?_) (zbK _ gS1 rfl) fun t' h2 tk2 same2=>?_⟩
    ·exact(zbC _ _ (fun z:S=b=>nS (z ▸ bf))).trans eb
    ·have:=fin t' h2 tk2 fun b o nb nbS eb=>same2 b o nb nbS ((zbC _ _ (zaK nbS)).trans (same b o nb eb))
     rw[bst,if_pos hb] at this
     exact this
   ·rw[decide_eq_false hb]
    simp only[zbj,if_false]
    refine zaa (wpAny_letGo ?_)
    rw[nm]
    refine zab ⟨zbE zch _,qdc W val hv nS k (j + 1) _ m t c (by omega) lt st1 gS1 fun t' h2 tk2 same2=>?_⟩
    have:=fin t' h2 tk2 fun b o nb nbS eb=>same2 b o nb nbS (same b o nb eb)
    rw[bst,if_neg hb] at this
    exact this
theorem qhg{dv:Value}(W:Walks prog w A.in1 I fp wr n P St)(val:Nat->Int)(hv:∀ j v,P j v->∃ t,v=.int (val j) t)(nS:S ∉ fp){s:Shared}{c:Nat}(st:St 0 s.heap)
  (gS:s.heap.get? S=some { cls:=.type "list",dict:=none,data:=.seq #[] c,slots:=#[] })
  (f0:n=0->∀ h' tk,(∀ b o,b ∉ wr->b≠S->s.heap.get? b=some o->h'.get? b=some o)->R (.ok (.ret dv)) { s with heap:=h',toks:=tk })
  (fin:0 < n->∀ t' h' tk,(∀ b o,b ∉ wr->b≠S->s.heap.get? b=some o->h'.get? b=some o)->R (.ok (.ret (.int (bst val (n - 1) 1 (val 0)) t'))) { s with heap:=h',toks:=tk }) :
  codeAny (model prog w) A (.builtin "max.loop" ⟨[.ref I,.none,.ref S],[(za5 "default",dv)]⟩) R s:=by
 have nw:S ∉ wr:=fun z=>nS (W.sub _ z)
 have nm:(toString "max" ++ toString ".loop" : String) = "max.loop" := by decide
 refine zbW PySem.F.entry_max_loop ?_
 rw[zbX zch _]
 show wpAny _ A.in1 (seqItems? (.ref S) >>= fun _=>_) _ _ s
 refine zaa (zbx gS rfl ?_)
 show wpAny _ A.in1 (tryCatch (pyNext (.ref I)) _ >>= fun _=>_) _ _ s
 by_cases h0:n=0
 ·refine zaa (wpAny_tryCatch (W.done s _ _ (h0 ▸ st) fun h1 tk same=>?_))
  refine zaa (zbh (zab ?_))
  exact f0 h0 _ tk fun b o nb nbS eb=>same b o nb eb
 ·have lt:0 < n:=Nat.pos_of_ne_zero h0
  refine zaa (wpAny_tryCatch (W.item 0 s _ _ lt st fun v h1 tk pv st1 same=>?_))
  have gS1:=same S _ nw gS
  obtain⟨u,rfl⟩:=hv 0 v pv
  show wpAny _ A.in1 (updateSeq S (fun _=>#[.int (val 0) u,.int (val 0) u]) >>= fun _=>_) _ _ _
  refine zaa (zb9 gS1 rfl ?_)
  rw[nm]
  refine zab ⟨zbE zch _,qdc W val hv nS (n - 1) 1 _ (val 0) u _ rfl lt (W.frame _ _ _ st1 fun b bf o eb=>?_) (zbK _ gS1 rfl) fun t' h2 tk2 same2=>?_⟩
  ·exact(zbC _ _ (fun z:S=b=>nS (z ▸ bf))).trans eb
  ·exact fin lt t' h2 tk2 fun b o nb nbS eb=>same2 b o nb nbS ((zbC _ _ (zaK nbS)).trans (same b o nb eb))
end
noncomputable def maxL(d:Int):List Int->Int
 | []=>d
 | x :: xs=>xs.foldl (fun m y=>if y > m then y else m) x
theorem qgN(ns:List Int):∀ (k j:Nat) (m:Int),ns.length - j=k->bst (fun i=>(ns[i]?).getD 0) k j m=(ns.drop j).foldl (fun m y=>if y > m then y else m) m
 | 0,j,m,h=>by
  rw[List.drop_eq_nil_iff.mpr (by omega)]
  rfl
 | k + 1,j,m,h=>by
  have hj:j < ns.length:=by omega
  rw[bst,zcp hj,List.foldl_cons,qgN ns k (j + 1) _ (by omega)]
  simp[hj]
section
variable {X:Cx}
theorem qho(hc:X.calm=true){pins:List (Addr × Obj)}{s:Shared}{σ:L2.St}{H:Hp}{p:Addr}{ns:List Int}{d:Int}{t:Tok}{Q:VK}(I:Inv X pins σ H s)(hq:SqL X.K H p (ns.map V.int))(q:Q (.int (maxL d ns)) H) :
  wpAny (model X.prog X.w) X.A (call (.builtin "max") [.ref p] [(za5 "default",.int d t)]) (EP X pins σ Q) X.xe s:=by
 have nm:(toString "max" ++ toString ".loop" : String) = "max.loop" := by decide
 obtain⟨its,r',pl,hz⟩:=I.list hq
 have hl:s.heap.IsList p its.toArray:=pl.isList
 obtain⟨o,ho,hc',n,hd⟩:=id hl
 have hne:p≠s.heap.objs.size:=zaA (zag ho)
 have W:=Walks.list (prog:=X.prog) (w:=X.w) (A:=X.A.in1) (I.ok.hd hc) s.heap.objs.size p hne its.toArray
 refine kmk_tree PySem.F.kind_max PySem.F.plain_max PySem.F.entry_max (qjz _ _) ?_
 show wpAny _ X.A.in1 (Builtin.Builtins.bindParams "max" ["key", "default"] 0 ⟨[],[(za5 "default",.int d t)]⟩ >>= fun _=>_) _ _ s
 refine zaa (wpAny_of_eq (show Builtin.Builtins.bindParams "max" ["key", "default"] 0 ⟨[],[(za5 "default",.int d t)]⟩=pure [none,some (.int d t)] from rfl) ?_)
 refine zaa (zab (zaa (zb5 hl (zaa (wpAny_newList ?_ (zau _))))))
 rw[nm]
 refine zab ⟨zbE zch _,?_⟩
 have hlen:=r'.length
 rw[zaq] at hlen
 have sz:its.toArray.size=ns.length:=by rw[zat]; exact hlen.symm
 have keep:∀ h':Heap,(∀ b o,b ∉ [s.heap.objs.size]->b≠(s.heap.push { cls:=.type "list_iterator",data:=.fields #[.ref p,.int 0 0] }).objs.size->((s.heap.push { cls:=.type "list_iterator",data:=.fields #[.ref p,.int 0 0] }).push (seqObj "list" #[] 0)).get? b=some o->h'.get? b=some o)->∀ b o,s.heap.get? b=some o->h'.get? b=some o:=fun h' k b o e=>by
  have lt:=zag e
  refine k b o (fun z=>zaA lt (List.mem_singleton.mp z)) ?_ (zah _ (zah _ e))
  rw[size_push']
  exact zaA (Nat.lt_succ_of_lt lt)
 refine qhg W (fun i=>(ns[i]?).getD 0) (fun i v hP=>qjK r' (by simpa using hP)) (S:=(s.heap.push { cls:=.type "list_iterator",data:=.fields #[.ref p,.int 0 0] }).objs.size) ?_ ?_ (zay _ rfl) (fun h0 h' tk same=>?_) fun h0 t' h' tk same=>?_
 ·rw[size_push']
  intro z
  rcases List.mem_cons.mp z with z | z
  ·exact zaO (Nat.lt_succ_self _) z
  ·exact zaU _ (zbQ (Nat.lt_succ_self _) ((List.mem_singleton.mp z) ▸ zag ho))
 ·exact⟨⟨_,zah _ (zay _ rfl),rfl,rfl⟩,hl.at fun o e=>zah _ (zah _ e)⟩
 ·have e0:ns=[]:=List.length_eq_zero_iff.mp (by omega)
  subst e0
  exact⟨.int d,H,I.kept (t':=tk) (keep h' same),⟨t,rfl⟩,q⟩
 ·refine⟨.int (maxL d ns),H,I.kept (t':=tk) (keep h' same),⟨t',?_⟩,q⟩
  rw[sz]
  cases ns with
  | nil=>rw[sz] at h0; exact absurd h0 (zaU 0)
  | cons x xs=>
   rw[qgN (x :: xs) _ 1 _ (by simp)]
   rfl
end
end My
namespace P
open PySem PySem.Spec PyProof.Rows L2
section
variable {X:Cx}{O:List Nat}
noncomputable def qit(x y:D):Option D:=match x,y with
 | .lst l,.int d=>(qbP l).map fun ns=>.int (My.maxL d ns)
 | _,_=>none
@[simp] theorem q_maxD{ns:List Int}{d:Int}:qit (.lst (ns.map .int)) (.int d)=some (.int (My.maxL d ns)):=by unfold qit; simp only[qc0]; rfl
theorem qlL{e ed:Expr}{p pos kp:Pos}{fe fd:Ev}(hc:X.calm=true)(hg:Gl X "max")(hm:X.mg "max" = none)(he:PB X O e fe)(hd:PD X O ed fd)(hs:isStar e=false):PD X O (.Call (.Name "max" p) [e] [⟨some "default",ed,kp⟩] pos) (eOp qit fe fd):=by
 intro pins s σ H Q I h
 obtain⟨H0,A0,A,E,ρ,d,st,e0,q⟩:=h
 obtain⟨x,ex,e0⟩:=bind_some e0
 obtain⟨y,ey,e0⟩:=bind_some e0
 refine wpAny_Call_Name_kw (qdp I hg hm My.boot_max ?_ (by decide) (by decide))
 refine PyProof.Rows.callWith_kw (thn (qbA he qdh (qau hs) pos pins s σ H (fun vs H1=>∃ v,vs=[v]/\RepB A H1 x v/\Ext A H H1) I ⟨H0,A0,A,E,ρ,x,st,ex,fun v H1 x1 r1=>⟨v,rfl,r1,x1⟩⟩) fun us s1 ⟨vs,H1,I1,r1,v,ev,rv,x1⟩=>?_) (by rw[qau hs]; rfl) (qbR (by simp[hs]))
 subst ev
 refine thn (qlt (nm:=some "default") (kpos:=kp) hd qnB pos pins s1 σ H1 (fun vs H2=>∃ w,vs=[w]/\Rep A H2 y w/\Ext A H1 H2) I1 ⟨H0,A0,A,E,ρ,y,st.mono x1,ey,fun w H2 x2 r2=>⟨w,rfl,r2,x2⟩⟩) fun ws s2 ⟨zs,H2,I2,r2,w,ew,rw_,x2⟩=>?_
 subst ew
 unfold qit at e0
 split at e0
 ·obtain⟨ns,e1,rfl⟩:=map_some e0
  obtain⟨a,us',rfl,h1,r3⟩:=(rv.ext x2).lst_inv
  rw[qbE e1 r3] at h1
  cases rw_
  obtain⟨u,rfl,ru⟩:=vals1 r1
  cases ru
  obtain⟨u2,rfl,ru2⟩:=vals1 r2
  obtain⟨t,rfl⟩:=ru2
  exact My.qho hc I2 (.inl h1) (q _ H2 (x1.trans x2) (.int _))
 ·cases e0
end
end P
namespace My
open PySem PySem.Spec PyProof.Rows L2 PySem.SeqAt
theorem qbJ:entryFor table "dict.update.loop" = some Builtin.«dict.update.loop»:=entryFor_of_tree (by kernel_rfl)
theorem qav:plainId "dict.update.loop" = true:=by decide +kernel
theorem qdz:typeLookup (.type "list") (za5 "keys")=pure none:=by rw[typeLookup_type,builtinLookup_eq_fast]; kernel_rfl
theorem qc7:typeLookup (.type "tuple") (za5 "keys")=pure none:=by rw[typeLookup_type,builtinLookup_eq_fast]; kernel_rfl
section
variable {prog:zai}{w:World}{A:Around}{E:Value->Shared->Prop}{s:Shared}
theorem qdB{a:Addr}{o:Obj}{xs:Array Value}{k:Nat}{Q:Option Value->Shared->Prop}(hx:s.heap.get? a=some o)(hc:o.cls=.type "list")(hdat:o.data=.seq xs k)(hd:o.dict=none)(hA:A.handled=none)
  (h:∀ h' tk,(∀ b o,s.heap.get? b=some o->h'.get? b=some o)->Q none { s with heap:=h',toks:=tk }):wpAny (model prog w) A (getAttr? (.ref a) "keys") Q E s:=by
 obtain⟨c,dct,dat,sl⟩:=o
 simp only at hc hdat hd
 subst hc hdat hd
 obtain⟨hp,g,d,tk,os⟩:=s
 have hT:∀ tk',(⟨hp,g,d,tk',os⟩:Shared).TypeIs (.ref a) "list" := fun _=>⟨_,hx,rfl⟩
 have f1:=sub_AttributeError
 have f3:=PySem.F.slot_list_getattribute.lookup
 have f4:=PySem.F.slot_list_getattribute.bind (.ref a)
 have f5:=am_list_getattr_none
 unfold getAttr? getAttrBy? getAttrBy
 repeat (any_goals (first | assumption | exact hT _ | ((with_reducible show wpAny _ _ (call (Value.builtin "list.__getattribute__") _ _) _ _ _); refine call_meets PySem.F.slot_list_getattribute (hT _) am_entry_list_getattribute (PySem.F.args_list_getattribute_2 _ _) (meets_getattribute_miss_list a xs k sl (za5 "keys") _ qdz (by decide) (by size_fits)) ⟨hx,hA,fun h' tk' e hx'=>?_⟩) | wp_step))
 obtain⟨t',u',he⟩:=hx'.there
 show wpAny _ _ (getattributeRaised _ _ _ _ _ _ _) _ _ _
 unfold getattributeRaised
 repeat (any_goals (first | assumption | wp_step))
 exact h _ _ hx'.keeps
theorem qcX{a:Addr}{o:Obj}{xs:Array Value}{k:Nat}{Q:Option Value->Shared->Prop}(hx:s.heap.get? a=some o)(hc:o.cls=.type "tuple")(hdat:o.data=.seq xs k)(hd:o.dict=none)(hA:A.handled=none)
  (h:∀ h' tk,(∀ b o,s.heap.get? b=some o->h'.get? b=some o)->Q none { s with heap:=h',toks:=tk }):wpAny (model prog w) A (getAttr? (.ref a) "keys") Q E s:=by
 obtain⟨c,dct,dat,sl⟩:=o
 simp only at hc hdat hd
 subst hc hdat hd
 obtain⟨hp,g,d,tk,os⟩:=s
 have hT:∀ tk',(⟨hp,g,d,tk',os⟩:Shared).TypeIs (.ref a) "tuple" := fun _=>⟨_,hx,rfl⟩
 have f1:=sub_AttributeError
 have f3:=PySem.F.slot_tuple_getattribute.lookup
 have f4:=PySem.F.slot_tuple_getattribute.bind (.ref a)
 have f5:=am_tuple_getattr_none
 unfold getAttr? getAttrBy? getAttrBy
 repeat (any_goals (first | assumption | exact hT _ | ((with_reducible show wpAny _ _ (call (Value.builtin "tuple.__getattribute__") _ _) _ _ _); refine call_meets PySem.F.slot_tuple_getattribute (hT _) am_entry_tuple_getattribute (PySem.F.args_tuple_getattribute_2 _ _) (meets_getattribute_miss_tuple a xs k sl (za5 "keys") _ qc7 (by decide) (by size_fits)) ⟨hx,hA,fun h' tk' e hx'=>?_⟩) | wp_step))
 obtain⟨t',u',he⟩:=hx'.there
 show wpAny _ _ (getattributeRaised _ _ _ _ _ _ _) _ _ _
 unfold getattributeRaised
 repeat (any_goals (first | assumption | wp_step))
 exact h _ _ hx'.keeps
end
section
variable {X:Cx}{pins:List (Addr × Obj)}{σ:L2.St}{H:Hp}{s:Shared}{a:Addr}{y v:V}{u r:Value}{A:Around}{E:Value->Shared->Prop}
theorem qil{H':Hp}{Q:Unit->Shared->Prop}(hu:A.units + 1 < cLine)(I:Inv X pins σ H s)(g:DPut H a y v H')(ry:RelV y u)(rv:RelV v r)(h:∀ h' t',Inv X pins σ H' { s with heap:=h',toks:=t' }->za3 a s.heap h'->Q () { s with heap:=h',toks:=t' }) :
  wpAny (model X.prog X.w) A (dictSet a u r) Q E s:=by
 rcases g with⟨kvs,k,e,ey,l,eH⟩ | ⟨kvs,k,b,e,ey,eb,l,eH⟩
 ·subst ey eH
  obtain⟨z,hd,vs,rel,dd⟩:=qnd I.hok e
  have hz:vs.length<=zal:=by rw[<- rel.length]; exact z
  have hl:(putK kvs k v).length<=zal:=by have:=qaC kvs k v; omega
  refine wpAny_dictSet_pairs (hsz:=hz) (qhE ry) dd fun h' dd' hs=>h _ _ ?_ hs
  have he:∃ q,h'.get? a=some q:=let ⟨q,_,_,hq,_⟩:=dd'; ⟨q,hq⟩
  exact qdl I (by rw[e]; exact zbu) hs he (qk3 hl hd (rel.put k rv) dd')
 ·subst ey eH
  cases(show u=zaj b from ry)
  obtain⟨z,hd,xs,rel,dd⟩:=qmG I.hok e
  have hz:xs.length<=zal:=by rw[<- zbr rel]; exact z
  have hl:(putK kvs k v).length<=zal:=by have:=qaC kvs k v; omega
  refine wpAny_dictSet_heap (hsz:=hz) (show A.units < cLine by omega) (qdj I.hok eb) dd fun h' dd' hs=>h _ _ ?_ hs
  obtain⟨q,es,ep,hq,h2,h3,h4,_,h5⟩:=dd'
  refine qdl I (by rw[e]; exact zbu) hs ⟨q,hq⟩ ⟨hl,hd,_,(rel.put k eb rv).keeps fun c ys ec=>?_,q,es,ep,hq,h2,h3,h4,h5⟩
  rw[qt (qkj ec e (fun z=>nomatch z))]
  exact ec
end
inductive Puts(d:Addr):Hp->List (V × V)->Hp->Prop where
 | nil {H:Hp}:Puts d H [] H
 | cons {H H1 H2:Hp} {y v:V} {l:List (V × V)} (h:DPut H d y v H1) (t:Puts d H1 l H2):Puts d H ((y,v) :: l) H2
theorem qgE{H H':Hp}{a:Addr}{y v:V}(g:DPut H a y v H'):(∃ u,H a=some u/\(∀ xs,u≠.tup xs)/\∀ o w,u≠.frz o w)/\∀ b,b≠a->H' b=H b:=by
 rcases g with⟨kvs,k,e,ey,l,eH⟩ | ⟨kvs,k,b,e,ey,eb,l,eH⟩
 ·subst eH; exact⟨⟨_,e,(fun _ z=>nomatch z),(fun _ _ z=>nomatch z)⟩,fun b hb=>qt hb⟩
 ·subst eH; exact⟨⟨_,e,(fun _ z=>nomatch z),(fun _ _ z=>nomatch z)⟩,fun b hb=>qt hb⟩
theorem qj6{K:zad}{H H':Hp}{a:Addr}{y v:V}(g:DPut H a y v H'){b:Addr}{xs:List V}(h:SqT K H b xs):SqT K H' b xs:=by
 obtain⟨⟨u,e,n1,n2⟩,same⟩:=qgE g
 rcases h with (h | ⟨o,h⟩) | h
 ·exact .inl (.inl (by rw[same b (fun z=>by rw[z,e] at h; exact n1 _ (zaF h))]; exact h))
 ·exact .inl (.inr ⟨o,by rw[same b (fun z=>by rw[z,e] at h; exact n2 _ _ (zaF h))]; exact h⟩)
 ·exact .inr h
section
variable {X:Cx}{pins:List (Addr × Obj)}{σ:L2.St}{A:Around}{R:Result->Shared->Prop}{it d:Addr}{fp:List Addr}{n:Nat}{P:Nat->Value->Prop}{St:Nat->Heap->Prop}{H2:Hp}
theorem qcp(W:Walks X.prog X.w A.in1 it fp [it] n P St)(hd:d ∉ fp)(hu:A.in1.units + 1 < cLine)(fin:∀ s',Inv X pins σ H2 s'->R (.ok (.ret .none)) s'):∀ (l:List (V × V)) (j:Nat) (s:Shared) (H:Hp) (t:Tok) (i:Int),n - j=l.length->j<=n->St j s.heap->Inv X pins σ H s->FpOk X pins H it->
  (∀ (m:Nat) (p:V × V) (v:Value),l[m]?=some p->P (j + m) v->∃ b,v=.ref b/\SqT X.K H b [p.1,p.2])->Puts d H l H2->
  codeAny (model X.prog X.w) A (.builtin "dict.update.loop" ⟨[.ref d,.ref it,.int i t,.none],[]⟩) R s
 | [],j,s,H,t,i,hn,hj,st,I,fo,facts,pu=>by
  cases pu
  obtain⟨f0,f1,f2,f3,f4,f5⟩:=fo
  have e:j=n:=by simp at hn; omega
  subst e
  refine zbW qbJ ?_
  rw[zbX qav _]
  show wpAny _ A.in1 (pyNext (.ref it) >>= fun _=>_) _ _ s
  refine zaa (W.done s _ _ st fun h1 tk same=>?_)
  show wpAny _ _ (Builtin.Dict.addKeywords d [] >>= _) _ _ _
  exact zaa (zab (zab (fin _ (I.turned (t':=tk) (fun b o hb e=>same b o (by simpa using hb) e) f0 f1 f3 f4 f5))))
 | (y,v) :: l,j,s,H,t,i,hn,hj,st,I,fo,facts,pu=>by
  obtain⟨f0,f1,f2,f3,f4,f5⟩:=id fo
  cases pu with
  | @cons _ H1 _ _ _ _ dp pu=>
  have lt:j < n:=by rw[zaW] at hn; omega
  refine zbW qbJ ?_
  rw[zbX qav _]
  show wpAny _ A.in1 (pyNext (.ref it) >>= fun _=>_) _ _ s
  refine zaa (W.item j s _ _ lt st fun v1 h1 tk pv st1 same=>?_)
  obtain⟨b,rfl,sq⟩:=facts 0 (y,v) v1 rfl pv
  have I1:Inv X pins σ H { s with heap:=h1,toks:=tk }:=I.turned (t':=tk) (fun b o hb e=>same b o (by simpa using hb) e) f0 f1 f3 f4 f5
  obtain⟨its,rv,ht,hz⟩:=I1.tuple sq
  cases rv with
  | @cons _ u _ us ru rt=>
  cases rt with
  | @cons _ r _ us2 rr rt2=>
  cases rt2
  obtain⟨o,ho,hc,nn,hdt⟩:=id ht
  show wpAny _ A.in1 (holding [zaj b] _ >>= fun _=>_) _ _ _
  refine zaa (zba ?_)
  refine zaa (wpAny_tryCatch ?_)
  unfold Builtin.Dict.pairItems
  refine zaa (wpAny_typeOf ht.typeIs ?_)
  rw[if_pos (by decide)]
  refine zaa (zbx ho hdt (zab ?_))
  show wpAny _ A.in1 (holding [u,r] (dictSet d u r)) _ _ _
  refine zba (qil hu I1 dp ru rr fun h2 t2 I2 sb=>?_)
  obtain⟨⟨uo,eu,_,_⟩,sameH⟩:=qgE dp
  have nd:it≠d:=fun z=>by rw[<- z,f0] at eu; cases eu
  refine zab ⟨zbE qav _,qcp W hd hu fin l (j + 1) _ H1 _ _ (by rw[zaW] at hn; omega) lt (W.frame _ _ _ st1 fun b bf o eb=>?_) I2 ⟨by rw[sameH it nd]; exact f0,f1,f2,f3,f4,f5⟩ (fun m p v2 hm hp=>?_) pu⟩
  ·exact(sb.2 b (fun z=>hd (z ▸ bf))).trans eb
  ·obtain⟨c,e,sq⟩:=facts (m + 1) p v2 (by simpa using hm) (by rw[show j + (m + 1)=j + 1 + m by omega]; exact hp)
   exact⟨c,e,qj6 dp sq⟩
end
section
variable {X:Cx}
noncomputable def Src(X:Cx)(H:Hp)(p:Addr)(ys:List V):Prop:=SqL X.K H p ys\/Rd H p (.tup ys)
theorem qhi(hc:X.calm=true)(hu:X.A.units + 64 < cLine):CallR X (.type "dict") (fun xs H Q=>∃ p ys l,xs=[.ref p]/\Src X H p ys/\l.length=ys.length/\(∀ (m:Nat) (pr:V × V),l[m]?=some pr->∃ b,ys[m]?=some (.ref b)/\SqT X.K H b [pr.1,pr.2]) /\
  ∀ q,H q=none->∃ H2,(Puts q (upd H q (.dK [])) l H2\/Puts q (upd H q (.dT [])) l H2)/\Q (.ref q) H2):=by
 intro pins s σ H xs us Q I r h
 obtain⟨p,ys,l,rfl,src,hl,hpr,q⟩:=h
 obtain⟨u,rfl,rx⟩:=vals1 r
 cases rx
 obtain⟨H2,pu,q⟩:=q s.heap.objs.size (I.hok.fresh (zae _))
 refine callType_codes (Q₁:=fun obj s₁=>obj=.ref s.heap.objs.size/\s₁={ s with heap:=s.heap.push { cls:=.type "dict",data:=.dict #[] } }) PySem.F.kt_called_dict (PySem.F.kt_typeCall_dict_1 _) PySem.F.entry_dict_init (kt_code_dict_new _ ⟨rfl,rfl⟩) ?_
 rintro obj s₁ ⟨rfl,rfl⟩
 have n1:(s.heap.push { cls:=.type "dict",data:=.dict #[] }).get? s.heap.objs.size=some { cls:=.type "dict",data:=.dict #[] }:=zay _ rfl
 have t1:Shared.TypeIs { s with heap:=s.heap.push { cls:=.type "dict",data:=.dict #[] } } (.ref s.heap.objs.size) "dict" := ⟨_,n1,rfl⟩
 refine⟨t1,PySem.F.args_dict_init_2 _ _,?_⟩
 unfold Builtin.«dict.__init__»; refine zaa ?_; unfold Builtin.Dict.selfAndRest; refine zaa (wpAny_notOrdered_dict t1 ?_)
 show wpAny _ _ (pure (s.heap.objs.size,[zaj p])) _ _ _; refine zab ?_
 show wpAny _ _ (Builtin.Dict.updateFrom "dict.__init__" s.heap.objs.size (.ref p) [] .none) _ _ _; unfold Builtin.Dict.updateFrom
 obtain⟨u0,hu0,IK,pu⟩:∃ u0:HO,(u0=.dK []\/u0=.dT [])/\Inv X pins σ (upd H s.heap.objs.size u0) { s with heap:=s.heap.push { cls:=.type "dict",data:=.dict #[] } }/\Puts s.heap.objs.size (upd H s.heap.objs.size u0) l H2:=by
  rcases pu with pu | pu
  ·exact⟨_,.inl rfl,I.laid (a:=s.heap.objs.size) (o:=.dK []) (h':=s.heap.push { cls:=.type "dict",data:=.dict #[] }) (t':=s.toks) (fun _ _ q=>zah _ q) (zae _) (qjS s.heap I.big),pu⟩
  ·exact⟨_,.inr rfl,I.laid (a:=s.heap.objs.size) (o:=.dT []) (h':=s.heap.push { cls:=.type "dict",data:=.dict #[] }) (t':=s.toks) (fun _ _ q=>zah _ q) (zae _) (qd1 s.heap I.big),pu⟩
 have hne:∀ b u,H b=some u->b≠s.heap.objs.size:=fun b u e z=>zaU _ (by have:=(I.hok b u e).lt; rw[z] at this; exact this)
 have sqK:∀ {b:Addr} {zs:List V},SqT X.K H b zs->SqT X.K (upd H s.heap.objs.size u0) b zs:=fun {b zs} h=>by
  rcases h with (h | ⟨o,h⟩) | h
  ·exact .inl (.inl (by rw[qt (hne _ _ h)]; exact h))
  ·exact .inl (.inr ⟨o,by rw[qt (hne _ _ h)]; exact h⟩)
  ·exact .inr h
 have hlt:∀ {o:Obj},s.heap.get? p=some o->p < s.heap.objs.size:=fun e=>zag e
 rcases src with sq | sq
 ·obtain⟨its,rv,pl,hz⟩:=I.list sq
  obtain⟨o,n,ho,hcl,hdi,hda⟩:=id pl
  have hlen:=rv.length
  have ho1:(s.heap.push { cls:=.type "dict",data:=.dict #[] }).get? p=some o:=zah _ ho
  refine zaa (wpAny_typeOf (s:={ s with heap:=s.heap.push { cls:=.type "dict",data:=.dict #[] } }) ⟨o,ho1,hcl⟩ ?_)
  rw[if_pos (by decide)]
  refine zaa (qdB (s:={ s with heap:=s.heap.push { cls:=.type "dict",data:=.dict #[] } }) ho1 hcl hda hdi (I.ok.hd hc) fun h' tk keep=>?_)
  simp only[Option.isNone_none,if_true]
  refine zaa (zbh (zaa (zb5 (s:={ s with heap:=h',toks:=tk }) (items:=its.toArray) ⟨o,keep _ _ ho1,hcl,n,hda⟩ ?_)))
  have IK2:Inv X pins σ (upd H s.heap.objs.size u0) { s with heap:=h',toks:=tk }:=IK.kept (t':=tk) keep
  have IK3:Inv X pins σ (upd H s.heap.objs.size u0) { s with heap:=h'.push { cls:=.type "list_iterator",data:=.fields #[.ref p,.int 0 0] },toks:=tk }:=IK2.kept (t':=tk) fun b o e=>zah _ e
  have lp:p < h'.objs.size:=zag (keep _ _ ho1)
  have ld:s.heap.objs.size < h'.objs.size:=zag (keep _ _ n1)
  have W:=Walks.list (prog:=X.prog) (w:=X.w) (A:=X.A.in1.in1) (I.ok.hd hc) h'.objs.size p (zaA lp) its.toArray
  refine zab ⟨zbE qav _,qcp (X:=X) (pins:=pins) (σ:=σ) (H2:=H2) W (d:=s.heap.objs.size) ?_ (by show X.A.units + 1 + 1 + 1 < cLine; omega) ?_ l 0 _ _ _ _ ?_ (zau _) ?_ IK3 ?_ ?_ pu⟩
  ·intro z
   rcases List.mem_cons.mp z with z | z
   ·exact zaA ld z
   ·exact zaO (hlt ho) (List.mem_singleton.mp z)
  ·exact fun s' I'=>⟨rfl,.ref s.heap.objs.size,H2,I',rfl,q⟩
  ·rw[zat,<- hlen,hl]; omega
  ·exact⟨⟨_,zay _ rfl,rfl,rfl⟩,⟨o,zah _ (keep _ _ ho1),hcl,n,hda⟩⟩
  ·exact IK2.fpOk (zae _) (IK2.hok.fresh (zae _))
  ·intro m pr v hm hv
   obtain⟨b,e1,e2⟩:=hpr m pr hm
   rw[zbF] at hv
   refine⟨b,?_,sqK e2⟩
   obtain⟨w',hw,rw'⟩:=rv.get e1
   rw[List.getElem?_toArray,hw] at hv
   cases(show w'=zaj b from rw')
   exact(zaF hv).symm
 ·obtain⟨hz,its,rv,o,ho,hcl,n,hda,hdi⟩:=(show ObjOk X.prog X.w H s.heap p (.tup ys) from sq.ok I.hok)
  have hlen:=rv.length
  have ho1:(s.heap.push { cls:=.type "dict",data:=.dict #[] }).get? p=some o:=zah _ ho
  refine zaa (wpAny_typeOf (s:={ s with heap:=s.heap.push { cls:=.type "dict",data:=.dict #[] } }) ⟨o,ho1,hcl⟩ ?_)
  rw[if_pos (by decide)]
  refine zaa (qcX (s:={ s with heap:=s.heap.push { cls:=.type "dict",data:=.dict #[] } }) ho1 hcl hda hdi (I.ok.hd hc) fun h' tk keep=>?_)
  simp only[Option.isNone_none,if_true]
  refine zaa (zbh (zaa (zca (s:={ s with heap:=h',toks:=tk }) (items:=its.toArray) ⟨o,keep _ _ ho1,hcl,n,hda⟩ ?_)))
  have IK2:Inv X pins σ (upd H s.heap.objs.size u0) { s with heap:=h',toks:=tk }:=IK.kept (t':=tk) keep
  have IK3:Inv X pins σ (upd H s.heap.objs.size u0) { s with heap:=h'.push { cls:=.type "tuple_iterator",data:=.fields #[.ref p,.int 0 0] },toks:=tk }:=IK2.kept (t':=tk) fun b o e=>zah _ e
  have lp:p < h'.objs.size:=zag (keep _ _ ho1)
  have ld:s.heap.objs.size < h'.objs.size:=zag (keep _ _ n1)
  have W:=Walks.tuple (prog:=X.prog) (w:=X.w) (A:=X.A.in1.in1) (I.ok.hd hc) h'.objs.size p (zaA lp) its.toArray
  refine zab ⟨zbE qav _,qcp (X:=X) (pins:=pins) (σ:=σ) (H2:=H2) W (d:=s.heap.objs.size) ?_ (by show X.A.units + 1 + 1 + 1 < cLine; omega) ?_ l 0 _ _ _ _ ?_ (zau _) ?_ IK3 ?_ ?_ pu⟩
  ·intro z
   rcases List.mem_cons.mp z with z | z
   ·exact zaA ld z
   ·exact zaO (hlt ho) (List.mem_singleton.mp z)
  ·exact fun s' I'=>⟨rfl,.ref s.heap.objs.size,H2,I',rfl,q⟩
  ·rw[zat,<- hlen,hl]; omega
  ·exact⟨⟨_,zay _ rfl,rfl,rfl⟩,⟨o,zah _ (keep _ _ ho1),hcl,n,hda⟩⟩
  ·exact IK2.fpOk (zae _) (IK2.hok.fresh (zae _))
  ·intro m pr v hm hv
   obtain⟨b,e1,e2⟩:=hpr m pr hm
   rw[zbF] at hv
   refine⟨b,?_,sqK e2⟩
   obtain⟨w',hw,rw'⟩:=rv.get e1
   rw[List.getElem?_toArray,hw] at hv
   cases(show w'=zaj b from rw')
   exact(zaF hv).symm
end
section
variable {X:Cx}
theorem qni{H H2:Hp}{q:Addr}{u:HO}(h:H2 q=some u)(k:∀ b,b≠q->H2 b=H b):H2=upd H q u:=funext fun b=>by
 by_cases e:b=q
 ·subst e; rw[qw]; exact h
 ·rw[qt e]; exact k b e
noncomputable def qeQ{κ:Type}[DecidableEq κ](kvs more:List (κ × V)):List (κ × V):=more.foldl (fun acc kv=>putK acc kv.1 kv.2) kvs
theorem qli{q:Addr}:∀ (prs:List (List Key × V)) (as:List Addr) (H:Hp) (xs:List (List Key × V)),H q=some (.dT xs)->xs.length + prs.length < zal->Paired (fun (p:List Key × V) (b:Addr)=>H b=some (.tup (p.1.map kV))) prs as->∃ H2,Puts q H ((prs.zip as).map fun p=>(V.ref p.2,p.1.2)) H2/\H2 q=some (.dT (qeQ xs prs))/\∀ b,b≠q->H2 b=H b
 | _,_,H,xs,e,hl,.nil=>⟨H,.nil,e,fun _ _=>rfl⟩
 | p :: prs,b :: as,H,xs,e,hl,.cons hp t=>by
  have l1:=qaC xs p.1 p.2
  rw[zaW] at hl
  obtain⟨H2,pu,e2,k⟩:=qli prs as (upd H q (.dT (putK xs p.1 p.2))) (putK xs p.1 p.2) qw (by omega) (Paired.mapP t fun p c z=>by rw[qt (qkj z e (fun z=>nomatch z))]; exact z)
  exact⟨H2,.cons (DPut.t e hp (by omega)) pu,e2,fun b hb=>(k b hb).trans (qt hb)⟩
end
end My
namespace P
open PySem PySem.Spec PyProof.Rows L2
section
variable {X:Cx}{A:Av}{H:Hp}
noncomputable def asPT:List D->Option (List (List Key × D))
 | []=>some []
 | .tup [k,v] :: l=>(asT k).bind fun kk=>(asPT l).map fun r=>(kk,v) :: r
 | _=>none
noncomputable def qfQ{κ:Type}[DecidableEq κ](l more:List (κ × D)):List (κ × D):=more.foldl (fun m p=>putD m p.1 p.2) l
theorem qmp{κ:Type}[DecidableEq κ]{more:List (κ × D)}{ys:List (κ × V)}(h:PP A H more ys):∀ {l:List (κ × D)} {xs:List (κ × V)},PP A H l xs->PP A H (qfQ l more) (My.qeQ xs ys):=by
 induction h with
 | nil=>intro l xs q; exact q
 | @cons p q ps qs h t ih=>
  intro l xs z
  have:=ih (qi7 p.1 h.2 z)
  rw[show qfQ l (p :: ps)=qfQ (putD l p.1 p.2) ps from rfl,show My.qeQ xs (q :: qs)=My.qeQ (putK xs q.1 q.2) qs from rfl,<- h.1]
  exact this
theorem qg8:∀ {l:List D} {kvs:List (List Key × D)} {xs:List V},asPT l=some kvs->RepL A H l xs->∃ (prs:List (List Key × V)) (as:List Addr),PP A H kvs prs/\prs.length=xs.length/\Paired (fun (p:List Key × V) (b:Addr)=>H b=some (.tup (p.1.map kV))) prs as/\∀ (m:Nat) (pr:V × V),((prs.zip as).map fun p=>(V.ref p.2,p.1.2))[m]?=some pr->∃ b,xs[m]?=some (.ref b)/\H b=some (.tup [pr.1,pr.2])
 | _,kvs,_,e,.nil=>by cases e; exact⟨[],[],.nil,rfl,.nil,fun m pr h=>by simp at h⟩
 | d :: l,kvs,v :: xs,e,.cons h t=>by
  unfold asPT at e
  split at e
  ·cases ‹_ :: _=[]›
  ·rename_i k w l' heq
   injection heq with h1 h2
   subst h1 h2
   obtain⟨kk,e1,e⟩:=bind_some e
   obtain⟨r,e2,rfl⟩:=map_some e
   obtain⟨prs,as,pp,hl,hq,hm⟩:=qg8 e2 t
   obtain⟨a,zs,rfl,ha,rz⟩:=RepB.tup_inv (.of h)
   cases rz with
   | @cons _ z1 _ zs1 q1 rz=>
   cases rz with
   | @cons _ z2 _ zs2 q2 rz=>
   cases rz
   obtain⟨b,rfl,hb⟩:=qeF e1 (.of q1)
   refine⟨(kk,z2) :: prs,b :: as,.cons ⟨rfl,q2⟩ pp,by simp[hl],.cons hb hq,fun m pr h=>?_⟩
   cases m with
   | zero=>simp at h; subst h; exact⟨a,rfl,ha⟩
   | succ m=>exact hm m pr (by simpa using h)
  ·cases e
noncomputable def qnb:D->Option (List D)
 | .lst l=>some l
 | .tup l=>some l
 | _=>none
noncomputable def qdb:List D->Option D
 | [.dT l]=>qh2 [.dT l]
 | [d]=>(qnb d).bind fun l=>if szOk l.length then (asPT l).map fun kvs=>.dT (qfQ [] kvs) else none
 | _=>none
theorem qkC{d:D}{l:List D}{v:V}(h:qnb d=some l)(r:RepB A H d v):∃ p ys,v=.ref p/\My.Src X H p ys/\RepL A H l ys:=by
 cases d with
 | lst m=>cases h; obtain⟨a,xs,rfl,h1,h2⟩:=r.lst_inv; exact⟨a,xs,rfl,.inl (.inl h1),h2⟩
 | tup m=>cases h; obtain⟨a,xs,rfl,h1,h2⟩:=r.tup_inv; exact⟨a,xs,rfl,.inr (.inl h1),h2⟩
 | _=>cases h
theorem szL{n:Nat}(h:szOk n=true):0 + n < zal:=by rw[zbF]; exact qd0 h
theorem qgC(hc:X.calm=true)(hu:X.A.units + 64 < cLine):qfa X (.type "dict") qdb:=by
 intro pins s σ H xs us Q I r h
 obtain⟨A,ds,d,lv,rl,e,q⟩:=h
 unfold qdb at e
 split at e
 ·exact qma pins s σ H xs us Q I r ⟨A,_,d,lv,rl,e,q⟩
 ·obtain⟨l,e1,e⟩:=bind_some e
  split at e
  ·rename_i hz
   obtain⟨kvs,e2,rfl⟩:=map_some e
   obtain⟨v,rfl,h1⟩:=rl.one
   obtain⟨p,ys,rfl,src,rl2⟩:=qkC (X:=X) e1 h1
   obtain⟨prs,as,pp,hl,hq,hm⟩:=qg8 e2 rl2
   have hlen:=rl2.length
   have hla:=zbr hq
   refine My.qhi hc hu pins s σ H _ us Q I r ⟨p,ys,(prs.zip as).map fun p=>(V.ref p.2,p.1.2),rfl,src,by rw[zaq,List.length_zip,<- hla,Nat.min_self]; exact hl,fun m pr h=>?_,fun a ha=>?_⟩
   ·obtain⟨b,x1,x2⟩:=hm m pr h
    exact⟨b,x1,.inl (.inl x2)⟩
   ·obtain⟨H2,pu,e3,k⟩:=My.qli prs as (upd H a (.dT [])) [] qw (by rw[hl,hlen]; exact szL hz) (Paired.mapP hq fun p c z=>by rw[qt (fun w=>by rw[w,ha] at z; cases z)]; exact z)
    have eH:H2=upd H a (.dT (My.qeQ [] prs)):=My.qni e3 fun b hb=>(k b hb).trans (qt hb)
    obtain⟨f1,f2⟩:=qjV (qmp pp (Paired.nil))
    refine⟨H2,.inr pu,?_⟩
    rw[eH]
    exact q a _ (Ext.new ha) ha (fun z=>lv a z ha) (.dT qw f1 (f2.fresh ha))
  ·cases e
 ·cases e
end
end P
namespace My
open PySem PySem.Spec PyProof.Rows L2 PySem.SeqAt
section
variable {X:Cx}
end
end My
namespace P
open PySem PySem.Spec PyProof.Rows L2
section
variable {X:Cx}{O:List Nat}
end
section
variable {X:Cx}{O:List Nat}{e:Expr}{es:List Expr}
theorem pdc{f:Ev}{g:Lv}(ha:PD X O e f)(hr:PDA X O es g)(hs:isStar e=false:=by rfl):PDA X O (e :: es) (qb f g):=qks ha hr (qau hs)
theorem pbc{f:Ev}{g:Lv}(ha:PB X O e f)(hr:PBA X O es g)(hs:isStar e=false:=by rfl):PBA X O (e :: es) (qb f g):=qjW ha hr (qau hs)
theorem lc{f:Ev}{g:Lv}{n:Nat}(h:Len g n):Len (qb f g) (n + 1):=qjO h
theorem l0:Len lNil 0:=qmA
variable {x:Str}{id T:String}{g:List D->Option D}{f:Lv}{p pos:Pos}
theorem cB(hc:qht X (.builtin id) g)(hm:X.mg x=none)(hv:zaJ x=some (.builtin id))(ha:PBA X O (e :: es) f)(hg:Gl X x:=by rfl)(hn:x ≠ "__name__" := by decide)(hdb:(x == ("__debug__" : Str))=false:=by decide)(hs:isStar e=false:=by rfl)(hp:(es.all fun e=>!isStar e)=true:=by rfl) :
  PD X O (.Call (.Name x p) (e :: es) [] pos) (qy g f):=qky hc hg hm hv ha hn hdb (qau hs) (qbR hp)
theorem cTy(hc:qht X (.type T) g)(hm:X.mg x=none)(hv:zaJ x=some (.type T))(ha:PBA X O (e :: es) f)(hg:Gl X x:=by rfl)(hn:x ≠ "__name__" := by decide)(hdb:(x == ("__debug__" : Str))=false:=by decide)(hs:isStar e=false:=by rfl)(hp:(es.all fun e=>!isStar e)=true:=by rfl) :
  PD X O (.Call (.Name x p) (e :: es) [] pos) (qy g f):=qjh hc hg hm hv ha hn hdb (qau hs) (qbR hp)
theorem fB(hc:qfa X (.builtin id) g)(hm:X.mg x=none)(hv:zaJ x=some (.builtin id))(ha:PBA X O (e :: es) f)(hg:Gl X x:=by rfl)(hn:x ≠ "__name__" := by decide)(hdb:(x == ("__debug__" : Str))=false:=by decide)(hs:isStar e=false:=by rfl)(hp:(es.all fun e=>!isStar e)=true:=by rfl) :
  PF X O (.Call (.Name x p) (e :: es) [] pos) (qy g f):=qjJ hc hg hm hv ha hn hdb (qau hs) (qbR hp)
theorem fTy(hc:qfa X (.type T) g)(hm:X.mg x=none)(hv:zaJ x=some (.type T))(ha:PBA X O (e :: es) f)(hg:Gl X x:=by rfl)(hn:x ≠ "__name__" := by decide)(hdb:(x == ("__debug__" : Str))=false:=by decide)(hs:isStar e=false:=by rfl)(hp:(es.all fun e=>!isStar e)=true:=by rfl) :
  PF X O (.Call (.Name x p) (e :: es) [] pos) (qy g f):=qiZ hc hg hm hv ha hn hdb (qau hs) (qbR hp)
theorem cD{k:Nat}{ps:List Str}{F:List D->Option D}(O':Fn X.prog X.w X.K X.mg X.base x k ps F)(hr:Room k X.A)(ha:PDA X O (e :: es) f)(hl:Len f ps.length)(hg:Gl X x:=by rfl)(hdb:(x == ("__debug__" : Str))=false:=by decide)(hs:isStar e=false:=by rfl)(hp:(es.all fun e=>!isStar e)=true:=by rfl) :
  PD X O (.Call (.Name x p) (e :: es) [] pos) (qy F f):=qlm O' hr hg ha hl hdb (qau hs) (qbR hp)
theorem cn{L:Lp}{O1 O2 O3:List Nat}{st:Stmt}{sts:List Stmt}{f g:Sv}(h:PSD X L O1 st f O2)(k:PSDs X L O2 sts g O3):PSDs X L O1 (st :: sts) (sSeq f g) O3:=qkn h k
end
noncomputable def ZOk(P:zai)(w:World)(K:zad)(mg:Str->Option Value)(base:Heap)(N:List Str)(x:Str)(st:Stmt)(k:Nat)(b:Sv):Prop:=
 ∀ (fa:Addr) (cdv:Value) (A:Around) (outer:List Env) (s:Shared) (H:Hp) (E:XK),Room k (A.deeper (envOfC x (qi st) s.heap.objs.size fa cdv))->∃ g,PSDs (cxOf CX0 P w K mg base N x (qi st) fa cdv A outer s H E).nox ⟨[],[]⟩ [] (qH st) g []/\g=b
end P
namespace My
open PySem PySem.Spec PyProof.Rows L2 PySem.SeqAt
section
variable {prog:zai}{w:World}{A:Around}{R:Result->Shared->Prop}{I S:Addr}{fp wr:List Addr}{n:Nat}{P:Nat->Value->Prop}{St:Nat->Heap->Prop}
end
section
variable {X:Cx}
end
end My
namespace P
open PySem PySem.Spec PyProof.Rows L2
section
variable {X:Cx}{O O':List Nat}{L:Lp}
end
end P
namespace My
open PySem PySem.Spec PyProof.Rows L2
end My
namespace P
open PySem PySem.Spec PyProof.Rows L2
section
variable {X:Cx}{O:List Nat}
end
end P
namespace My
open PySem PySem.Spec PyProof.Rows L2
noncomputable def CHug(i j:Int):Prop:=(-(10 ^ 250 * 10 ^ 250) < i/\i < 10 ^ 250 * 10 ^ 250)/\-(10 ^ 250 * 10 ^ 250) < j/\j < 10 ^ 250 * 10 ^ 250
end My
namespace P
open PySem PySem.Spec PyProof.Rows L2
instance:∀ i j,Decidable (My.CHug i j):=fun i j=>by unfold My.CHug; infer_instance
theorem us1{P:List Value->Prop}(h:∀ a,P [a]):∀ us:List Value,us.length=1->P us
 | [a],_=>h a
theorem us2{P:List Value->Prop}(h:∀ a b,P [a,b]):∀ us:List Value,us.length=2->P us
 | [a,b],_=>h a b
theorem us3{P:List Value->Prop}(h:∀ a b c,P [a,b,c]):∀ us:List Value,us.length=3->P us
 | [a,b,c],_=>h a b c
theorem us4{P:List Value->Prop}(h:∀ a b c d,P [a,b,c,d]):∀ us:List Value,us.length=4->P us
 | [a,b,c,d],_=>h a b c d
noncomputable def mon:List Int->List Int->Int
 | e :: es,v :: vs=>v ^ e.toNat * mon es vs
 | _,_=>1
noncomputable def ev(vs:List Int)(F:List My.Tm):Int:=(F.map fun t=>t.2 * mon t.1 vs).sum
theorem qbN(vs:List Int):ev vs []=0:=rfl
theorem qO(vs:List Int)(t:My.Tm)(F:List My.Tm):ev vs (t :: F)=t.2 * mon t.1 vs + ev vs F:=by unfold ev; rw[zaf,List.sum_cons]
theorem qio(vs:List Int)(t:My.Tm)(F:List My.Tm):ev vs (F ++ [t])=ev vs F + t.2 * mon t.1 vs:=by
 induction F with
 | nil=>rw[List.nil_append,qO,qbN]; omega
 | cons u F ih=>rw[List.cons_append,qO,qO,ih]; omega
theorem qc3{cs:List My.Tm}{k:List Int}{c:Int}(h:k ∉ cs.map (·.1)):My.put cs k c=cs ++ [(k,c)]:=by
 unfold My.put
 rw[if_neg]
 intro z
 obtain⟨t,ht,e⟩:=List.any_eq_true.mp z
 exact h (List.mem_map.mpr ⟨t,ht,of_decide_eq_true e⟩)
theorem qkT{vs k:List Int}{c:Int}:∀ {F:List My.Tm},(F.map (·.1)).Nodup->k∈F.map (·.1)->ev vs (F.map fun t=>if t.1=k then (t.1,c) else t)=ev vs F + (c - cf F k) * mon k vs
 | [],_,h=>nomatch h
 | t :: F,nd,h=>by
  rw[zaf] at nd
  have nd:=List.nodup_cons.mp nd
  rw[zaf,qO,qO,qcu]
  by_cases e:t.1=k
  ·subst e
   have e2:(F.map fun u=>if u.1=t.1 then (u.1,c) else u)=F:=by
    conv=>rhs; rw[<- List.map_id F]
    refine List.map_congr_left fun u hu=>?_
    rw[if_neg (fun z=>nd.1 (by rw[<- z]; exact List.mem_map_of_mem (f:=(·.1)) hu))]
    rfl
   rw[if_pos rfl,e2,if_pos rfl,Int.sub_mul]
   dsimp only
   omega
  ·rw[if_neg e,if_neg e,qkT nd.2 (by
    rcases List.mem_cons.mp (show k∈t.1 :: F.map (·.1) from h) with z | z
    ·exact absurd z.symm e
    ·exact z)]
   omega
theorem qn0{vs k:List Int}{c:Int}{F:List My.Tm}(nd:(F.map (·.1)).Nodup):ev vs (My.put F k c)=ev vs F + (c - cf F k) * mon k vs:=by
 by_cases h:k∈F.map (·.1)
 ·have:My.put F k c=F.map fun t=>if t.1=k then (t.1,c) else t:=by
   unfold My.put
   rw[if_pos]
   obtain⟨t,ht,e⟩:=List.mem_map.mp h
   exact List.any_eq_true.mpr ⟨t,ht,decide_eq_true e⟩
  rw[this,qkT nd h]
 ·rw[qc3 h,qio,qfo h]
  dsimp only
  rw[Int.sub_zero]
theorem qnf{vs k:List Int}{c x:Int}{F:List My.Tm}(nd:(F.map (·.1)).Nodup)(h:c=cf F k + x):ev vs (My.put F k c)=ev vs F + x * mon k vs:=by
 rw[qn0 nd,h]
 have:cf F k + x - cf F k=x:=by omega
 rw[this]
theorem ql3{vs:List Int}{l m:List My.Tm}(p:l.Perm m):ev vs l=ev vs m:=by
 induction p with
 | nil=>rfl
 | cons x _ ih=>rw[qO,qO,ih]
 | swap x y l=>rw[qO,qO,qO,qO]; omega
 | trans _ _ a b=>rw[a,b]
theorem qiE{M c:Int}:M ∣ c % M - c:=by
 have:c % M - c=-(c - c % M):=by omega
 rw[this]; exact Int.dvd_neg.mpr Int.dvd_self_sub_emod
noncomputable def Bx:List Int->List Int->Prop
 | [a],[x]=>0<=x/\x<=a
 | [a,b],[x,y]=>(0<=x/\x<=a)/\0<=y/\y<=b
 | _,_=>False
noncomputable def addE:List Int->List Int->List Int
 | [x],[y]=>[x + y]
 | [x,a],[y,b]=>[x + y,a + b]
 | _,_=>[]
theorem Bx.len:∀ {d k:List Int},Bx d k->(d.length=1/\k.length=1)\/(d.length=2/\k.length=2)
 | [_],[_],_=>.inl ⟨rfl,rfl⟩
 | [_,_],[_,_],_=>.inr ⟨rfl,rfl⟩
theorem Bx.shape:∀ {d k:List Int},Bx d k->(∃ a x,d=[a]/\k=[x]/\0<=x/\x<=a)\/∃ a b x y,d=[a,b]/\k=[x,y]/\(0<=x/\x<=a)/\0<=y/\y<=b
 | [a],[x],h=>.inl ⟨a,x,rfl,rfl,h⟩
 | [a,b],[x,y],h=>.inr ⟨a,b,x,y,rfl,rfl,h⟩
theorem Bx.mono{d e k:List Int}(h:Bx d k)(g:Bx e d):Bx e k:=by
 rcases h.shape with⟨a,x,rfl,rfl,h⟩ | ⟨a,b,x,y,rfl,rfl,h⟩
 ·rcases g.shape with⟨c,z,rfl,e,g⟩ | ⟨c,c2,z,z2,rfl,e,g⟩
  ·cases e; exact⟨h.1,Int.le_trans h.2 g.2⟩
  ·cases e
 ·rcases g.shape with⟨c,z,rfl,e,g⟩ | ⟨c,c2,z,z2,rfl,e,g⟩
  ·cases e
  ·cases e; exact⟨⟨h.1.1,Int.le_trans h.1.2 g.1.2⟩,h.2.1,Int.le_trans h.2.2 g.2.2⟩
theorem Bx.add{d e k j:List Int}(h:Bx d k)(g:Bx e j)(l:d.length=e.length):Bx (addE d e) (addE k j):=by
 rcases h.shape with⟨a,x,rfl,rfl,h⟩ | ⟨a,b,x,y,rfl,rfl,h⟩
 ·rcases g.shape with⟨c,z,rfl,rfl,g⟩ | ⟨c,c2,z,z2,rfl,rfl,g⟩
  ·exact⟨Int.add_nonneg h.1 g.1,Int.add_le_add h.2 g.2⟩
  ·cases l
 ·rcases g.shape with⟨c,z,rfl,rfl,g⟩ | ⟨c,c2,z,z2,rfl,rfl,g⟩
  ·cases l
  ·exact⟨⟨Int.add_nonneg h.1.1 g.1.1,Int.add_le_add h.1.2 g.1.2⟩,Int.add_nonneg h.2.1 g.2.1,Int.add_le_add h.2.2 g.2.2⟩
theorem ql5{d e k j vs:List Int}(h:Bx d k)(g:Bx e j)(l:d.length=e.length)(lv:vs.length=d.length):mon (addE k j) vs=mon k vs * mon j vs:=by
 rcases h.shape with⟨a,x,rfl,rfl,h⟩ | ⟨a,b,x,y,rfl,rfl,h⟩
 ·rcases g.shape with⟨c,z,rfl,rfl,g⟩ | ⟨c,c2,z,z2,rfl,rfl,g⟩
  ·obtain⟨v,rfl⟩:=List.length_eq_one_iff.mp lv
   show v ^ (x + z).toNat * 1=v ^ x.toNat * 1 * (v ^ z.toNat * 1)
   rw[Int.toNat_add h.1 g.1,Int.pow_add]
   simp
  ·cases l
 ·rcases g.shape with⟨c,z,rfl,rfl,g⟩ | ⟨c,c2,z,z2,rfl,rfl,g⟩
  ·cases l
  ·obtain⟨v,u,rfl⟩:=len2 lv
   show v ^ (x + z).toNat * (u ^ (y + z2).toNat * 1)=v ^ x.toNat * (u ^ y.toNat * 1) * (v ^ z.toNat * (u ^ z2.toNat * 1))
   rw[Int.toNat_add h.1.1 g.1.1,Int.pow_add,Int.toNat_add h.2.1 g.2.1,Int.pow_add]
   simp only[zbm]
   generalize v ^ x.toNat=p
   generalize v ^ z.toNat=q
   generalize u ^ y.toNat=r
   generalize u ^ z2.toNat=s
   grind
structure Fk(d:List Int)(F:List My.Tm):Prop where
 nd:(F.map (·.1)).Nodup
 bx:∀ t∈F,Bx d t.1
structure Fo(M:Int)(d:List Int)(F:List My.Tm):Prop where
 k:Fk d F
 cb:∀ t∈F,0<=t.2/\t.2 < M
theorem qeg:∀ (N:Nat) (l:List Nat),l.Nodup->(∀ x∈l,x < N)->l.length<=N
 | 0,[],_,_=>zae _
 | 0,x :: l,_,h=>absurd (h x (zav ..)) (Nat.not_lt_zero _)
 | N + 1,l,nd,h=>by
  by_cases m:N∈l
  ·have h1:=qeg N (l.erase N) (nd.erase N) fun x hx=>by
    have:=(List.Nodup.mem_erase_iff nd).mp hx
    have:=h x this.2
    omega
   rw[List.length_erase_of_mem m] at h1
   omega
  ·have:=qeg N l nd fun x hx=>by
    have h1:=h x hx
    have:x≠N:=fun z=>m (z ▸ hx)
    omega
   omega
noncomputable def encE:List Int->Nat
 | [x]=>x.toNat
 | [x,y]=>x.toNat * 9 + y.toNat
 | _=>0
noncomputable def Low:List Int->Prop
 | [a]=>a<=8
 | [a,b]=>a<=8/\b<=8
 | _=>True
theorem Bx.enc_lt{d k:List Int}(l:Low d)(h:Bx d k):encE k < 81:=by
 rcases h.shape with⟨a,x,rfl,rfl,h⟩ | ⟨a,b,x,y,rfl,rfl,h⟩
 ·have l:a<=8:=l; show x.toNat < 81; omega
 ·have l:a<=8/\b<=8:=l; show x.toNat * 9 + y.toNat < 81; omega
theorem Bx.enc_inj{d k j:List Int}(l:Low d)(h:Bx d k)(g:Bx d j)(e:encE k=encE j):k=j:=by
 rcases h.shape with⟨a,x,rfl,rfl,h⟩ | ⟨a,b,x,y,rfl,rfl,h⟩
 ·rcases g.shape with⟨c,z,e1,rfl,g⟩ | ⟨c,c2,z,z2,e1,rfl,g⟩
  ·have e:x.toNat=z.toNat:=e
   have:x=z:=by omega
   rw[this]
  ·cases e1
 ·rcases g.shape with⟨c,z,e1,rfl,g⟩ | ⟨c,c2,z,z2,e1,rfl,g⟩
  ·cases e1
  ·cases e1
   have l:a<=8/\b<=8:=l
   have e:x.toNat * 9 + y.toNat=z.toNat * 9 + z2.toNat:=e
   have h1:x=z:=by omega
   have h2:y=z2:=by omega
   rw[h1,h2]
theorem qlb{d:List Int}(l:Low d):∀ {ks:List (List Int)},ks.Nodup->(∀ k∈ks,Bx d k)->(ks.map encE).Nodup
 | [],_,_=>List.nodup_nil
 | k :: ks,nd,h=>by
  have nd:=List.nodup_cons.mp nd
  rw[zaf]
  refine List.nodup_cons.mpr ⟨fun z=>?_,qlb l nd.2 fun j hj=>h j (zaw _ hj)⟩
  obtain⟨j,hj,e⟩:=List.mem_map.mp z
  have:=Bx.enc_inj l (h j (zaw _ hj)) (h k (zav ..)) e
  subst this; exact nd.1 hj
theorem Fk.len{d:List Int}{F:List My.Tm}(h:Fk d F)(l:Low d):F.length<=81:=by
 have e:=qlb l h.nd fun k hk=>by obtain⟨t,ht,rfl⟩:=List.mem_map.mp hk; exact h.bx t ht
 have:=qeg 81 _ e fun x hx=>by
  obtain⟨k,hk,rfl⟩:=List.mem_map.mp hx
  obtain⟨t,ht,rfl⟩:=List.mem_map.mp hk
  exact Bx.enc_lt l (h.bx t ht)
 rw[zaq,zaq] at this
 exact this
theorem Fk.nil(d:List Int):Fk d []:=⟨List.nodup_nil,fun _ h=>nomatch h⟩
theorem Fk.put{d:List Int}{F:List My.Tm}(h:Fk d F){k:List Int}{c:Int}(b:Bx d k):Fk d (My.put F k c):=⟨My.qfz h.nd,fun t ht=>by
 rcases qf8 ht with z | z
 ·rw[z]; exact b
 ·exact h.bx t z⟩
theorem Fk.mono{d e:List Int}{F:List My.Tm}(h:Fk d F)(b:Bx e d):Fk e F:=⟨h.nd,fun t ht=>(h.bx t ht).mono b⟩
theorem Fo.mono{M:Int}{d e:List Int}{F:List My.Tm}(h:Fo M d F)(b:Bx e d):Fo M e F:=⟨h.k.mono b,h.cb⟩
theorem Fo.nil(M:Int)(d:List Int):Fo M d []:=⟨Fk.nil d,fun _ h=>nomatch h⟩
theorem Fk.form{M:Int}(h0:0 < M){d:List Int}{T:List My.Tm}(h:Fk d T):Fo M d (My.qaw M (qT T)):=by
 have p:=qak T
 have sub:∀ t∈My.qaw M (qT T),∃ u∈T,t.1=u.1/\t.2=u.2 % M:=fun t ht=>by
  unfold My.qaw at ht
  obtain⟨u,hu,rfl⟩:=List.mem_map.mp ht
  exact⟨u,p.subset (List.mem_filter.mp hu).1,rfl,rfl⟩
 refine⟨⟨?_,fun t ht=>?_⟩,fun t ht=>?_⟩
 ·unfold My.qaw
  rw[zaD]
  have e:((qT T).map (·.1)).Nodup:=(p.map _).nodup_iff.mpr h.nd
  have s:((qT T).filter fun t=>decide (t.2 % M≠0)).Sublist (qT T):=List.filter_sublist
  exact(s.map (·.1)).nodup e
 ·obtain⟨u,hu,e,_⟩:=sub t ht
  rw[e]; exact h.bx u hu
 ·obtain⟨u,hu,_,e⟩:=sub t ht
  rw[e]; exact⟨zbb _ (Int.ne_of_gt h0),zbg _ h0⟩
theorem qeo{M v:Int}:∀ n:Nat,M ∣ pwr M v n - v ^ n
 | 0=>⟨0,by simp[pwr]⟩
 | n + 1=>by
  have ih:=qeo (M:=M) (v:=v) n
  have h1:M ∣ pwr M v n * v % M - pwr M v n * v:=qiE
  have h2:M ∣ (pwr M v n - v ^ n) * v:=Int.dvd_mul_of_dvd_left ih
  rw[Int.sub_mul] at h2
  have:pwr M v (n + 1) - v ^ (n + 1)=(pwr M v n * v % M - pwr M v n * v) + (pwr M v n * v - v ^ n * v):=by
   rw[zbU]
   show pwr M v n * v % M - v ^ n * v=_
   omega
  rw[this]; exact Int.dvd_add h1 h2
theorem qaE{M a b c d:Int}(h:M ∣ a - b)(g:M ∣ c - d):M ∣ a * c - b * d:=by
 have h1:M ∣ (a - b) * c:=Int.dvd_mul_of_dvd_left h
 have h2:M ∣ b * (c - d):=Int.dvd_mul_of_dvd_right g
 have:a * c - b * d=(a - b) * c + b * (c - d):=by grind
 rw[this]; exact Int.dvd_add h1 h2
theorem qan(M a:Int):M ∣ a - a:=⟨0,by omega⟩
theorem qiK{M:Int}{vs d:List Int}(hv:vs.length=d.length):∀ {F:List My.Tm},(∀ t∈F,Bx d t.1)->M ∣ sumF M vs F - ev vs F
 | [],_=>⟨0,by simp[sumF,ev]⟩
 | t :: F,h=>by
  have ih:=qiK hv (M:=M) (F:=F) fun u hu=>h u (zaw _ hu)
  have b:=h t (zav ..)
  have e:sumF M vs (t :: F)=prodF M vs t + sumF M vs F:=by unfold sumF; rw[zaf,List.sum_cons]
  have p:M ∣ prodF M vs t - t.2 * mon t.1 vs:=by
   obtain⟨k,c⟩:=t
   match d,k,vs,b,hv with
   | [_],[x],[v],_,_=>
    show M ∣ c * pwr M v x.toNat - c * (v ^ x.toNat * 1)
    rw[zbm]
    exact qaE (qan _ _) (qeo _)
   | [_,_],[x,y],[v,u],_,_=>
    show M ∣ c * pwr M v x.toNat * pwr M u y.toNat - c * (v ^ x.toNat * (u ^ y.toNat * 1))
    rw[zbm,<- zbG]
    exact qaE (qaE (qan _ _) (qeo _)) (qeo _)
  rw[e,qO]
  have:prodF M vs t + sumF M vs F - (t.2 * mon t.1 vs + ev vs F)=(prodF M vs t - t.2 * mon t.1 vs) + (sumF M vs F - ev vs F):=by omega
  rw[this]; exact Int.dvd_add p ih
theorem qgz:∀ qs:List My.Tm,asPT (qs.map tmD)=some (qs.map kD)
 | []=>rfl
 | t :: qs=>by
  show(asT (tupI t.1)).bind _=_
  rw[asT_tupI,qm,qgz qs]
  rfl
theorem qjg:∀ (qs ps:List My.Tm),((ps ++ qs).map (·.1)).Nodup->qfQ (ps.map kD) (qs.map kD)=(ps ++ qs).map kD
 | [],ps,_=>by rw[List.append_nil]; rfl
 | q :: qs,ps,h=>by
  show qfQ (putD (ps.map kD) (q.1.map zao) (.int q.2)) (qs.map kD)=_
  rw[qkS,qc3,qjg qs (ps ++ [(q.1,q.2)])]
  ·simp
  ·simpa using h
  ·rw[List.map_append,List.nodup_append] at h
   intro z
   exact h.2.2 _ z _ (zav ..) rfl
theorem qic{qs:List My.Tm}(h:(qs.map (·.1)).Nodup)(hl:qs.length<=1000):qdb [.tup (qs.map tmD)]=some (.dT (qs.map kD)):=by
 have h0:qdb [.tup (qs.map tmD)]=(if szOk (qs.map tmD).length=true then (asPT (qs.map tmD)).map fun kvs=>D.dT (qfQ [] kvs) else none):=rfl
 rw[h0,if_pos (show szOk (qs.map tmD).length=true from decide_eq_true (by rw[zaq]; omega)),qgz,qG]
 have:=qjg qs [] (by simpa using h)
 rw[zbB,List.nil_append] at this
 rw[this]
theorem qne{cs:List My.Tm}{k:List Int}:((My.look cs k).map D.int).getD (.int 0)=.int (cf cs k):=by
 unfold cf; cases My.look cs k <;> rfl
theorem qgU{κ:Type}[DecidableEq κ]:∀ (l:List (κ × D)) (k j:κ) (d:D),valD (putD l k d) j=if j=k then some d else valD l j:=fun l k j d=>by
 have any_rep:∀ l:List (κ × D),valD (l.map fun p=>if p.1=k then (p.1,d) else p) j=if j=k then (valD l j).map fun _=>d else valD l j:=fun l=>by
  induction l with
  | nil=>by_cases e:j=k <;> simp[valD,e]
  | cons p l ih=>
   unfold valD at ih ⊢
   rw[zaf,zbf,zbf]
   by_cases h:p.1=k
   ·rw[if_pos h]
    by_cases e:j=k
    ·subst e; simp[h]
    ·have:¬ p.1=j:=fun z=>e (z ▸ h)
     simp[this,e] at ih ⊢
     exact ih
   ·rw[if_neg h]
    by_cases e:j=k
    ·subst e; simp[h] at ih ⊢; exact ih
    ·by_cases e2:p.1=j
     ·simp[e,e2]
     ·simp[e,e2] at ih ⊢; exact ih
 unfold putD
 by_cases h:l.any (fun p=>decide (p.1=k))=true
 ·rw[if_pos h,any_rep]
  by_cases e:j=k
  ·rw[if_pos e,if_pos e]
   subst e
   obtain⟨p,hp,e2⟩:=List.any_eq_true.mp h
   have:(valD l j).isSome=true:=by
    unfold valD
    rw[Option.isSome_map,List.find?_isSome]
    exact⟨p,hp,e2⟩
   cases hv:valD l j with
   | none=>rw[hv] at this; cases this
   | some v=>rfl
  ·rw[if_neg e,if_neg e]
 ·rw[if_neg h]
  unfold valD
  rw[List.find?_append]
  by_cases e:j=k
  ·subst e
   have:l.find? (fun p=>decide (p.1=j))=none:=List.find?_eq_none.mpr fun p hp z=>h (List.any_eq_true.mpr ⟨p,hp,z⟩)
   simp[this]
  ·have:¬ k=j:=fun z=>e z.symm
   simp[e,this]
theorem qj5{κ:Type}[DecidableEq κ](l:List (κ × D))(k:κ)(d:D):(putD l k d).length<=l.length + 1:=by
 unfold putD
 by_cases h:l.any (fun p=>decide (p.1=k))=true
 ·rw[if_pos h,zaq]; omega
 ·rw[if_neg h,zbA]; simp
noncomputable def fD(F:List My.Tm):D:=.tup (F.map tmD)
theorem qeE(l:List (List Key × D))(k:List Int):qbT (.dT l) (tupI k)=some (valD l (k.map zao)):=by
 show(asT (tupI k)).map _=_
 rw[asT_tupI,qG]
theorem qlX{l:List (List Key × D)}(k:List Int)(d:D)(h:l.length<=1000000):dPut (.dT l) (tupI k) d=some (.dT (putD l (k.map zao) d)):=by
 show(asT (tupI k)).bind _=_
 rw[asT_tupI,qm,if_pos (by rw[szOk]; exact decide_eq_true h)]
noncomputable def pw(S:Nat->Int)(a:Int):Nat->Int
 | 0=>0
 | n + 1=>pw S a n + a ^ n * S n
theorem qgT{S:Nat->Int}{a x:Int}{m:Nat}:∀ n:Nat,pw (fun e=>(if m=e then x else 0) + S e) a n=(if m < n then a ^ m * x else 0) + pw S a n
 | 0=>by simp[pw]
 | n + 1=>by
  rw[pw,pw,qgT n,Int.mul_add]
  by_cases h:m=n
  ·subst h
   rw[if_neg (zaU _),if_pos rfl,if_pos (Nat.lt_succ_self _)]
   omega
  ·rw[if_neg h,Int.mul_zero]
   by_cases h2:m < n
   ·rw[if_pos h2,if_pos (by omega)]; omega
   ·rw[if_neg h2,if_neg (by omega)]; omega
noncomputable def la(k:List Int):Int:=(k.getLast?).getD 0
noncomputable def grp(a:List Int)(w:Int)(l:List My.Tm):Int:=(l.map fun t=>if t.1.dropLast=a then t.2 * w ^ (la t.1).toNat else 0).sum
theorem qgH(a:List Int)(w:Int)(l:List My.Tm)(t:My.Tm):grp a w (l ++ [t])=grp a w l + if t.1.dropLast=a then t.2 * w ^ (la t.1).toNat else 0:=by
 unfold grp
 rw[List.map_append,zaf,zbB]
 induction l.map (fun t=>if t.1.dropLast=a then t.2 * w ^ (la t.1).toNat else 0) with
 | nil=>simp
 | cons x l ih=>rw[List.cons_append,List.sum_cons,List.sum_cons,ih]; omega
theorem qdW(a:List Int)(w:Int)(l:List My.Tm)(t:My.Tm):grp a w (t :: l)=(if t.1.dropLast=a then t.2 * w ^ (la t.1).toNat else 0) + grp a w l:=by
 unfold grp; rw[zaf,List.sum_cons]
theorem qiP{d w:Int}:∀ {l:List My.Tm},(∀ t∈l,Bx [d] t.1)->grp [] w l=ev [w] l
 | [],_=>rfl
 | t :: l,h=>by
  have b:=h t (zav ..)
  rw[qdW,qO,qiP fun u hu=>h u (zaw _ hu)]
  obtain⟨k,c⟩:=t
  match k,b with
  | [x],_=>
   show(if ([]:List Int)=[] then c * w ^ x.toNat else 0) + _=c * (w ^ x.toNat * 1) + _
   rw[if_pos rfl,zbm]
theorem qfB{d e a w:Int}{m:Nat}:∀ {l:List My.Tm},(∀ t∈l,Bx [d,e] t.1/\∃ x y,t.1=[x,y]/\x<=(m:Int))->pw (fun j=>grp [(j:Int)] w l) a (m + 1)=ev [a,w] l
 | [],_=>by
  have:∀ n,pw (fun j=>grp [(j:Int)] w []) a n=0:=fun n=>by
   induction n with
   | zero=>rfl
   | succ n ih=>rw[pw,ih]; simp[grp]
  rw[this]; rfl
 | t :: l,h=>by
  obtain⟨b,x,y,e1,hx⟩:=h t (zav ..)
  have ih:=qfB (a:=a) (w:=w) fun u hu=>h u (zaw _ hu)
  obtain⟨k,c⟩:=t
  dsimp only at e1
  subst e1
  have b:(0<=x/\x<=d)/\0<=y/\y<=e:=b
  have ef:(fun j:Nat=>grp [(j:Int)] w (([x,y],c) :: l))=fun j:Nat=>(if x.toNat=j then c * w ^ y.toNat else 0) + grp [(j:Int)] w l:=by
   funext j
   rw[qdW]
   congr 1
   show(if [x]=[(j:Int)] then c * w ^ y.toNat else 0)=_
   by_cases z:x.toNat=j
   ·rw[if_pos (by rw[<- z,zci b.1.1]),if_pos z]
   ·rw[if_neg (fun q=>z (by have:=List.cons.inj q; omega)),if_neg z]
  rw[ef,qgT,ih,if_pos (by omega),qO]
  show a ^ x.toNat * (c * w ^ y.toNat) + _=c * (a ^ x.toNat * (w ^ y.toNat * 1)) + _
  rw[zbm]
  congr 1
  generalize a ^ x.toNat=p
  generalize w ^ y.toNat=q
  grind
end P
namespace My
open PySem PySem.Spec PyProof.Rows L2 PySem.SeqAt
section
variable {prog:zai}{w:World}{A:Around}{E:Value->Shared->Prop}{s:Shared}{r d:Addr}{es:Array zbo}{ep:Nat}
theorem qhA{Q:Value->Shared->Prop}(hh:A.handled=none)(hv:s.heap.IsItemsView r d)(hm:RawD s.heap d es ep)(hn:es.size<=zal)
  (h:∀ (h':Heap) (tk c:Nat) (acc:Array Value) (as:List Addr),(∀ b o,s.heap.get? b=some o->h'.get? b=some o)->h'.get? s.heap.objs.size=some { cls:=.type "list",dict:=none,data:=.seq acc c,slots:=#[] }->as.length=es.size->Made es s.heap.objs.size h' as->acc.toList=as.map zaj->Q (.ref s.heap.objs.size) { s with heap:=h',toks:=tk }) :
  wpAny (model prog w) A (call (.type "list") [.ref r]) Q E s:=by
 have hr:r < s.heap.objs.size:=let ⟨_,ho,_⟩:=hv; zag ho
 have hd:d < s.heap.objs.size:=let ⟨_,ho,_⟩:=hm; zag ho
 refine callType_codes (Q₁:=fun x s1=>x=.ref s.heap.objs.size/\s1={ s with heap:=s.heap.push { cls:=.type "list",data:=.seq #[] } }) F.called_list (F.typeCall_list_1 _) F.entry_list_init (code_list_new _ ⟨rfl,rfl⟩) fun x s1 h1=>?_
 obtain⟨rfl,rfl⟩:=h1
 have p0:(s.heap.push { cls:=.type "list",data:=.seq #[] }).get? s.heap.objs.size=some { cls:=.type "list",data:=.seq #[] }:=zay _ rfl
 refine⟨⟨_,p0,rfl⟩,F.args_list_init_2 _ _,?_⟩
 show wpAny _ _ (Builtin.List.listItems (.ref s.heap.objs.size) >>= fun old=>Builtin.List.listUpdate (.ref s.heap.objs.size) (fun _=>#[]) >>= fun _=>letGo old.toList.reverse >>= fun _=>zcn (.ref s.heap.objs.size) (.ref r) .none) _ _ _
 refine zaa ?_; unfold Builtin.List.listItems; refine zaa (zbx p0 rfl (zab ?_))
 show wpAny _ _ (updateSeq s.heap.objs.size (fun _=>#[]) >>= fun _=>letGo (#[]:Array Value).toList.reverse >>= fun _=>zcn (.ref s.heap.objs.size) (.ref r) .none) _ _ _
 refine zaa (zb9 p0 rfl (zaa (wpAny_letGo ?_)))
 have p1:=zbK (zaI (fun _=>(#[]:Array Value))) p0 rfl
 have oth:∀ b o,s.heap.get? b=some o->((s.heap.push { cls:=.type "list",data:=.seq #[] }).update s.heap.objs.size (zaI (fun _=>(#[]:Array Value)))).get? b=some o:=fun b o e=>(zbC _ _ (zaO (zag e))).trans (zah _ e)
 have hsz:s.heap.objs.size<=((s.heap.push { cls:=.type "list",data:=.seq #[] }).update s.heap.objs.size (zaI (fun _=>(#[]:Array Value)))).objs.size:=Nat.le_of_lt (zag p1)
 exact qde (A:=A.in1) hh (let ⟨o,ho,x⟩:=hv; ⟨o,oth r o ho,x⟩) (hm.at' fun o e=>oth d o e) _ (zaO hr) (zaA hd) _ _ p1 (fun h' tk acc c as hk hS hl hG hacc=>⟨rfl,h h' tk c acc as (fun b o e=>hk b o (zaA (zag e)) (oth b o e)) hS hl ⟨fun a ha=>zbL hsz (hG.above a ha),hG.pair⟩ hacc⟩) hn
end
theorem qeP{α β:Type}{R:α->β->Prop}:∀ {as:List α} {bs:List β},as.length=bs.length->(∀ (j:Nat) (a:α) (b:β),as[j]?=some a->bs[j]?=some b->R a b)->Paired R as bs
 | [],[],_,_=>.nil
 | [],_ :: _,h,_=>by simp at h
 | _ :: _,[],h,_=>by simp at h
 | a :: as,b :: bs,h,k=>.cons (k 0 a b rfl rfl) (qeP (by simpa using h) fun j x y e1 e2=>k (j + 1) x y (by simpa using e1) (by simpa using e2))
section
variable {X:Cx}
theorem qhD(hc:X.calm=true):CallR X (.type "list") (fun xs H Q=>∃ r d ps,xs=[.ref r]/\H r=some (.ext fun h=>h.IsItemsView r d)/\Rd H d (.dT (ps.map kI))/\∀ (l:Addr) (us:List V) (H2:Hp),Same H H2->H l=none->H2 l=some (.lst us)->Paired (elP H2) us ps->Q (.ref l) H2):=by
 intro pins s σ H xs us Q I rr h
 obtain⟨r,d,ps,rfl,hr,hd,q⟩:=h
 obtain⟨u,rfl,ru⟩:=vals1 rr
 cases ru
 obtain⟨hz,hlo,hnd,es,ep,raw,hes,hent⟩:=qdF I hd
 have hv:s.heap.IsItemsView r d:=(I.hok r _ hr).1
 refine qhA (I.ok.hd hc) hv raw (by rw[hes]; exact hz) fun h' tk c acc as keep1 hS hal made hacc=>?_
 have hal':as.length=ps.length:=by rw[hal,hes]
 obtain⟨bs,ebs,hbs⟩:=qbi (f:=zaj) (R:=fun b (p:List Int × V)=>H b=some (.tup (p.1.map V.int))) ps (es.toList.map (·.key)) (by rw[zaq,zaN,hes]) fun j p hp=>by
  obtain⟨e,b,e1,e2,e3,_⟩:=hent j p hp
  exact⟨b,by rw[zaz,zb1,e1]; exact congrArg some e2,e3⟩
 have fact:∀ (j:Nat) (p:List Int × V),ps[j]?=some p->∃ a b v,as[j]?=some a/\bs[j]?=some b/\H b=some (.tup (p.1.map V.int))/\RelV p.2 v/\s.heap.objs.size < a/\h'.get? a=some { cls:=.type "tuple",data:=.seq #[.ref b,v] }:=fun j p hp=>by
  obtain⟨e,b,e1,e2,e3,e4⟩:=hent j p hp
  have hj:j < ps.length:=(List.getElem?_eq_some_iff.mp hp).1
  obtain⟨b',f1,f2⟩:=qbb hbs j p hp
  have hja:as[j]?=some (as[j]'(by omega)):=zaC (by omega)
  obtain⟨e',g1,g2⟩:=made.pair j _ hja
  rw[e1] at g1; cases g1
  have hb:b=b':=by
   have z:(es.toList.map (·.key))[j]?=some (.ref b):=by rw[zaz,zb1,e1]; exact congrArg some e2
   rw[ebs,zaz,f1] at z
   have:=zaF z
   injection this with this
   exact this.symm
  subst hb
  exact⟨_,b,e.val,hja,f1,e3,e4,made.above _ (List.getElem_mem _),by rw[g2,e2]⟩
 have same_ix:∀ (i j:Nat) (a:Addr),as[i]?=some a->as[j]?=some a->i=j:=fun i j a hi hj=>by
  have li:i < ps.length:=by rw[<- hal']; exact(List.getElem?_eq_some_iff.mp hi).1
  have lj:j < ps.length:=by rw[<- hal']; exact(List.getElem?_eq_some_iff.mp hj).1
  obtain⟨a1,b1,v1,x1,_,x2,_,_,x3⟩:=fact i _ (zaC li)
  obtain⟨a2,b2,v2,y1,_,y2,_,_,y3⟩:=fact j _ (zaC lj)
  rw[hi] at x1; cases x1
  rw[hj] at y1; cases y1
  rw[x3] at y3
  injection y3 with y3
  injection y3 with _ _ y3 _
  injection y3 with y3 _
  have hb:b1=b2:=by
   have:=congrArg (fun z:Array Value=>z[0]?) y3
   simpa using this
  subst hb
  rw[x2] at y2
  injection y2 with y2
  injection y2 with y2
  have:=qcO y2
  have e1:(ps.map (·.1))[i]'(by rw[zaq]; exact li)=(ps.map (·.1))[j]'(by rw[zaq]; exact lj):=by simpa using this
  exact(zbO hnd).mp e1
 have dsj:∀ (j:Nat) (p:List Int × V) (b:Addr),ps[j]?=some p->bs[j]?=some b->((bs.zip ps).map fun x=>[V.ref x.1,x.2.2]).getD j []=[V.ref b,p.2]:=fun j p b h1 h2=>by
  have:((bs.zip ps).map fun x=>[V.ref x.1,x.2.2])[j]?=some [V.ref b,p.2]:=by
   rw[zaz,(List.getElem?_zip_eq_some (z:=(b,p))).mpr ⟨h2,h1⟩]
   rfl
  simp[List.getD,this]
 have oldn:∀ b o,s.heap.get? b=some o->¬ b∈as:=fun b o e hb=>absurd (zag e) (Nat.not_lt.mpr (Nat.le_of_lt (made.above b hb)))
 have hn:H s.heap.objs.size=none:=I.hok.fresh (zae _)
 have nS:∀ b∈as,b≠s.heap.objs.size:=fun b hb z=>absurd (made.above b hb) (by rw[z]; exact zaU _)
 generalize hds:((bs.zip ps).map fun x=>[V.ref x.1,x.2.2])=ds at dsj
 have same:∀ b o,s.heap.get? b=some o->upd (addP H as ds) s.heap.objs.size (.lst (as.map V.ref)) b=H b:=fun b o e=>by
  rw[qt (zaA (zag e)),qbF (oldn b o e)]
 have sm:Same H (upd (addP H as ds) s.heap.objs.size (.lst (as.map V.ref))):=fun b o e=>by
  obtain⟨ob,z⟩:=obj_some (I.hok b o e)
  rw[same b ob z]; exact e
 have I2:Inv X pins σ (upd (addP H as ds) s.heap.objs.size (.lst (as.map V.ref))) { s with heap:=h',toks:=tk }:=by
  refine qgY I (fun b o _ e=>keep1 b o e) (fun m hm=>hm.at' fun o e=>keep1 _ o e) same fun b o n e=>?_
  by_cases hb:b=s.heap.objs.size
  ·subst hb
   rw[qw] at e
   cases e
   exact⟨by rw[zaq,hal']; exact hz,acc.toList,c,by rw[hacc]; exact qbh as fun a _=>rfl,by simpa using hS⟩
  ·rw[qt hb] at e
   have hm:b∈as:=zcg fun z=>by rw[qbF z,n] at e; cases e
   obtain⟨j,hj,e2⟩:=qd8 (H:=H) (ds:=ds) hm
   rw[e2] at e
   cases e
   have lj:j < ps.length:=by rw[<- hal']; exact(List.getElem?_eq_some_iff.mp hj).1
   obtain⟨a,b',v,x1,x2,_,x4,_,x3⟩:=fact j _ (zaC lj)
   rw[hj] at x1; cases x1
   rw[dsj j _ b' (zaC lj) x2]
   exact⟨by show 2<=zal; decide,[.ref b',v],.cons rfl (.cons x4 .nil),_,x3,rfl,0,rfl,rfl⟩
 refine⟨.ref s.heap.objs.size,_,I2,rfl,q _ _ _ sm hn qw (qeP (by rw[zaq,hal']) fun j u p hu hp=>?_)⟩
 rw[zaz] at hu
 obtain⟨a,ha,rfl⟩:=P.map_some hu
 obtain⟨a',b,v,x1,x2,x3,x4,_,_⟩:=fact j p hp
 rw[ha] at x1; cases x1
 have hm:=za4 ha
 obtain⟨j',hj',e2⟩:=qd8 (H:=H) (as:=as) (ds:=ds) hm
 have:=same_ix j' j a hj' ha
 subst this
 rw[dsj j' p b hp x2] at e2
 exact⟨a,b,rfl,by rw[qt (nS a hm)]; exact e2,sm _ _ x3⟩
end
end My
namespace P
open PySem PySem.Spec PyProof.Rows L2
section
variable {X:Cx}{O:List Nat}
noncomputable def qca:D->Option D
 | .dT l=>(intKeys l).bind fun m=>some (.lst (m.map fun p=>.tup [.tup (p.1.map .int),p.2]))
 | _=>none
theorem qkI{o:Expr}{f:Ev}{p pos apos cpos:Pos}(hc:X.calm=true)(hg:Gl X "list")(hm:X.mg "list" = none)(ho:PB X O o f)
  (hp:∀ {to:TE},PE X o to->PE X (.Call (.Attribute o "items" apos) [] [] cpos) (fun σ H Q=>to σ H fun x H1=>∃ a,x=.ref a/\IsD H1 a/\My.qix x [] H1 Q))
  (he:zap [.Call (.Attribute o "items" apos) [] [] cpos] X.env=(false,eval (.Call (.Attribute o "items" apos) [] [] cpos) X.env) :: zap [] X.env:=by rfl) (hpl:(backTo pos (zap [] X.env)).any (·.1)=false:=by rfl) :
  PF X O (.Call (.Name "list" p) [.Call (.Attribute o "items" apos) [] [] cpos] [] pos) (qdC qca f):=by
 have main:CallR X (.type "list") (fun xs H Q=>∃ (A:Av) (r a:Addr) (ys:List (List Key × V)) (m:List (List Int × D)),xs=[.ref r]/\Live A H/\H r=some (.ext fun h=>h.IsItemsView r a)/\Rd H a (.dT ys)/\ys.map (·.1)=(m.map kI').map (·.1)/\RepL A H ((m.map kI').map (·.2)) (ys.map (·.2))/\∀ a H',Ext A H H'->H a=none->¬ A a->Own (fun b=>A b\/b=a) H' (.lst (m.map fun p=>.tup [.tup (p.1.map .int),p.2])) a->Q (.ref a) H'):=by
  intro pins s σ H xs us Q I r h
  obtain⟨A,r',a,ys,m,rfl,lv,hr,h2,e3,r3,q⟩:=h
  obtain⟨ps,rfl,e4⟩:=qbH e3
  refine My.qhD hc pins s σ H _ us Q I r ⟨r',a,ps,rfl,hr,h2,fun la us H2 sm n0 h3 pr=>?_⟩
  have up:∀ {d:D} {v:V},Rep A H d v->Rep (fun b=>A b\/b=la) H2 d v:=fun r=>by
   have r1:Rep (fun b=>A b\/b=la) H _ _:=r.av fun b hb=>hb.imp id fun z=>by rw[z]; exact n0
   exact r1.ext (Ext.same sm)
  have rl2:∀ {ts:List (List Int × D)} {qs:List (List Int × V)} {us:List V},ts.map (·.1)=qs.map (·.1)->RepL A H (ts.map (·.2)) (qs.map (·.2))->Paired (My.elP H2) us qs->RepL (fun b=>A b\/b=la) H2 (ts.map fun p=>.tup [.tup (p.1.map .int),p.2]) us:=by
   intro ts
   induction ts with
   | nil=>intro qs us e _ h; cases qs with
    | nil=>cases h; exact .nil
    | cons _ _=>cases e
   | cons t ts ih=>intro qs us e hr h; cases qs with
    | nil=>cases e
    | cons q qs=>
     cases h with
     | cons h' t'=>
      cases hr with
      | cons h1 h2=>
       rw[zaf,zaf] at e
       injection e with e1 e2
       obtain⟨a,b,rfl,ha,hb⟩:=h'
       exact .cons (.tup ha (.cons (.tup hb (by rw[e1]; exact qcQ _)) (.cons (up h1) .nil))) (ih e2 h2 t')
  have r4:RepL A H (m.map (·.2)) (ps.map (·.2)):=by simpa[zaD,Function.comp_def,kI',My.kI] using r3
  exact q la H2 (Ext.same sm) n0 (fun z=>lv la z n0) (.lst h3 (rl2 e4.symm r4 pr))
 refine PE.mono (qda main hg hm My.boot_list (qbA (hp ho) qdh he) (by decide) (by decide) he hpl) fun σ H Q ⟨H0,A0,A,E,ρ,d,st,e,q⟩=>?_
 obtain⟨x,ex,e⟩:=bind_some e
 cases x with
 | dT l=>
  obtain⟨m,e1,e⟩:=bind_some e
  cases e
  have el:=qbd e1
  subst el
  refine⟨H0,A0,A,E,ρ,_,st,ex,fun v H1 x1 r1=>?_⟩
  obtain⟨a,ys,rfl,h2,e3,r3⟩:=r1.dT_inv
  refine⟨a,rfl,.inr ⟨ys,h2⟩,a,ys,rfl,rfl,h2,fun r hr=>⟨A,r,a,ys,m,rfl,Live.ext (st.mono x1).live (Ext.new hr),qw,qbL (fun z=>?_) h2,e3,r3.ext (Ext.new hr),fun a' H' x' n na o=>?_⟩⟩
  ·subst z; rcases h2 with h2 | ⟨_,h2⟩ <;> (rw[hr] at h2; cases h2)
  ·have x2:=(x1.trans (Ext.new hr)).trans x'
   exact q a' H' x2 ((x1.trans (Ext.new hr)).free n) na o
 | _=>cases e
theorem qkD(cs:List My.Tm):qca (.dT (cs.map kD))=some (.lst (cs.map tmD)):=by
 have e:cs.map kD=(cs.map fun t=>(t.1,D.int t.2)).map kI':=by rw[zaD]; rfl
 show(intKeys (cs.map kD)).bind _=_
 rw[e,qbZ,qm,zaD]
 rfl
end
end P
namespace Law
open PySem PySem.Spec PyProof.Rows L2 P
local macro_rules | `(tactic| simp_all[$xs,*]) => `(tactic| simp[-zan, -zam, qm, qG, $xs,*])
seal PD PB PF PDA PBA PDT PDW PDI PDO PSD PSDs Fn
noncomputable def qbr:Sv:=(sSeq (sIf (bOf (eOp dEq (eOp dMod (eVar 0) (eC (.int 4))) (eC (.int 0)))) (sRt (eOp qal (eC (.int 3)) (eOp qaK (eC (.int 2)) (eOp dMod (eOp dDiv (eVar 0) (eC (.int 4))) (eC (.int 4)))))) sNx)
   (sRt (eOp qal (eC (.int 3)) (eOp qaK (eC (.int 2)) (eOp dMod (eOp dDiv (eVar 0) (eC (.int 4))) (eOp dSub (eOp qaK (eC (.int 5)) (eOp dPow (eC (.int 10)) (eC (.int 59)))) (eC (.int 1))))))))
noncomputable def qb1:List D->Option D:=runD 1 qbr
noncomputable def qbf:Sv:=(sSeq (sIf (bOf (eOp dLt (eVar 1) (qy dLen (qb (eVar 0) lNil)))) (sRt (eOp qU (eVar 0) (eVar 1))) sNx)
   (sRt (eC (.int 0))))
noncomputable def qaj:List D->Option D:=runD 2 qbf
noncomputable def qbB:Sv:=(sSeq (sSet 4 (eC (.dT [])))
   (sSeq (sFor (lR qM (qb (eC (.int 4)) lNil)) (qg 5) (sSeq (sSet 6 (eC (.int 0)))
   (sSeq (sFor (qaI (eSl3 (eVar 0) (qcg (eOp qal (eVar 3) (eVar 5))) (qcg (eC (.int 160))) (eC (.int 12)))) (qg 7) (sSet 6 (eOp qal (eVar 6) (eOp dMod (eOp dDiv (eVar 7) (eC (.int 9))) (eOp dPow (eC (.int 10)) (eC (.int 60)))))))
   (sSeq (sSet 7 (qy qaj (qb (eVar 0) (qb (eOp qal (eVar 3) (eVar 5)) lNil))))
   (sIf (bOf (eOp dGtI (eVar 6) (eC (.int 0)))) (sPut 4 (eSl dSlA (eTup (qb (eOp dMod (eVar 7) (eC (.int 3))) (qb (eOp dMod (eOp dDiv (eVar 7) (eC (.int 3))) (eC (.int 3))) lNil))) qff (qcg (eVar 2))) (eOp qal (eC (.int 1)) (eOp dMod (eVar 6) (eOp dSub (eVar 1) (eC (.int 1)))))) sNx)))))
   (sRt (qy qb7 (qb (qdr [none,some 4] (qaI (qy qeq (qb (eVar 4) lNil))) (qg 0) bYes (eTup (qb (eVar 0) (qb (eOp qU (eVar 1) (eVar 0)) lNil)))) lNil)))))
noncomputable def qaT:List D->Option D:=runD 8 qbB
noncomputable def b_on:Sv:=(sRt (eOp dMod (eVar 1) (eVar 0)))
noncomputable def B_on:List D->Option D:=runD 2 b_on
noncomputable def qcf:Sv:=(sRt (qy qb7 (qb (qdr [none,none,some 0] (qaI (qdC qep (eVar 1))) (qac 2 (qu (qg 0) (qu (qg 1) qaf))) (bOf (eOp dNe (qy B_on (qb (eVar 2) (qb (eVar 1) lNil))) (eC (.int 0)))) (eTup (qb (eVar 0) (qb (qy B_on (qb (eVar 2) (qb (eVar 1) lNil))) lNil)))) lNil)))
noncomputable def qbu:List D->Option D:=runD 2 qcf
noncomputable def qbg:Sv:=(sRt (qy qbu (qb (eVar 0) (qb (qjc (eOp qi1 (eTup (qb (eC (.int 0)) lNil)) (eVar 1)) (eVar 2)) lNil))))
noncomputable def qbc:List D->Option D:=runD 3 qbg
noncomputable def qcY:Sv:=(sSeq (sIf (bOf (eOp dEq (qy dLen (qb (eVar 0) lNil)) (eC (.int 1)))) (sRt (eTup (qb (eOp qal (eOp qU (eVar 0) (eC (.int 0))) (eOp qU (eVar 1) (eC (.int 0)))) lNil))) sNx)
   (sRt (eTup (qb (eOp qal (eOp qU (eVar 0) (eC (.int 0))) (eOp qU (eVar 1) (eC (.int 0)))) (qb (eOp qal (eOp qU (eVar 0) (eC (.int 1))) (eOp qU (eVar 1) (eC (.int 1)))) lNil)))))
noncomputable def qeA:List D->Option D:=runD 2 qcY
noncomputable def qee:Sv:=(sSeq (sSet 3 (eC (.dT [])))
   (sSeq (sFor (qaI (eVar 1)) (qac 2 (qu (qg 4) (qu (qg 5) qaf))) (sFor (qaI (eVar 2)) (qac 2 (qu (qg 6) (qu (qg 7) qaf))) (sSeq (sSet 8 (qy qeA (qb (eVar 4) (qb (eVar 6) lNil))))
   (sPut 3 (eVar 8) (eOp qal (qbI (eVar 3) (eVar 8) (eC (.int 0))) (eOp qaK (eVar 5) (eVar 7)))))))
   (sRt (qy qbu (qb (eVar 0) (qb (eVar 3) lNil))))))
noncomputable def qcx:List D->Option D:=runD 9 qee
noncomputable def qbl:Sv:=(sSeq (sSet 4 (eLst (qb (qy qbc (qb (eVar 0) (qb (eVar 1) (qb (eC (.int 1)) lNil)))) lNil)))
   (sSeq (sFor (lR qM (qb (eVar 3) lNil)) (qg 5) (sApp 4 (qy qcx (qb (eVar 0) (qb (eOp qU (eVar 4) (eVar 5)) (qb (eVar 2) lNil))))))
   (sRt (eVar 4))))
noncomputable def qbk:List D->Option D:=runD 6 qbl
noncomputable def qg5:Sv:=(sSeq (sSet 3 (qy qdb (qb (eVar 1) lNil)))
   (sSeq (sFor (qaI (eVar 2)) (qac 2 (qu (qg 4) (qu (qg 5) qaf))) (sPut 3 (eVar 4) (eOp qal (qbI (eVar 3) (eVar 4) (eC (.int 0))) (eVar 5))))
   (sRt (qy qbu (qb (eVar 0) (qb (eVar 3) lNil))))))
noncomputable def qc6:List D->Option D:=runD 6 qg5
noncomputable def qbo:Sv:=(sSeq (sSet 4 (eTup lNil))
   (sSeq (sFor (lR qcv (qb (eVar 2) (qb (eNeg (eC (.int 1))) (qb (eNeg (eC (.int 1))) lNil)))) (qg 5) (sSet 4 (qy qc6 (qb (eVar 0) (qb (qy qcx (qb (eVar 0) (qb (eVar 4) (qb (eVar 1) lNil)))) (qb (qbI (eVar 3) (eTup (qb (eVar 5) lNil)) (eTup lNil)) lNil))))))
   (sRt (eVar 4))))
noncomputable def qbm:List D->Option D:=runD 6 qbo
noncomputable def qbD:Sv:=(sRt (eOp qit (qdr [none,none,some 1] (qaI (eVar 0)) (qac 2 (qu (qg 0) (qu (qg 1) qaf))) bYes (eOp qU (eVar 0) (eVar 2))) (eC (.int 0))))
noncomputable def qaF:List D->Option D:=runD 2 qbD
noncomputable def qaP:Sv:=(sRt (qy qc6 (qb (eVar 0) (qb (qy qcx (qb (eVar 0) (qb (qy qbc (qb (eVar 0) (qb (eVar 1) (qb (eOp qU (eVar 2) (eC (.int 0))) lNil)))) (qb (eVar 3) lNil)))) (qb (qy qbc (qb (eVar 0) (qb (eVar 1) (qb (eOp qU (eVar 2) (eC (.int 1))) lNil)))) lNil)))))
noncomputable def qaN:List D->Option D:=runD 4 qaP
noncomputable def qjt:Sv:=(sSeq (sSet 4 (eOp dSub (qy dLen (qb (eVar 3) lNil)) (eC (.int 1))))
   (sSeq (sSet 5 (qy qbk (qb (eVar 0) (qb (eVar 1) (qb (eOp qU (eVar 3) (eVar 4)) (qb (qy qaF (qb (eVar 2) (qb (eVar 4) lNil))) lNil))))))
   (sSeq (sSet 6 (eC (.dT [])))
   (sSeq (sFor (qaI (eVar 2)) (qac 2 (qu (qg 7) (qu (qg 8) qaf))) (sSeq (sSet 9 (eSl dSlA (eVar 7) qff (qcg (eVar 4))))
   (sSeq (sSet 10 (qy qaN (qb (eVar 0) (qb (eVar 1) (qb (eTup (qb (eVar 8) (qb (eC (.int 0)) lNil))) (qb (eOp qU (eVar 5) (eOp qU (eVar 7) (eVar 4))) lNil))))))
   (sPut 6 (eVar 9) (qy qc6 (qb (eVar 0) (qb (qbI (eVar 6) (eVar 9) (eTup lNil)) (qb (eVar 10) lNil))))))))
   (sSeq (sIf (bOf (eOp dEq (eVar 4) (eC (.int 0)))) (sRt (qbI (eVar 6) (eTup lNil) (eTup lNil))) sNx)
   (sRt (qy qbm (qb (eVar 0) (qb (eOp qU (eVar 3) (eC (.int 0))) (qb (qy qaF (qb (eVar 2) (qb (eC (.int 0)) lNil))) (qb (eVar 6) lNil)))))))))))
noncomputable def qex:List D->Option D:=runD 11 qjt
noncomputable def qcR:Sv:=(sSeq (sSet 3 (eC (.int 0)))
   (sSeq (sFor (qaI (eVar 1)) (qac 2 (qu (qg 4) (qu (qg 5) qaf))) (sSeq (sSet 6 (eVar 5))
   (sSeq (sFor (lR qM (qb (qy dLen (qb (eVar 4) lNil)) lNil)) (qg 7) (sFor (lR qM (qb (eOp qU (eVar 4) (eVar 7)) lNil)) (qg 8) (sSet 6 (eOp dMod (eOp qaK (eVar 6) (eOp qU (eVar 2) (eVar 7))) (eVar 0)))))
   (sSet 3 (eOp qal (eVar 3) (eVar 6))))))
   (sRt (eOp dMod (eVar 3) (eVar 0)))))
noncomputable def qa4:List D->Option D:=runD 9 qcR
noncomputable def qa7:Sv:=(sSeq (sIf (bOf (eOp dEq (eOp dMod (eVar 0) (eC (.int 3))) (eC (.int 0)))) (sRt (eOp dSub (eOp dMod (eOp dDiv (eVar 0) (eC (.int 3))) (eC (.int 21))) (eC (.int 10)))) sNx)
   (sRt (eOp dSub (eOp dMod (eOp dDiv (eVar 0) (eC (.int 3))) (eOp dSub (eOp qaK (eC (.int 2)) (eOp dPow (eC (.int 10)) (eC (.int 60)))) (eC (.int 1)))) (eOp dSub (eOp dPow (eC (.int 10)) (eC (.int 60))) (eC (.int 1))))))
noncomputable def qa5:List D->Option D:=runD 1 qa7
noncomputable def qbp:Sv:=(sRt (eAnd (eIsi "int" (eVar 0)) (eNot (eIsi "bool" (eVar 0)))))
noncomputable def qaY:List D->Option D:=runD 1 qbp
noncomputable def qaA:Sv:=(sSeq (sIf (bOr (bNot (bOf (eIsi "tuple" (eVar 0)))) (bOf (eOp dNe (qy dLen (qb (eVar 0) lNil)) (eVar 1)))) (sRt (eC (.bl false))) sNx)
   (sSeq (sFor (qaI (eVar 0)) (qg 2) (sIf (bNot (bOf (qy qaY (qb (eVar 2) lNil)))) (sRt (eC (.bl false))) sNx))
   (sRt (eC (.bl true)))))
noncomputable def qaX:List D->Option D:=runD 3 qaA
noncomputable def qcL:Sv:=(sSeq (sIf (bNot (bOf (eIsi "tuple" (eVar 2)))) (sRt (eC (.bl false))) sNx)
   (sSeq (sSet 4 (qy qdb (qb (eVar 3) lNil)))
   (sSeq (sSet 5 (eC .non))
   (sSeq (sFor (qaI (eVar 2)) (qg 6) (sSeq (sIf (bOr (bNot (bOf (eIsi "tuple" (eVar 6)))) (bOf (eOp dNe (qy dLen (qb (eVar 6) lNil)) (eC (.int 2))))) (sRt (eC (.bl false))) sNx)
   (sSeq (sAsg (eVar 6) (qfb 2 (qu (qg 7) (qu (qg 8) qaf))))
   (sSeq (sIf (bOr (bNot (bOf (qy qaX (qb (eVar 7) (qb (eVar 1) lNil))))) (bOr (bNot (bOf (qy qaY (qb (eVar 8) lNil)))) (bOf (eOp qea (eVar 7) (eVar 4))))) (sRt (eC (.bl false))) sNx)
   (sSeq (sIf (bAnd (bOf (eOp qj8 (eVar 5) (eC .non))) (bNot (bOf (eOp dLt (eVar 5) (eVar 7))))) (sRt (eC (.bl false))) sNx)
   (sSeq (sIf (bOr (bOf (eOp dLt (eVar 8) (eC (.int 1)))) (bOr (bOf (eOp dGeI (eVar 8) (eVar 0))) (bOf (eOp dNe (eOp dMod (eOp dSub (eOp qU (eVar 4) (eVar 7)) (eVar 8)) (eVar 0)) (eC (.int 0)))))) (sRt (eC (.bl false))) sNx)
   (sSeq (sSet 5 (eVar 7))
   (sPut 4 (eVar 7) (eC (.int 0))))))))))
   (sSeq (sFor (qaI (eVar 4)) (qg 7) (sIf (bOf (eOp dNe (eOp dMod (eOp qU (eVar 4) (eVar 7)) (eVar 0)) (eC (.int 0)))) (sRt (eC (.bl false))) sNx))
   (sRt (eC (.bl true))))))))
noncomputable def qcP:List D->Option D:=runD 9 qcL
noncomputable def qaO:Sv:=(sSeq (sSet 2 (eC (.dT [])))
   (sSeq (sFor (qaI (eVar 0)) (qac 2 (qu (qg 3) (qu (qg 4) qaf))) (sFor (qaI (eVar 1)) (qac 2 (qu (qg 5) (qu (qg 6) qaf))) (sSeq (sSet 7 (qy qb7 (qb (qdr [none,some 3,some 5] (lR qM (qb (qy dLen (qb (eVar 3) lNil)) lNil)) (qg 0) bYes (eOp qal (eOp qU (eVar 1) (eVar 0)) (eOp qU (eVar 2) (eVar 0)))) lNil)))
   (sPut 2 (eVar 7) (eOp qal (qbI (eVar 2) (eVar 7) (eC (.int 0))) (eOp qaK (eVar 4) (eVar 6)))))))
   (sRt (eVar 2))))
noncomputable def qR:List D->Option D:=runD 8 qaO
noncomputable def qcl:Sv:=(sSeq (sSet 3 (eC (.dT [])))
   (sSeq (sFor (qaI (eVar 1)) (qac 2 (qu (qg 4) (qu (qg 5) qaf))) (sSeq (sSet 6 (eLst (qb (eTup (qb (eSl dSlA (eTup (qb (eC (.int 0)) (qb (eC (.int 0)) lNil))) qff (qcg (eVar 0))) (qb (eVar 5) lNil))) lNil)))
   (sSeq (sFor (lZip (qb (eVar 2) (qb (eVar 4) lNil))) (qac 2 (qu (qg 7) (qu (qg 8) qaf))) (sFor (lR qM (qb (eVar 8) lNil)) (qg 9) (sSet 6 (qdC qca (qy qR (qb (eVar 6) (qb (eVar 7) lNil)))))))
   (sFor (qaI (eVar 6)) (qac 2 (qu (qg 10) (qu (qg 11) qaf))) (sPut 3 (eVar 10) (eOp qal (qbI (eVar 3) (eVar 10) (eC (.int 0))) (eVar 11)))))))
   (sRt (eVar 3))))
noncomputable def qch:List D->Option D:=runD 12 qcl
noncomputable def qa0:Sv:=(sSeq (sIf (bOf (eOp dEq (eVar 0) (eC (.int 1)))) (sRt (eLst (qb (eTup (qb (eTup (qb (eTup (qb (eC (.int 1)) lNil)) (qb (eC (.int 1)) lNil))) lNil)) lNil))) sNx)
   (sRt (eLst (qb (eTup (qb (eTup (qb (eTup (qb (eC (.int 1)) (qb (eC (.int 0)) lNil))) (qb (eC (.int 1)) lNil))) lNil)) (qb (eTup (qb (eTup (qb (eTup (qb (eC (.int 0)) (qb (eC (.int 1)) lNil))) (qb (eC (.int 1)) lNil))) lNil)) lNil)))))
noncomputable def qb3:List D->Option D:=runD 1 qa0
noncomputable def qjr:Sv:=(sSeq (sSet 1 (qy qb1 (qb (qy qaj (qb (eVar 0) (qb (eC (.int 0)) lNil))) lNil)))
   (sSeq (sSet 2 (eOp qal (eC (.int 1)) (eOp dMod (qy qaj (qb (eVar 0) (qb (eC (.int 1)) lNil))) (eC (.int 2)))))
   (sSeq (sSet 3 (eOp qal (eC (.int 1)) (eOp dMod (eOp dDiv (qy qaj (qb (eVar 0) (qb (eC (.int 1)) lNil))) (eC (.int 2))) (eC (.int 2)))))
   (sSeq (sSet 4 (eSl dSlA (eLst (qb (qy qa5 (qb (qy qaj (qb (eVar 0) (qb (eC (.int 2)) lNil))) lNil)) (qb (qy qa5 (qb (qy qaj (qb (eVar 0) (qb (eC (.int 3)) lNil))) lNil)) lNil))) qff (qcg (eVar 2))))
   (sSeq (sSet 5 (qy qaT (qb (eVar 0) (qb (eVar 1) (qb (eVar 3) (qb (eC (.int 4)) lNil))))))
   (sSeq (sSet 6 (eSl dSlA (eLst (qb (qy qaT (qb (eVar 0) (qb (eVar 1) (qb (eVar 2) (qb (eC (.int 8)) lNil))))) (qb (qy qaT (qb (eVar 0) (qb (eVar 1) (qb (eVar 2) (qb (eC (.int 12)) lNil))))) lNil))) qff (qcg (eVar 3))))
   (sSeq (sSet 7 (qy qkM (qb (eVar 6) lNil)))
   (sSeq (sSet 8 (qy qex (qb (eVar 1) (qb (eVar 2) (qb (eVar 5) (qb (eVar 7) lNil))))))
   (sSeq (sIf (bOr (bOf (eOp dNe (eVar 7) (eVar 6))) (bNot (bOf (qy qcP (qb (eVar 1) (qb (eVar 2) (qb (eVar 8) (qb (qy qch (qb (eVar 2) (qb (eVar 5) (qb (eVar 6) lNil)))) lNil)))))))) (sRt (eC (.bl false))) sNx)
   (sSeq (sSet 9 (qdr [none,some 1,some 4] (qaI (eVar 6)) (qg 0) bYes (qy qa4 (qb (eVar 1) (qb (eVar 0) (qb (eVar 2) lNil))))))
   (sSeq (sIf (bOf (eOp dNe (qy qa4 (qb (eVar 1) (qb (eVar 8) (qb (eVar 4) lNil)))) (qy qa4 (qb (eVar 1) (qb (eVar 5) (qb (eVar 9) lNil)))))) (sRt (eC (.bl false))) sNx)
   (sRt (eAnd (eOp dEq (qy qex (qb (eVar 1) (qb (eVar 2) (qb (eVar 5) (qb (qy qb7 (qb (eVar 6) lNil)) lNil))))) (eVar 8)) (eOp dEq (qy qex (qb (eVar 1) (qb (eVar 3) (qb (eVar 5) (qb (qy qb3 (qb (eVar 3) lNil)) lNil))))) (eVar 5)))))))))))))))
noncomputable def top(i:Nat):Stmt:=PySem.Challenge.pw_chiefway_k08_forms_put_in.main.body.getD i (.Pass ⟨0,0,0,0⟩)
noncomputable abbrev s_law_wheel:Stmt:=top 16
noncomputable abbrev s_law_cell:Stmt:=top 14
noncomputable abbrev s_law_form:Stmt:=top 23
noncomputable abbrev s_on:Stmt:=top 1
noncomputable abbrev s_form_of:Stmt:=top 3
noncomputable abbrev s_constant:Stmt:=top 7
noncomputable abbrev s_added:Stmt:=top 6
noncomputable abbrev s_times:Stmt:=top 5
noncomputable abbrev s_powers_of:Stmt:=top 11
noncomputable abbrev s_plus:Stmt:=top 4
noncomputable abbrev s_by_powers:Stmt:=top 12
noncomputable abbrev s_greatest:Stmt:=top 10
noncomputable abbrev s_turned_form:Stmt:=top 8
noncomputable abbrev s_put:Stmt:=top 9
noncomputable abbrev s_law_at:Stmt:=top 18
noncomputable abbrev s_law_number:Stmt:=top 15
noncomputable abbrev s_law_whole:Stmt:=top 17
noncomputable abbrev s_law_exponents:Stmt:=top 19
noncomputable abbrev s_law_is:Stmt:=top 20
noncomputable abbrev s_law_product:Stmt:=top 21
noncomputable abbrev s_law_put:Stmt:=top 22
noncomputable abbrev s_law_alone:Stmt:=top 24
noncomputable abbrev s_law:Stmt:=top 25
theorem sc_law_wheel:FnScope ["cell"] ["cell"] (qi s_law_wheel):=⟨rfl,rfl,rfl,by decide +kernel,rfl,by decide +kernel,by decide +kernel⟩
theorem sc_law_cell:FnScope ["script", "k"] ["script", "k"] (qi s_law_cell):=⟨rfl,rfl,rfl,by decide +kernel,rfl,by decide +kernel,by decide +kernel⟩
theorem sc_law_form:FnScope ["script", "M", "n", "at", "terms", "k", "total", "cell"] ["script", "M", "n", "at"] (qi s_law_form):=⟨rfl,rfl,rfl,by decide +kernel,rfl,by decide +kernel,by decide +kernel⟩
theorem sc_on:FnScope ["M", "n"] ["M", "n"] (qi s_on):=⟨rfl,rfl,rfl,by decide +kernel,rfl,by decide +kernel,by decide +kernel⟩
theorem sc_form_of:FnScope ["M", "sums"] ["M", "sums"] (qi s_form_of):=⟨rfl,rfl,rfl,by decide +kernel,rfl,by decide +kernel,by decide +kernel⟩
theorem sc_constant:FnScope ["M", "n", "c"] ["M", "n", "c"] (qi s_constant):=⟨rfl,rfl,rfl,by decide +kernel,rfl,by decide +kernel,by decide +kernel⟩
theorem sc_added:FnScope ["exponents", "others"] ["exponents", "others"] (qi s_added):=⟨rfl,rfl,rfl,by decide +kernel,rfl,by decide +kernel,by decide +kernel⟩
theorem sc_times:FnScope ["M", "one", "other", "sums", "exponents", "c", "others", "d", "both"] ["M", "one", "other"] (qi s_times):=⟨rfl,rfl,rfl,by decide +kernel,rfl,by decide +kernel,by decide +kernel⟩
theorem sc_powers_of:FnScope ["M", "n", "one", "most", "powers", "exponent"] ["M", "n", "one", "most"] (qi s_powers_of):=⟨rfl,rfl,rfl,by decide +kernel,rfl,by decide +kernel,by decide +kernel⟩
theorem sc_plus:FnScope ["M", "one", "other", "sums", "exponents", "c"] ["M", "one", "other"] (qi s_plus):=⟨rfl,rfl,rfl,by decide +kernel,rfl,by decide +kernel,by decide +kernel⟩
theorem sc_by_powers:FnScope ["M", "inner", "most", "factors", "total", "exponent"] ["M", "inner", "most", "factors"] (qi s_by_powers):=⟨rfl,rfl,rfl,by decide +kernel,rfl,by decide +kernel,by decide +kernel⟩
theorem sc_greatest:FnScope ["one", "place"] ["one", "place"] (qi s_greatest):=⟨rfl,rfl,rfl,by decide +kernel,rfl,by decide +kernel,by decide +kernel⟩
theorem sc_turned_form:FnScope ["M", "n", "turn", "one"] ["M", "n", "turn", "one"] (qi s_turned_form):=⟨rfl,rfl,rfl,by decide +kernel,rfl,by decide +kernel,by decide +kernel⟩
theorem sc_put:FnScope ["M", "n", "outer", "inners", "last", "powers", "factors", "exponents", "c", "ahead", "part"] ["M", "n", "outer", "inners"] (qi s_put):=⟨rfl,rfl,rfl,by decide +kernel,rfl,by decide +kernel,by decide +kernel⟩
theorem sc_law_at:FnScope ["M", "one", "values", "total", "exponents", "c", "product", "k", "again"] ["M", "one", "values"] (qi s_law_at):=⟨rfl,rfl,rfl,by decide +kernel,rfl,by decide +kernel,by decide +kernel⟩
theorem sc_law_number:FnScope ["cell"] ["cell"] (qi s_law_number):=⟨rfl,rfl,rfl,by decide +kernel,rfl,by decide +kernel,by decide +kernel⟩
theorem sc_law_whole:FnScope ["found"] ["found"] (qi s_law_whole):=⟨rfl,rfl,rfl,by decide +kernel,rfl,by decide +kernel,by decide +kernel⟩
theorem sc_law_exponents:FnScope ["found", "n", "one"] ["found", "n"] (qi s_law_exponents):=⟨rfl,rfl,rfl,by decide +kernel,rfl,by decide +kernel,by decide +kernel⟩
theorem sc_law_is:FnScope ["M", "n", "found", "sums", "left", "ahead", "term", "exponents", "c"] ["M", "n", "found", "sums"] (qi s_law_is):=⟨rfl,rfl,rfl,by decide +kernel,rfl,by decide +kernel,by decide +kernel⟩
theorem sc_law_product:FnScope ["one", "other", "sums", "left", "c", "right", "d", "exponents"] ["one", "other"] (qi s_law_product):=⟨rfl,rfl,rfl,by decide +kernel,rfl,by decide +kernel,by decide +kernel⟩
theorem sc_law_put:FnScope ["n", "outer", "inners", "sums", "exponents", "c", "made", "some", "many", "turn", "here", "d"] ["n", "outer", "inners"] (qi s_law_put):=⟨rfl,rfl,rfl,by decide +kernel,rfl,by decide +kernel,by decide +kernel⟩
theorem sc_law_alone:FnScope ["m"] ["m"] (qi s_law_alone):=⟨rfl,rfl,rfl,by decide +kernel,rfl,by decide +kernel,by decide +kernel⟩
theorem sc_law:FnScope ["script", "M", "n", "m", "values", "outer", "inners", "handed", "found", "worths"] ["script"] (qi s_law):=⟨rfl,rfl,rfl,by decide +kernel,rfl,by decide +kernel,by decide +kernel⟩
structure Txt(K:zad)(mg:Str->Option Value):Prop where
 d_law_wheel:My.DefAt K mg "_law_wheel" s_law_wheel ["cell"]
 d_law_cell:My.DefAt K mg "_law_cell" s_law_cell ["script", "k"]
 d_law_form:My.DefAt K mg "_law_form" s_law_form ["script", "M", "n", "at"]
 d_on:My.DefAt K mg "on" s_on ["M", "n"]
 d_form_of:My.DefAt K mg "form_of" s_form_of ["M", "sums"]
 d_constant:My.DefAt K mg "constant" s_constant ["M", "n", "c"]
 d_added:My.DefAt K mg "added" s_added ["exponents", "others"]
 d_times:My.DefAt K mg "times" s_times ["M", "one", "other"]
 d_powers_of:My.DefAt K mg "powers_of" s_powers_of ["M", "n", "one", "most"]
 d_plus:My.DefAt K mg "plus" s_plus ["M", "one", "other"]
 d_by_powers:My.DefAt K mg "by_powers" s_by_powers ["M", "inner", "most", "factors"]
 d_greatest:My.DefAt K mg "greatest" s_greatest ["one", "place"]
 d_turned_form:My.DefAt K mg "turned_form" s_turned_form ["M", "n", "turn", "one"]
 d_put:My.DefAt K mg "put" s_put ["M", "n", "outer", "inners"]
 d_law_at:My.DefAt K mg "_law_at" s_law_at ["M", "one", "values"]
 d_law_number:My.DefAt K mg "_law_number" s_law_number ["cell"]
 d_law_whole:My.DefAt K mg "_law_whole" s_law_whole ["found"]
 d_law_exponents:My.DefAt K mg "_law_exponents" s_law_exponents ["found", "n"]
 d_law_is:My.DefAt K mg "_law_is" s_law_is ["M", "n", "found", "sums"]
 d_law_product:My.DefAt K mg "_law_product" s_law_product ["one", "other"]
 d_law_put:My.DefAt K mg "_law_put" s_law_put ["n", "outer", "inners"]
 d_law_alone:My.DefAt K mg "_law_alone" s_law_alone ["m"]
 b_bool:mg "bool" = none
 b_dict:mg "dict" = none
 b_int:mg "int" = none
 b_isinstance:mg "isinstance" = none
 b_len:mg "len" = none
 b_list:mg "list" = none
 b_max:mg "max" = none
 b_range:mg "range" = none
 b_sorted:mg "sorted" = none
 b_tuple:mg "tuple" = none
 b_zip:mg "zip" = none
section
variable {P:zai}{w:World}{K:zad}{mg:Str->Option Value}{base:Heap}
theorem qfS(T:Txt K mg):ZOk P w K mg base ["cell"] "_law_wheel" s_law_wheel 0 qbr:=by
  intro fa cdv A outer s H E hr
  have hu:=qa1 hr
  refine⟨_,(cn (O2:=[]) (qaH (qag (qfT hr.units) (PD.b (qL qaJ (qd 0 (pv 0)) (PD.b ql))) (PD.b ql) (qaz _)) (qp (qD (qL qao (PD.b ql) (PD.b (qL qb4 (PD.b ql) (PD.b (qL qaJ (PD.b (qL qc2 (qd 0 (pv 0)) (PD.b ql))) (PD.b ql)))))))) qap)
   (qp (qD (qL qao (PD.b ql) (PD.b (qL qb4 (PD.b ql) (PD.b (qL qaJ (PD.b (qL qc2 (qd 0 (pv 0)) (PD.b ql))) (PD.b (qL qcG (PD.b (qL qb4 (PD.b ql) (PD.b (qL qg4 (PD.b ql) (PD.b ql))))) (PD.b ql))))))))))),?_⟩
  unfold qbr
  with_reducible rfl
theorem qfC(T:Txt K mg):Fn P w K mg base "_law_wheel" 1 ["cell"] qb1:=qa2 T.d_law_wheel sc_law_wheel (qfS T)
theorem qhd(T:Txt K mg):ZOk P w K mg base ["script", "k"] "_law_cell" s_law_cell 0 qbf:=by
  intro fa cdv A outer s H E hr
  have hu:=qa1 hr
  refine⟨_,(cn (O2:=[]) (qaH (qag (qi2 hr.units0) (qd 1 (pv 1)) (PD.b (cB qdi T.b_len My.boot_len (pbc (qd 0 (pv 0)) qaa))) (qaz _)) (qp (qD (qW hu (qd 0 (pv 0)) (qd 1 (pv 1)) (fun _ _=>rfl)))) qap)
   (qp (qD ql))),?_⟩
  unfold qbf
  with_reducible rfl
theorem qaU(T:Txt K mg):Fn P w K mg base "_law_cell" 1 ["script", "k"] qaj:=qa2 T.d_law_cell sc_law_cell (qhd T)
theorem qhn(T:Txt K mg):ZOk P w K mg base ["script", "M", "n", "at", "terms", "k", "total", "cell"] "_law_form" s_law_form 1 qbB:=by
  intro fa cdv A outer s H E hr
  have hu:=qa1 hr
  refine⟨_,(cn (O2:=[4]) (qa3 (i:=4) sc_law_form.nd rfl (Or.inr rfl) qcb)
   (cn (O2 := []) (qae (O1 := [4]) (Ob := []) za2 rfl (qaS rfl T.b_range (pbc (PD.b ql) qaa)) (qx (qF (i := 5) sc_law_form.nd rfl (Or.inl rfl)))
    (cn (O2:=[4]) (qP (i:=6) sc_law_form.nd rfl (Or.inl rfl) ql)
   (cn (O2 := [4]) (qae (O1 := [4]) (Ob := [4]) za2 rfl (qab (PF.d (qiG (qd 0 (pv 0)) (qbj (qL qao (qd 3 (pv 3)) (qd 5 (pv 5)))) (qbj ql) ql))) (qx (qF (i := 7) sc_law_form.nd rfl (Or.inl rfl)))
    (qp (qP (i:=6) sc_law_form.nd rfl (Or.inl rfl) (qL qao (qd 6 (pv 6)) (PD.b (qL qaJ (PD.b (qL qc2 (qd 7 (pv 7)) (PD.b ql))) (PD.b (qL qg4 (PD.b ql) (PD.b ql)))))))) rfl rfl rfl)
   (cn (O2:=[4]) (qP (i:=7) sc_law_form.nd rfl (Or.inl rfl) (cD (qaU T) (hr.mono (by decide)) (pdc (qe 0 (pv 0) (by decide)) (pdc (qL qao (qd 3 (pv 3)) (qd 5 (pv 5))) qj)) (lc (lc l0))))
   (qp (qaH (qag qoQ (qd 6 (pv 6)) (PD.b ql) (qaz _)) (qp (qbQ (i:=4) hu (pv 4) (PD.b (qcj sl_A (PD.b (qam (pdc (qL qaJ (qd 7 (pv 7)) (PD.b ql)) (pdc (qL qaJ (PD.b (qL qc2 (qd 7 (pv 7)) (PD.b ql))) (PD.b ql)) qj)) (fun ρ ds h=>by have:=(lc (lc l0)) ρ ds h; omega))) qb9 (qbj (qe 2 (pv 2) (by decide))))) (qL qao (PD.b ql) (PD.b (qL qaJ (qd 6 (pv 6)) (PD.b (qL qcG (qd 1 (pv 1)) (PD.b ql)))))) rfl)) qap))))) rfl rfl rfl)
   (qp (qD (cTy qcM T.b_tuple My.boot_tuple (pbc (PD.b (PF.d (qef (N:=["exponents", "terms"]) (ms:=[none,some 4]) rfl (qfc (n:=s.heap.objs.size + 1) rfl rfl rfl) ⟨⟨rfl,rfl,Or.inl rfl⟩,trivial⟩ rfl (qab (PF.d (fB (qhz rfl) T.b_sorted My.boot_sorted (pbc (qd 4 (pv 4)) qaa)))) (fun _ _ _ _=>(qx (qF (i:=0) (show(["exponents", "terms"]:List Str).Nodup from by decide) rfl (Or.inl rfl)))) (fun _ _ _ _=>qcW) (fun _ _ _ _=>(qam (pdc (qe 0 (pv 0) (by decide)) (pdc (qW hu (qd 1 (pv 1)) (qd 0 (pv 0)) (fun _ _=>rfl)) qj)) (fun ρ ds h=>by have:=(lc (lc l0)) ρ ds h; omega)))))) qaa)))))),?_⟩
  unfold qbB
  with_reducible rfl
theorem qcB(T:Txt K mg):Fn P w K mg base "_law_form" 2 ["script", "M", "n", "at"] qaT:=qa2 T.d_law_form sc_law_form (qhn T)
theorem Z_on(T:Txt K mg):ZOk P w K mg base ["M", "n"] "on" s_on 0 b_on:=by
  intro fa cdv A outer s H E hr
  have hu:=qa1 hr
  refine⟨_,(qp (qD (qL qaJ (qd 1 (pv 1)) (qd 0 (pv 0))))),?_⟩
  unfold b_on
  with_reducible rfl
theorem S_on(T:Txt K mg):Fn P w K mg base "on" 1 ["M", "n"] B_on:=qa2 T.d_on sc_on (Z_on T)
theorem qje(T:Txt K mg):ZOk P w K mg base ["M", "sums"] "form_of" s_form_of 1 qcf:=by
  intro fa cdv A outer s H E hr
  have hu:=qa1 hr
  refine⟨_,(qp (qD (cTy qcM T.b_tuple My.boot_tuple (pbc (PD.b (PF.d (qef (N:=["exponents", "c", "M"]) (ms:=[none,none,some 0]) rfl (qfc (n:=s.heap.objs.size + 1) rfl rfl rfl) ⟨⟨rfl,rfl,Or.inl rfl⟩,trivial⟩ rfl (qab (PF.d (qhF rfl hr.units (by rfl) T.b_sorted (qd 1 (pv 1)) (fun h=>qlf PySem.F.slot_dict_items PySem.F.type_dict_items My.qg0 h)))) (fun _ _ _ _=>(qaM (qbe (n:=2) rfl (qC (fun a b=>qI a b) (qx (qF (i:=0) (show(["exponents", "c", "M"]:List Str).Nodup from by decide) rfl (Or.inl rfl))) (qC (fun a b=>qI a b) (qx (qF (i:=1) (show(["exponents", "c", "M"]:List Str).Nodup from by decide) rfl (Or.inl rfl))) qas))))) (fun _ _ _ _=>qj4 (qag (qf4 hr.units) (PD.b (cD (S_on T) (hr.mono (by decide)) (pdc (qe 2 (pv 2) (by decide)) (pdc (qe 1 (pv 1) (by decide)) qj)) (lc (lc l0)))) (PD.b ql) (qaz _))) (fun _ _ _ _=>(qam (pdc (qe 0 (pv 0) (by decide)) (pdc (cD (S_on T) (hr.mono (by decide)) (pdc (qe 2 (pv 2) (by decide)) (pdc (qe 1 (pv 1) (by decide)) qj)) (lc (lc l0))) qj)) (fun ρ ds h=>by have:=(lc (lc l0)) ρ ds h; omega)))))) qaa)))),?_⟩
  unfold qcf
  with_reducible rfl
theorem qc5(T:Txt K mg):Fn P w K mg base "form_of" 2 ["M", "sums"] qbu:=qa2 T.d_form_of sc_form_of (qje T)
theorem qhh(T:Txt K mg):ZOk P w K mg base ["M", "n", "c"] "constant" s_constant 2 qbg:=by
  intro fa cdv A outer s H E hr
  have hu:=qa1 hr
  refine⟨_,(qp (qD (cD (qc5 T) (hr.mono (by decide)) (pdc (qe 0 (pv 0) (by decide)) (pdc (PF.d (qjI hu (PD.b (qL qmK (PD.b (qam (pdc ql qj) (fun ρ ds h=>by have:=(lc l0) ρ ds h; omega))) (qd 1 (pv 1)))) (qe 2 (pv 2) (by decide)))) qj)) (lc (lc l0))))),?_⟩
  unfold qbg
  with_reducible rfl
theorem qcy(T:Txt K mg):Fn P w K mg base "constant" 3 ["M", "n", "c"] qbc:=qa2 T.d_constant sc_constant (qhh T)
theorem qlV(T:Txt K mg):ZOk P w K mg base ["exponents", "others"] "added" s_added 0 qcY:=by
  intro fa cdv A outer s H E hr
  have hu:=qa1 hr
  refine⟨_,(cn (O2:=[]) (qaH (qag (qfT hr.units) (PD.b (cB qdi T.b_len My.boot_len (pbc (qd 0 (pv 0)) qaa))) (PD.b ql) (qaz _)) (qp (qD (qam (pdc (qL qao (PD.b (qW hu (qd 0 (pv 0)) (PD.b ql) (fun _ _=>rfl))) (PD.b (qW hu (qd 1 (pv 1)) (PD.b ql) (fun _ _=>rfl)))) qj) (fun ρ ds h=>by have:=(lc l0) ρ ds h; omega)))) qap)
   (qp (qD (qam (pdc (qL qao (PD.b (qW hu (qd 0 (pv 0)) (PD.b ql) (fun _ _=>rfl))) (PD.b (qW hu (qd 1 (pv 1)) (PD.b ql) (fun _ _=>rfl)))) (pdc (qL qao (PD.b (qW hu (qd 0 (pv 0)) (PD.b ql) (fun _ _=>rfl))) (PD.b (qW hu (qd 1 (pv 1)) (PD.b ql) (fun _ _=>rfl)))) qj)) (fun ρ ds h=>by have:=(lc (lc l0)) ρ ds h; omega))))),?_⟩
  unfold qcY
  with_reducible rfl
theorem qmw(T:Txt K mg):Fn P w K mg base "added" 1 ["exponents", "others"] qeA:=qa2 T.d_added sc_added (qlV T)
theorem qmN(T:Txt K mg):ZOk P w K mg base ["M", "one", "other", "sums", "exponents", "c", "others", "d", "both"] "times" s_times 2 qee:=by
  intro fa cdv A outer s H E hr
  have hu:=qa1 hr
  refine⟨_,(cn (O2:=[3]) (qa3 (i:=3) sc_times.nd rfl (Or.inl rfl) qcb)
   (cn (O2 := []) (qae (O1 := [3]) (Ob := []) za2 rfl (qab (qe 1 (pv 1) (by decide))) (qaM (qbe (n := 2) rfl (qC (fun a b => qI a b) (qx (qF (i := 4) sc_times.nd rfl (Or.inl rfl))) (qC (fun a b => qI a b) (qx (qF (i := 5) sc_times.nd rfl (Or.inl rfl))) qas))))
    (qp (qae (O1:=[3]) (Ob:=[3]) za2 rfl (qab (qe 2 (pv 2) (by decide))) (qaM (qbe (n:=2) rfl (qC (fun a b=>qI a b) (qx (qF (i:=6) sc_times.nd rfl (Or.inl rfl))) (qC (fun a b=>qI a b) (qx (qF (i:=7) sc_times.nd rfl (Or.inl rfl))) qas))))
    (cn (O2:=[3]) (qP (i:=8) sc_times.nd rfl (Or.inl rfl) (cD (qmw T) (hr.mono (by decide)) (pdc (qe 4 (pv 4) (by decide)) (pdc (qe 6 (pv 6) (by decide)) qj)) (lc (lc l0))))
   (qp (qbQ (i:=3) hu (pv 3) (qd 8 (pv 8)) (qL qao (PD.b (qbV hu (qd 3 (pv 3)) (qd 8 (pv 8)) ql (by constructor <;> rfl))) (PD.b (qL qb4 (qd 5 (pv 5)) (qd 7 (pv 7))))) rfl))) rfl rfl rfl)) rfl rfl rfl)
   (qp (qD (cD (qc5 T) (hr.mono (by decide)) (pdc (qe 0 (pv 0) (by decide)) (pdc (qe 3 (pv 3) (by decide)) qj)) (lc (lc l0))))))),?_⟩
  unfold qee
  with_reducible rfl
theorem qeB(T:Txt K mg):Fn P w K mg base "times" 3 ["M", "one", "other"] qcx:=qa2 T.d_times sc_times (qmN T)
theorem qgf(T:Txt K mg):ZOk P w K mg base ["M", "n", "one", "most", "powers", "exponent"] "powers_of" s_powers_of 3 qbl:=by
  intro fa cdv A outer s H E hr
  have hu:=qa1 hr
  refine⟨_,(cn (O2:=[4]) (qa3 (i:=4) sc_powers_of.nd rfl (Or.inl rfl) (qdU (pdc (cD (qcy T) (hr.mono (by decide)) (pdc (qe 0 (pv 0) (by decide)) (pdc (qe 1 (pv 1) (by decide)) (pdc ql qj))) (lc (lc (lc l0)))) qj) (fun ρ ds h=>by have:=(lc l0) ρ ds h; omega)))
   (cn (O2 := []) (qae (O1 := [4]) (Ob := []) za2 rfl (qaS rfl T.b_range (pbc (qd 3 (pv 3)) qaa)) (qx (qF (i := 5) sc_powers_of.nd rfl (Or.inl rfl)))
    (qp (qhH (i:=4) (pv 4) (cD (qeB T) (hr.mono (by decide)) (pdc (qe 0 (pv 0) (by decide)) (pdc (qW hu (qd 4 (pv 4)) (qd 5 (pv 5)) (fun _ _=>rfl)) (pdc (qe 2 (pv 2) (by decide)) qj))) (lc (lc (lc l0)))) rfl (qoR PySem.F.plainAttrs_list PySem.F.slot_list_append PySem.F.type_list_append qeV (pv 4) (qbA (PD.pe (cD (qeB T) (hr.mono (by decide)) (pdc (qe 0 (pv 0) (by decide)) (pdc (qW hu (qd 4 (pv 4)) (qd 5 (pv 5)) (fun _ _=>rfl)) (pdc (qe 2 (pv 2) (by decide)) qj))) (lc (lc (lc l0))))) qdh)))) rfl rfl rfl)
   (qp (qD (qe 4 (pv 4) (by decide)))))),?_⟩
  unfold qbl
  with_reducible rfl
theorem qgh(T:Txt K mg):Fn P w K mg base "powers_of" 4 ["M", "n", "one", "most"] qbk:=qa2 T.d_powers_of sc_powers_of (qgf T)
theorem qn7(T:Txt K mg):ZOk P w K mg base ["M", "one", "other", "sums", "exponents", "c"] "plus" s_plus 2 qg5:=by
  intro fa cdv A outer s H E hr
  have hu:=qa1 hr
  refine⟨_,(cn (O2:=[3]) (qa3 (i:=3) sc_plus.nd rfl (Or.inl rfl) (fTy (qgC rfl hr.units) T.b_dict My.boot_dict (pbc (qd 1 (pv 1)) qaa)))
   (cn (O2 := []) (qae (O1 := [3]) (Ob := []) za2 rfl (qab (qe 2 (pv 2) (by decide))) (qaM (qbe (n := 2) rfl (qC (fun a b => qI a b) (qx (qF (i := 4) sc_plus.nd rfl (Or.inl rfl))) (qC (fun a b => qI a b) (qx (qF (i := 5) sc_plus.nd rfl (Or.inl rfl))) qas))))
    (qp (qbQ (i:=3) hu (pv 3) (qd 4 (pv 4)) (qL qao (PD.b (qbV hu (qd 3 (pv 3)) (qd 4 (pv 4)) ql (by constructor <;> rfl))) (qd 5 (pv 5))) rfl)) rfl rfl rfl)
   (qp (qD (cD (qc5 T) (hr.mono (by decide)) (pdc (qe 0 (pv 0) (by decide)) (pdc (qe 3 (pv 3) (by decide)) qj)) (lc (lc l0))))))),?_⟩
  unfold qg5
  with_reducible rfl
theorem qiY(T:Txt K mg):Fn P w K mg base "plus" 3 ["M", "one", "other"] qc6:=qa2 T.d_plus sc_plus (qn7 T)
theorem qf6(T:Txt K mg):ZOk P w K mg base ["M", "inner", "most", "factors", "total", "exponent"] "by_powers" s_by_powers 3 qbo:=by
  intro fa cdv A outer s H E hr
  have hu:=qa1 hr
  refine⟨_,(cn (O2:=[]) (qP (i:=4) sc_by_powers.nd rfl (Or.inl rfl) (qam qj (fun ρ ds h=>by have:=l0 ρ ds h; omega)))
   (cn (O2 := []) (qae (O1 := []) (Ob := []) za2 rfl (qhC rfl T.b_range (pbc (qd 2 (pv 2)) (pbc (PD.b (qla (PD.b ql))) (pbc (PD.b (qla (PD.b ql))) qaa)))) (qx (qF (i := 5) sc_by_powers.nd rfl (Or.inl rfl)))
    (qp (qP (i:=4) sc_by_powers.nd rfl (Or.inl rfl) (cD (qiY T) (hr.mono (by decide)) (pdc (qe 0 (pv 0) (by decide)) (pdc (cD (qeB T) (hr.mono (by decide)) (pdc (qe 0 (pv 0) (by decide)) (pdc (qe 4 (pv 4) (by decide)) (pdc (qe 1 (pv 1) (by decide)) qj))) (lc (lc (lc l0)))) (pdc (qbV hu (qd 3 (pv 3)) (PD.b (qam (pdc (qe 5 (pv 5) (by decide)) qj) (fun ρ ds h=>by have:=(lc l0) ρ ds h; omega))) (qam qj (fun ρ ds h=>by have:=l0 ρ ds h; omega)) (by constructor <;> rfl)) qj))) (lc (lc (lc l0)))))) rfl rfl rfl)
   (qp (qD (qe 4 (pv 4) (by decide)))))),?_⟩
  unfold qbo
  with_reducible rfl
theorem qfK(T:Txt K mg):Fn P w K mg base "by_powers" 4 ["M", "inner", "most", "factors"] qbm:=qa2 T.d_by_powers sc_by_powers (qf6 T)
theorem qhj(T:Txt K mg):ZOk P w K mg base ["one", "place"] "greatest" s_greatest 0 qbD:=by
  intro fa cdv A outer s H E hr
  have hu:=qa1 hr
  refine⟨_,(qp (qD (qlL rfl (by rfl) T.b_max (PD.b (PF.d (qef (N:=["exponents", "c", "place"]) (ms:=[none,none,some 1]) rfl (qfc (n:=s.heap.objs.size + 1) rfl rfl rfl) ⟨⟨rfl,rfl,Or.inl rfl⟩,trivial⟩ rfl (qab (qe 0 (pv 0) (by decide))) (fun _ _ _ _=>(qaM (qbe (n:=2) rfl (qC (fun a b=>qI a b) (qx (qF (i:=0) (show(["exponents", "c", "place"]:List Str).Nodup from by decide) rfl (Or.inl rfl))) (qC (fun a b=>qI a b) (qx (qF (i:=1) (show(["exponents", "c", "place"]:List Str).Nodup from by decide) rfl (Or.inl rfl))) qas))))) (fun _ _ _ _=>qcW) (fun _ _ _ _=>(qW hu (qd 0 (pv 0)) (qd 2 (pv 2)) (fun _ _=>rfl)))))) ql rfl))),?_⟩
  unfold qbD
  with_reducible rfl
theorem qdI(T:Txt K mg):Fn P w K mg base "greatest" 1 ["one", "place"] qaF:=qa2 T.d_greatest sc_greatest (qhj T)
theorem qd4(T:Txt K mg):ZOk P w K mg base ["M", "n", "turn", "one"] "turned_form" s_turned_form 3 qaP:=by
  intro fa cdv A outer s H E hr
  have hu:=qa1 hr
  refine⟨_,(qp (qD (cD (qiY T) (hr.mono (by decide)) (pdc (qe 0 (pv 0) (by decide)) (pdc (cD (qeB T) (hr.mono (by decide)) (pdc (qe 0 (pv 0) (by decide)) (pdc (cD (qcy T) (hr.mono (by decide)) (pdc (qe 0 (pv 0) (by decide)) (pdc (qe 1 (pv 1) (by decide)) (pdc (qW hu (qd 2 (pv 2)) (PD.b ql) (fun _ _=>rfl)) qj))) (lc (lc (lc l0)))) (pdc (qe 3 (pv 3) (by decide)) qj))) (lc (lc (lc l0)))) (pdc (cD (qcy T) (hr.mono (by decide)) (pdc (qe 0 (pv 0) (by decide)) (pdc (qe 1 (pv 1) (by decide)) (pdc (qW hu (qd 2 (pv 2)) (PD.b ql) (fun _ _=>rfl)) qj))) (lc (lc (lc l0)))) qj))) (lc (lc (lc l0)))))),?_⟩
  unfold qaP
  with_reducible rfl
theorem qes(T:Txt K mg):Fn P w K mg base "turned_form" 4 ["M", "n", "turn", "one"] qaN:=qa2 T.d_turned_form sc_turned_form (qd4 T)
theorem qoD(T:Txt K mg):ZOk P w K mg base ["M", "n", "outer", "inners", "last", "powers", "factors", "exponents", "c", "ahead", "part"] "put" s_put 4 qjt:=by
  intro fa cdv A outer s H E hr
  have hu:=qa1 hr
  refine⟨_,(cn (O2:=[]) (qP (i:=4) sc_put.nd rfl (Or.inl rfl) (qL qcG (PD.b (cB qdi T.b_len My.boot_len (pbc (qd 3 (pv 3)) qaa))) (PD.b ql)))
   (cn (O2:=[]) (qP (i:=5) sc_put.nd rfl (Or.inl rfl) (cD (qgh T) (hr.mono (by decide)) (pdc (qe 0 (pv 0) (by decide)) (pdc (qe 1 (pv 1) (by decide)) (pdc (qW hu (qd 3 (pv 3)) (qd 4 (pv 4)) (fun _ _=>rfl)) (pdc (cD (qdI T) (hr.mono (by decide)) (pdc (qe 2 (pv 2) (by decide)) (pdc (qe 4 (pv 4) (by decide)) qj)) (lc (lc l0))) qj)))) (lc (lc (lc (lc l0))))))
   (cn (O2:=[6]) (qa3 (i:=6) sc_put.nd rfl (Or.inl rfl) qcb)
   (cn (O2 := []) (qae (O1 := [6]) (Ob := []) za2 rfl (qab (qe 2 (pv 2) (by decide))) (qaM (qbe (n := 2) rfl (qC (fun a b => qI a b) (qx (qF (i := 7) sc_put.nd rfl (Or.inl rfl))) (qC (fun a b => qI a b) (qx (qF (i := 8) sc_put.nd rfl (Or.inl rfl))) qas))))
    (cn (O2:=[6]) (qP (i:=9) sc_put.nd rfl (Or.inl rfl) (qcj sl_A (qd 7 (pv 7)) qb9 (qbj (qe 4 (pv 4) (by decide)))))
   (cn (O2:=[6]) (qP (i:=10) sc_put.nd rfl (Or.inl rfl) (cD (qes T) (hr.mono (by decide)) (pdc (qe 0 (pv 0) (by decide)) (pdc (qe 1 (pv 1) (by decide)) (pdc (qam (pdc (qe 8 (pv 8) (by decide)) (pdc ql qj)) (fun ρ ds h=>by have:=(lc (lc l0)) ρ ds h; omega)) (pdc (qW hu (qd 5 (pv 5)) (PD.b (qW hu (qd 7 (pv 7)) (qd 4 (pv 4)) (fun _ _=>rfl))) (fun _ _=>rfl)) qj)))) (lc (lc (lc (lc l0))))))
   (qp (qbQ (i:=6) hu (pv 6) (qd 9 (pv 9)) (cD (qiY T) (hr.mono (by decide)) (pdc (qe 0 (pv 0) (by decide)) (pdc (qbV hu (qd 6 (pv 6)) (qd 9 (pv 9)) (qam qj (fun ρ ds h=>by have:=l0 ρ ds h; omega)) (by constructor <;> rfl)) (pdc (qe 10 (pv 10) (by decide)) qj))) (lc (lc (lc l0)))) rfl)))) rfl rfl rfl)
   (cn (O2:=[]) (qaH (qag (qfT hr.units) (qd 4 (pv 4)) (PD.b ql) (qaz _)) (qp (qD (qbV hu (qd 6 (pv 6)) (PD.b (qam qj (fun ρ ds h=>by have:=l0 ρ ds h; omega))) (qam qj (fun ρ ds h=>by have:=l0 ρ ds h; omega)) (by constructor <;> rfl)))) qap)
   (qp (qD (cD (qfK T) (hr.mono (by decide)) (pdc (qe 0 (pv 0) (by decide)) (pdc (qW hu (qd 3 (pv 3)) (PD.b ql) (fun _ _=>rfl)) (pdc (cD (qdI T) (hr.mono (by decide)) (pdc (qe 2 (pv 2) (by decide)) (pdc ql qj)) (lc (lc l0))) (pdc (qe 6 (pv 6) (by decide)) qj)))) (lc (lc (lc (lc l0)))))))))))),?_⟩
  unfold qjt
  with_reducible rfl
theorem ql1(T:Txt K mg):Fn P w K mg base "put" 5 ["M", "n", "outer", "inners"] qex:=qa2 T.d_put sc_put (qoD T)
theorem qjP(T:Txt K mg):ZOk P w K mg base ["M", "one", "values", "total", "exponents", "c", "product", "k", "again"] "_law_at" s_law_at 0 qcR:=by
  intro fa cdv A outer s H E hr
  have hu:=qa1 hr
  refine⟨_,(cn (O2:=[]) (qP (i:=3) sc_law_at.nd rfl (Or.inl rfl) ql)
   (cn (O2 := []) (qae (O1 := []) (Ob := []) za2 rfl (qab (qe 1 (pv 1) (by decide))) (qaM (qbe (n := 2) rfl (qC (fun a b => qI a b) (qx (qF (i := 4) sc_law_at.nd rfl (Or.inl rfl))) (qC (fun a b => qI a b) (qx (qF (i := 5) sc_law_at.nd rfl (Or.inl rfl))) qas))))
    (cn (O2:=[]) (qP (i:=6) sc_law_at.nd rfl (Or.inl rfl) (qe 5 (pv 5) (by decide)))
   (cn (O2 := []) (qae (O1 := []) (Ob := []) za2 rfl (qaS rfl T.b_range (pbc (PD.b (cB qdi T.b_len My.boot_len (pbc (qd 4 (pv 4)) qaa))) qaa)) (qx (qF (i := 7) sc_law_at.nd rfl (Or.inl rfl)))
    (qp (qae (O1:=[]) (Ob:=[]) za2 rfl (qaS rfl T.b_range (pbc (PD.b (qW hu (qd 4 (pv 4)) (qd 7 (pv 7)) (fun _ _=>rfl))) qaa)) (qx (qF (i:=8) sc_law_at.nd rfl (Or.inl rfl)))
    (qp (qP (i:=6) sc_law_at.nd rfl (Or.inl rfl) (qL qaJ (PD.b (qL qb4 (qd 6 (pv 6)) (PD.b (qW hu (qd 2 (pv 2)) (qd 7 (pv 7)) (fun _ _=>rfl))))) (qd 0 (pv 0))))) rfl rfl rfl)) rfl rfl rfl)
   (qp (qP (i:=3) sc_law_at.nd rfl (Or.inl rfl) (qL qao (qd 3 (pv 3)) (qd 6 (pv 6))))))) rfl rfl rfl)
   (qp (qD (qL qaJ (qd 3 (pv 3)) (qd 0 (pv 0))))))),?_⟩
  unfold qcR
  with_reducible rfl
theorem qel(T:Txt K mg):Fn P w K mg base "_law_at" 1 ["M", "one", "values"] qa4:=qa2 T.d_law_at sc_law_at (qjP T)
theorem qeJ(T:Txt K mg):ZOk P w K mg base ["cell"] "_law_number" s_law_number 0 qa7:=by
  intro fa cdv A outer s H E hr
  have hu:=qa1 hr
  refine⟨_,(cn (O2:=[]) (qaH (qag (qfT hr.units) (PD.b (qL qaJ (qd 0 (pv 0)) (PD.b ql))) (PD.b ql) (qaz _)) (qp (qD (qL qcG (PD.b (qL qaJ (PD.b (qL qc2 (qd 0 (pv 0)) (PD.b ql))) (PD.b ql))) (PD.b ql)))) qap)
   (qp (qD (qL qcG (PD.b (qL qaJ (PD.b (qL qc2 (qd 0 (pv 0)) (PD.b ql))) (PD.b (qL qcG (PD.b (qL qb4 (PD.b ql) (PD.b (qL qg4 (PD.b ql) (PD.b ql))))) (PD.b ql))))) (PD.b (qL qcG (PD.b (qL qg4 (PD.b ql) (PD.b ql))) (PD.b ql))))))),?_⟩
  unfold qa7
  with_reducible rfl
theorem qcF(T:Txt K mg):Fn P w K mg base "_law_number" 1 ["cell"] qa5:=qa2 T.d_law_number sc_law_number (qeJ T)
theorem qgb(T:Txt K mg):ZOk P w K mg base ["found"] "_law_whole" s_law_whole 0 qbp:=by
  intro fa cdv A outer s H E hr
  have hu:=qa1 hr
  refine⟨_,(qp (qD (qkV (qfn qlY (by rfl) T.b_isinstance (by rfl) T.b_int My.boot_int (qd 0 (pv 0))) (qlj (qnc (qfn qkx (by rfl) T.b_isinstance (by rfl) T.b_bool My.boot_bool (qd 0 (pv 0)))))))),?_⟩
  unfold qbp
  with_reducible rfl
theorem qcZ(T:Txt K mg):Fn P w K mg base "_law_whole" 1 ["found"] qaY:=qa2 T.d_law_whole sc_law_whole (qgb T)
theorem qc9(T:Txt K mg):ZOk P w K mg base ["found", "n", "one"] "_law_exponents" s_law_exponents 1 qaA:=by
  intro fa cdv A outer s H E hr
  have hu:=qa1 hr
  refine⟨_,(cn (O2:=[]) (qaH (PDW.pt (qdu (qby (qb5 (qfn kit_tuple (by rfl) T.b_isinstance (by rfl) T.b_tuple My.boot_tuple (qd 0 (pv 0))))) (qdn (qag (qf4 hr.units) (PD.b (cB qdi T.b_len My.boot_len (pbc (qd 0 (pv 0)) qaa))) (qd 1 (pv 1)) (qaz _))))) (qp (qD qcI)) qap)
   (cn (O2 := []) (qae (O1 := []) (Ob := []) za2 rfl (qab (qe 0 (pv 0) (by decide))) (qx (qF (i := 2) sc_law_exponents.nd rfl (Or.inl rfl)))
    (qp (qaH (qby (qb5 (cD (qcZ T) (hr.mono (by decide)) (pdc (qe 2 (pv 2) (by decide)) qj) (lc l0)))) (qp (qD qcI)) qap)) rfl rfl rfl)
   (qp (qD qcI)))),?_⟩
  unfold qaA
  with_reducible rfl
theorem qdf(T:Txt K mg):Fn P w K mg base "_law_exponents" 2 ["found", "n"] qaX:=qa2 T.d_law_exponents sc_law_exponents (qc9 T)
theorem qjR(T:Txt K mg):ZOk P w K mg base ["M", "n", "found", "sums", "left", "ahead", "term", "exponents", "c"] "_law_is" s_law_is 2 qcL:=by
  intro fa cdv A outer s H E hr
  have hu:=qa1 hr
  refine⟨_,(cn (O2:=[]) (qaH (qby (qb5 (qfn kit_tuple (by rfl) T.b_isinstance (by rfl) T.b_tuple My.boot_tuple (qd 2 (pv 2))))) (qp (qD qcI)) qap)
   (cn (O2:=[4]) (qa3 (i:=4) sc_law_is.nd rfl (Or.inl rfl) (fTy (qgC rfl hr.units) T.b_dict My.boot_dict (pbc (qd 3 (pv 3)) qaa)))
   (cn (O2:=[4]) (qP (i:=5) sc_law_is.nd rfl (Or.inl rfl) qlk)
   (cn (O2 := []) (qae (O1 := [4]) (Ob := []) za2 rfl (qab (qe 2 (pv 2) (by decide))) (qx (qF (i := 6) sc_law_is.nd rfl (Or.inl rfl)))
    (cn (O2:=[4]) (qaH (PDW.pt (qdu (qby (qb5 (qfn kit_tuple (by rfl) T.b_isinstance (by rfl) T.b_tuple My.boot_tuple (qd 6 (pv 6))))) (qdn (qag (qf4 hr.units) (PD.b (cB qdi T.b_len My.boot_len (pbc (qd 6 (pv 6)) qaa))) (PD.b ql) (qaz _))))) (PSDs.pre (O1:=[]) (qp (qD qcI)) rfl) qap)
   (cn (O2:=[4]) (qmd (qe 6 (pv 6) (by decide)) (qlW (My.qom (n:=2) rfl (qC (fun a b=>qI a b) (qx (qF (i:=7) sc_law_is.nd rfl (Or.inl rfl))) (qC (fun a b=>qI a b) (qx (qF (i:=8) sc_law_is.nd rfl (Or.inl rfl))) qas)))))
   (cn (O2:=[4]) (qaH (PDW.pt (qdu (qby (qb5 (cD (qdf T) (hr.mono (by decide)) (pdc (qe 7 (pv 7) (by decide)) (pdc (qe 1 (pv 1) (by decide)) qj)) (lc (lc l0))))) (qdu (qby (qb5 (cD (qcZ T) (hr.mono (by decide)) (pdc (qe 8 (pv 8) (by decide)) qj) (lc l0)))) (qdn (qag (qh5 hr.units) (qd 7 (pv 7)) (qd 4 (pv 4)) (by rfl)))))) (PSDs.pre (O1:=[]) (qp (qD qcI)) rfl) qap)
   (cn (O2:=[4]) (qaH (PDW.pt (qlx (qag qln (qd 5 (pv 5)) (PD.b qlk) (qaz _)) (qjN (qby (qag (qi2 hr.units0) (qd 5 (pv 5)) (qd 7 (pv 7)) (qaz _)))))) (PSDs.pre (O1:=[]) (qp (qD qcI)) rfl) qap)
   (cn (O2:=[4]) (qaH (PDW.pt (qdu (qag (qi2 hr.units0) (qd 8 (pv 8)) (PD.b ql) (qaz _)) (qdu (qag qo1 (qd 8 (pv 8)) (qd 0 (pv 0)) (qaz _)) (qdn (qag (qf4 hr.units) (PD.b (qL qaJ (PD.b (qL qcG (PD.b (qW hu (qd 4 (pv 4)) (qd 7 (pv 7)) (fun _ _=>rfl))) (qd 8 (pv 8)))) (qd 0 (pv 0)))) (PD.b ql) (qaz _)))))) (PSDs.pre (O1:=[]) (qp (qD qcI)) rfl) qap)
   (cn (O2:=[4]) (qP (i:=5) sc_law_is.nd rfl (Or.inl rfl) (qe 7 (pv 7) (by decide)))
   (qp (qbQ (i:=4) hu (pv 4) (qd 7 (pv 7)) ql rfl)))))))) rfl rfl rfl)
   (cn (O2 := []) (qae (O1 := []) (Ob := []) za2 rfl (qab (qe 4 (pv 4) (by decide))) (qx (qF (i := 7) sc_law_is.nd rfl (Or.inl rfl)))
    (qp (qaH (qag (qf4 hr.units) (PD.b (qL qaJ (PD.b (qW hu (qd 4 (pv 4)) (qd 7 (pv 7)) (fun _ _=>rfl))) (qd 0 (pv 0)))) (PD.b ql) (qaz _)) (qp (qD qcI)) qap)) rfl rfl rfl)
   (qp (qD qcI))))))),?_⟩
  unfold qcL
  with_reducible rfl
theorem qkq(T:Txt K mg):Fn P w K mg base "_law_is" 3 ["M", "n", "found", "sums"] qcP:=qa2 T.d_law_is sc_law_is (qjR T)
theorem qeb(T:Txt K mg):ZOk P w K mg base ["one", "other", "sums", "left", "c", "right", "d", "exponents"] "_law_product" s_law_product 0 qaO:=by
  intro fa cdv A outer s H E hr
  have hu:=qa1 hr
  refine⟨_,(cn (O2:=[2]) (qa3 (i:=2) sc_law_product.nd rfl (Or.inl rfl) qcb)
   (cn (O2 := []) (qae (O1 := [2]) (Ob := []) za2 rfl (qab (qe 0 (pv 0) (by decide))) (qaM (qbe (n := 2) rfl (qC (fun a b => qI a b) (qx (qF (i := 3) sc_law_product.nd rfl (Or.inr rfl))) (qC (fun a b => qI a b) (qx (qF (i := 4) sc_law_product.nd rfl (Or.inl rfl))) qas))))
    (qp (qae (O1:=[2]) (Ob:=[2]) za2 rfl (qab (qe 1 (pv 1) (by decide))) (qaM (qbe (n:=2) rfl (qC (fun a b=>qI a b) (qx (qF (i:=5) sc_law_product.nd rfl (Or.inr rfl))) (qC (fun a b=>qI a b) (qx (qF (i:=6) sc_law_product.nd rfl (Or.inl rfl))) qas))))
    (cn (O2:=[2]) (qP (i:=7) sc_law_product.nd rfl (Or.inl rfl) (cTy qcM T.b_tuple My.boot_tuple (pbc (PD.b (PF.d (qef (N:=["k", "left", "right"]) (ms:=[none,some 3,some 5]) rfl (qfc (n:=s.heap.objs.size + 1) rfl rfl rfl) ⟨⟨rfl,rfl,Or.inl rfl⟩,⟨⟨rfl,rfl,Or.inl rfl⟩,trivial⟩⟩ rfl (qaS rfl T.b_range (pbc (PD.b (cB qdi T.b_len My.boot_len (pbc (qd 3 (pv 3)) qaa))) qaa)) (fun _ _ _ _=>(qx (qF (i:=0) (show(["k", "left", "right"]:List Str).Nodup from by decide) rfl (Or.inl rfl)))) (fun _ _ _ _=>qcW) (fun _ _ _ _=>(qL qao (PD.b (qW hu (qd 1 (pv 1)) (qd 0 (pv 0)) (fun _ _=>rfl))) (PD.b (qW hu (qd 2 (pv 2)) (qd 0 (pv 0)) (fun _ _=>rfl)))))))) qaa)))
   (qp (qbQ (i:=2) hu (pv 2) (qd 7 (pv 7)) (qL qao (PD.b (qbV hu (qd 2 (pv 2)) (qd 7 (pv 7)) ql (by constructor <;> rfl))) (PD.b (qL qb4 (qd 4 (pv 4)) (qd 6 (pv 6))))) rfl))) rfl rfl rfl)) rfl rfl rfl)
   (qp (qD (qe 2 (pv 2) (by decide)))))),?_⟩
  unfold qaO
  with_reducible rfl
theorem qey(T:Txt K mg):Fn P w K mg base "_law_product" 1 ["one", "other"] qR:=qa2 T.d_law_product sc_law_product (qeb T)
theorem qiB(T:Txt K mg):ZOk P w K mg base ["n", "outer", "inners", "sums", "exponents", "c", "made", "some", "many", "turn", "here", "d"] "_law_put" s_law_put 1 qcl:=by
  intro fa cdv A outer s H E hr
  have hu:=qa1 hr
  refine⟨_,(cn (O2:=[3]) (qa3 (i:=3) sc_law_put.nd rfl (Or.inl rfl) qcb)
   (cn (O2 := []) (qae (O1 := [3]) (Ob := []) za2 rfl (qab (qe 1 (pv 1) (by decide))) (qaM (qbe (n := 2) rfl (qC (fun a b => qI a b) (qx (qF (i := 4) sc_law_put.nd rfl (Or.inl rfl))) (qC (fun a b => qI a b) (qx (qF (i := 5) sc_law_put.nd rfl (Or.inl rfl))) qas))))
    (cn (O2:=[3]) (qP (i:=6) sc_law_put.nd rfl (Or.inl rfl) (PF.d (qdU (pdc (qam (pdc (qcj sl_A (PD.b (qam (pdc ql (pdc ql qj)) (fun ρ ds h=>by have:=(lc (lc l0)) ρ ds h; omega))) qb9 (qbj (qe 0 (pv 0) (by decide)))) (pdc (qe 5 (pv 5) (by decide)) qj)) (fun ρ ds h=>by have:=(lc (lc l0)) ρ ds h; omega)) qj) (fun ρ ds h=>by have:=(lc l0) ρ ds h; omega))))
   (cn (O2 := [3]) (qae (O1 := [3]) (Ob := [3]) za2 rfl (qlM rfl T.b_zip (pdc (qe 2 (pv 2) (by decide)) (pdc (qe 4 (pv 4) (by decide)) qj))) (qaM (qbe (n := 2) rfl (qC (fun a b => qI a b) (qx (qF (i := 7) sc_law_put.nd rfl (Or.inl rfl))) (qC (fun a b => qI a b) (qx (qF (i := 8) sc_law_put.nd rfl (Or.inl rfl))) qas))))
    (qp (qae (O1:=[3]) (Ob:=[3]) za2 rfl (qaS rfl T.b_range (pbc (qd 8 (pv 8)) qaa)) (qx (qF (i:=9) sc_law_put.nd rfl (Or.inl rfl)))
    (qp (qP (i:=6) sc_law_put.nd rfl (Or.inl rfl) (PF.d (qkI rfl (by rfl) T.b_list (PD.b (cD (qey T) (hr.mono (by decide)) (pdc (qe 6 (pv 6) (by decide)) (pdc (qe 7 (pv 7) (by decide)) qj)) (lc (lc l0)))) (fun h=>qlf PySem.F.slot_dict_items PySem.F.type_dict_items My.qg0 h))))) rfl rfl rfl)) rfl rfl rfl)
   (qp (qae (O1 := [3]) (Ob := [3]) za2 rfl (qab (qe 6 (pv 6) (by decide))) (qaM (qbe (n := 2) rfl (qC (fun a b => qI a b) (qx (qF (i := 10) sc_law_put.nd rfl (Or.inl rfl))) (qC (fun a b => qI a b) (qx (qF (i := 11) sc_law_put.nd rfl (Or.inl rfl))) qas))))
    (qp (qbQ (i:=3) hu (pv 3) (qd 10 (pv 10)) (qL qao (PD.b (qbV hu (qd 3 (pv 3)) (qd 10 (pv 10)) ql (by constructor <;> rfl))) (qd 11 (pv 11))) rfl)) rfl rfl rfl)))) rfl rfl rfl)
   (qp (qD (qe 3 (pv 3) (by decide)))))),?_⟩
  unfold qcl
  with_reducible rfl
theorem qi9(T:Txt K mg):Fn P w K mg base "_law_put" 2 ["n", "outer", "inners"] qch:=qa2 T.d_law_put sc_law_put (qiB T)
theorem qfM(T:Txt K mg):ZOk P w K mg base ["m"] "_law_alone" s_law_alone 0 qa0:=by
  intro fa cdv A outer s H E hr
  have hu:=qa1 hr
  refine⟨_,(cn (O2:=[]) (qaH (qag (qfT hr.units) (qd 0 (pv 0)) (PD.b ql) (qaz _)) (qp (qD (PF.d (qdU (pdc (qam (pdc (qam (pdc (qam (pdc ql qj) (fun ρ ds h=>by have:=(lc l0) ρ ds h; omega)) (pdc ql qj)) (fun ρ ds h=>by have:=(lc (lc l0)) ρ ds h; omega)) qj) (fun ρ ds h=>by have:=(lc l0) ρ ds h; omega)) qj) (fun ρ ds h=>by have:=(lc l0) ρ ds h; omega))))) qap)
   (qp (qD (PF.d (qdU (pdc (qam (pdc (qam (pdc (qam (pdc ql (pdc ql qj)) (fun ρ ds h=>by have:=(lc (lc l0)) ρ ds h; omega)) (pdc ql qj)) (fun ρ ds h=>by have:=(lc (lc l0)) ρ ds h; omega)) qj) (fun ρ ds h=>by have:=(lc l0) ρ ds h; omega)) (pdc (qam (pdc (qam (pdc (qam (pdc ql (pdc ql qj)) (fun ρ ds h=>by have:=(lc (lc l0)) ρ ds h; omega)) (pdc ql qj)) (fun ρ ds h=>by have:=(lc (lc l0)) ρ ds h; omega)) qj) (fun ρ ds h=>by have:=(lc l0) ρ ds h; omega)) qj)) (fun ρ ds h=>by have:=(lc (lc l0)) ρ ds h; omega)))))),?_⟩
  unfold qa0
  with_reducible rfl
theorem qfO(T:Txt K mg):Fn P w K mg base "_law_alone" 1 ["m"] qb3:=qa2 T.d_law_alone sc_law_alone (qfM T)
theorem qo5(T:Txt K mg):ZOk P w K mg base ["script", "M", "n", "m", "values", "outer", "inners", "handed", "found", "worths"] "law" s_law 5 qjr:=by
  intro fa cdv A outer s H E hr
  have hu:=qa1 hr
  refine⟨_,(cn (O2:=[]) (qP (i:=1) sc_law.nd rfl (Or.inr rfl) (cD (qfC T) (hr.mono (by decide)) (pdc (cD (qaU T) (hr.mono (by decide)) (pdc (qe 0 (pv 0) (by decide)) (pdc ql qj)) (lc (lc l0))) qj) (lc l0)))
   (cn (O2:=[]) (qP (i:=2) sc_law.nd rfl (Or.inl rfl) (qL qao (PD.b ql) (PD.b (qL qaJ (PD.b (cD (qaU T) (hr.mono (by decide)) (pdc (qe 0 (pv 0) (by decide)) (pdc ql qj)) (lc (lc l0)))) (PD.b ql)))))
   (cn (O2:=[]) (qP (i:=3) sc_law.nd rfl (Or.inl rfl) (qL qao (PD.b ql) (PD.b (qL qaJ (PD.b (qL qc2 (PD.b (cD (qaU T) (hr.mono (by decide)) (pdc (qe 0 (pv 0) (by decide)) (pdc ql qj)) (lc (lc l0)))) (PD.b ql))) (PD.b ql)))))
   (cn (O2:=[]) (qP (i:=4) sc_law.nd rfl (Or.inr rfl) (qcj sl_A (PD.b (PF.d (qdU (pdc (cD (qcF T) (hr.mono (by decide)) (pdc (cD (qaU T) (hr.mono (by decide)) (pdc (qe 0 (pv 0) (by decide)) (pdc ql qj)) (lc (lc l0))) qj) (lc l0)) (pdc (cD (qcF T) (hr.mono (by decide)) (pdc (cD (qaU T) (hr.mono (by decide)) (pdc (qe 0 (pv 0) (by decide)) (pdc ql qj)) (lc (lc l0))) qj) (lc l0)) qj)) (fun ρ ds h=>by have:=(lc (lc l0)) ρ ds h; omega)))) qb9 (qbj (qe 2 (pv 2) (by decide)))))
   (cn (O2:=[]) (qP (i:=5) sc_law.nd rfl (Or.inl rfl) (cD (qcB T) (hr.mono (by decide)) (pdc (qe 0 (pv 0) (by decide)) (pdc (qe 1 (pv 1) (by decide)) (pdc (qe 3 (pv 3) (by decide)) (pdc ql qj)))) (lc (lc (lc (lc l0))))))
   (cn (O2:=[]) (qP (i:=6) sc_law.nd rfl (Or.inl rfl) (qcj sl_A (PD.b (PF.d (qdU (pdc (cD (qcB T) (hr.mono (by decide)) (pdc (qe 0 (pv 0) (by decide)) (pdc (qe 1 (pv 1) (by decide)) (pdc (qe 2 (pv 2) (by decide)) (pdc ql qj)))) (lc (lc (lc (lc l0))))) (pdc (cD (qcB T) (hr.mono (by decide)) (pdc (qe 0 (pv 0) (by decide)) (pdc (qe 1 (pv 1) (by decide)) (pdc (qe 2 (pv 2) (by decide)) (pdc ql qj)))) (lc (lc (lc (lc l0))))) qj)) (fun ρ ds h=>by have:=(lc (lc l0)) ρ ds h; omega)))) qb9 (qbj (qe 3 (pv 3) (by decide)))))
   (cn (O2:=[]) (qP (i:=7) sc_law.nd rfl (Or.inl rfl) (PF.d (fTy qlK T.b_list My.boot_list (pbc (qd 6 (pv 6)) qaa))))
   (cn (O2:=[]) (qP (i:=8) sc_law.nd rfl (Or.inl rfl) (cD (ql1 T) (hr.mono (by decide)) (pdc (qe 1 (pv 1) (by decide)) (pdc (qe 2 (pv 2) (by decide)) (pdc (qe 5 (pv 5) (by decide)) (pdc (qe 7 (pv 7) (by decide)) qj)))) (lc (lc (lc (lc l0))))))
   (cn (O2:=[]) (qaH (PDW.pt (qdu (qag (qf4 hr.units) (qd 7 (pv 7)) (qd 6 (pv 6)) (qaz _)) (qdn (qby (qb5 (cD (qkq T) (hr.mono (by decide)) (pdc (qe 1 (pv 1) (by decide)) (pdc (qe 2 (pv 2) (by decide)) (pdc (qe 8 (pv 8) (by decide)) (pdc (cD (qi9 T) (hr.mono (by decide)) (pdc (qe 2 (pv 2) (by decide)) (pdc (qe 5 (pv 5) (by decide)) (pdc (qe 6 (pv 6) (by decide)) qj))) (lc (lc (lc l0)))) qj)))) (lc (lc (lc (lc l0)))))))))) (qp (qD qcI)) qap)
   (cn (O2:=[]) (qjH (i:=9) (N:=["one", "M", "values"]) (ms:=[none,some 1,some 4]) sc_law.nd rfl (Or.inl rfl) rfl (qfc (n:=s.heap.objs.size + 1) rfl rfl rfl) ⟨⟨rfl,rfl,Or.inl rfl⟩,⟨⟨rfl,rfl,Or.inl rfl⟩,trivial⟩⟩ rfl (qab (qe 6 (pv 6) (by decide))) (fun _ _ _ _=>(qx (qF (i:=0) (show(["one", "M", "values"]:List Str).Nodup from by decide) rfl (Or.inl rfl)))) (fun _ _ _ _=>qcW) (fun _ _ _ _=>(cD (qel T) (hr.mono (by decide)) (pdc (qe 1 (pv 1) (by decide)) (pdc (qe 0 (pv 0) (by decide)) (pdc (qe 2 (pv 2) (by decide)) qj))) (lc (lc (lc l0))))))
   (cn (O2:=[]) (qaH (qag (qf4 hr.units) (PD.b (cD (qel T) (hr.mono (by decide)) (pdc (qe 1 (pv 1) (by decide)) (pdc (qe 8 (pv 8) (by decide)) (pdc (qe 4 (pv 4) (by decide)) qj))) (lc (lc (lc l0))))) (PD.b (cD (qel T) (hr.mono (by decide)) (pdc (qe 1 (pv 1) (by decide)) (pdc (qe 5 (pv 5) (by decide)) (pdc (qe 9 (pv 9) (by decide)) qj))) (lc (lc (lc l0))))) (qaz _)) (qp (qD qcI)) qap)
   (qp (qD (qkV (qk0 (qfT hr.units) (PD.b (cD (ql1 T) (hr.mono (by decide)) (pdc (qe 1 (pv 1) (by decide)) (pdc (qe 2 (pv 2) (by decide)) (pdc (qe 5 (pv 5) (by decide)) (pdc (cTy qcM T.b_tuple My.boot_tuple (pbc (qd 6 (pv 6)) qaa)) qj)))) (lc (lc (lc (lc l0)))))) (qd 8 (pv 8)) (qaz _)) (qlj (qk0 (qfT hr.units) (PD.b (cD (ql1 T) (hr.mono (by decide)) (pdc (qe 1 (pv 1) (by decide)) (pdc (qe 3 (pv 3) (by decide)) (pdc (qe 5 (pv 5) (by decide)) (pdc (cD (qfO T) (hr.mono (by decide)) (pdc (qe 3 (pv 3) (by decide)) qj) (lc l0)) qj)))) (lc (lc (lc (lc l0)))))) (qd 5 (pv 5)) (qaz _))))))))))))))))),?_⟩
  unfold qjr
  with_reducible rfl
end
theorem V_on{M n:Int}(h:0 < M):B_on [.int M,.int n]=some (.int (n % M)):=by
 refine qax ?_
 simp_all[b_on,qz,qcr h]
theorem qdT{ns:List Int}{k:Int}(h:0<=k):qaj [.lst (ns.map .int),.int k]=some (.int (ns.getD k.toNat 0)):=by
 refine qax ?_
 by_cases hk:k < (ns.length:Int)
 ·obtain⟨j,rfl⟩:∃ j:Nat,k=(j:Int):=⟨k.toNat,by omega⟩
  have hj:j < ns.length:=by omega
  have e:atI (ns.map D.int) (j:Int)=some (.int (ns.getD j 0)):=qco (by simp_all[zaz,List.getD,hj])
  simp_all[qbf,qz,e,hj]
 ·have e:ns.getD k.toNat 0=0:=My.qkb h hk
  simp_all[qbf,qz,hk]
  simpa using e.symm
theorem qeN{c:Int}:qa5 [.int c]=some (.int (My.num c)):=by
 refine qax ?_
 by_cases h:c % 3=0 <;> simp_all[qa7,qz,qcr,qih,qlo,qd7,h,My.num]
theorem qgg{c:Int}:qb1 [.int c]=some (.int (My.whl c)):=by
 refine qax ?_
 have b1:=zbb (c / 4) (show(4:Int)≠0 by decide)
 have b2:=zbg (c / 4) (show(0:Int) < 4 by decide)
 have c1:=zbb (c / 4) (show(5 * 10 ^ 59 - 1:Int)≠0 by decide +kernel)
 have c2:=zbg (c / 4) (show(0:Int) < 5 * 10 ^ 59 - 1 by decide +kernel)
 have m2:qaK (.int 2) (.int (c / 4 % 4))=some (.int (2 * (c / 4 % 4))):=qg3 ⟨⟨by decide +kernel,by decide +kernel⟩,by omega,by omega⟩
 have m3:qaK (.int 2) (.int (c / 4 % (5 * 10 ^ 59 - 1)))=some (.int (2 * (c / 4 % (5 * 10 ^ 59 - 1)))):=qg3 ⟨⟨by decide +kernel,by decide +kernel⟩,by omega,by omega⟩
 simp[-zan,-zam,qm,qG] at m3
 by_cases h:c % 4=0 <;> simp_all[qbr,qz,qcr,qih,qlo,qd7 (i:=5),m2,m3,h,My.whl]
theorem qb0{c:Int}:qaY [.int c]=some (.bl true):=by
 refine qax ?_
 simp_all[qbp,qz]
theorem qeI{M:Int}(h0:0 < M){ρ1 ρ2:Option D}:∀ (qs:List My.Tm) (o1 o2:Option D),qb2 (qac 2 (qu (qg 0) (qu (qg 1) qaf))) (bOf (eOp dNe (qy B_on (qb (eVar 2) (qb (eVar 1) lNil))) (eC (.int 0)))) (eTup (qb (eVar 0) (qb (qy B_on (qb (eVar 2) (qb (eVar 1) lNil))) lNil))) (qs.map tmD) [o1,o2,some (.int M)]=some ((My.qaw M qs).map tmD)
 | [],o1,o2=>rfl
 | t :: qs,o1,o2=>by
  have ih:=qeI h0 (ρ1:=ρ1) (ρ2:=ρ2) qs (some (tupI t.1)) (some (.int t.2))
  rw[zaf,qb2]
  by_cases e:t.2 % M=0
  ·simp[-zan,-zam,qm,qG,tmD,V_on h0,e,My.qaw] at ih ⊢
   exact ih
  ·simp[-zan,-zam,qm,qG,tmD,V_on h0,e,My.qaw] at ih ⊢
   rw[ih]
   simp_all[tmD]
theorem qeR{α:Type}(l:List (List Int × α)):(qT l).length=l.length:=(qak l).length_eq
theorem qds{M:Int}{cs:List My.Tm}(h0:0 < M)(h:cs.length < 128):qbu [.int M,.dT (cs.map kD)]=some (.tup ((My.qaw M (qT cs)).map tmD)):=by
 refine qax ?_
 have e:=qeI h0 (ρ1:=none) (ρ2:=none) (qT cs) none none
 have hz:szOk (qT cs).length=true:=decide_eq_true (by rw[qeR]; omega)
 simp_all[qcf,qz,qhJ h,inS,e,hz]
structure GoodT(n:Int)(t:My.Tm):Prop where
 len:(t.1.length:Int)=n
 exps:∀ e∈t.1,0<=e/\e<=8
theorem GoodT.small{n:Int}{t:My.Tm}(h:GoodT n t)(hn:n=1\/n=2):My.qce t.1:=⟨by have:=h.len; omega,h.exps⟩
theorem qbv{n:Int}{k:List Int}(h:(k.length:Int)=n):qaX [tupI k,.int n]=some (.bl true):=by
 obtain⟨ρ',e1,o,rfl⟩:=qbM (g:=qg 2) (b:=sIf (bNot (bOf (qy qaY (qb (eVar 2) lNil)))) (sRt (eC (.bl false))) sNx) (items:=k.map .int) (ρ:=qz 3 [tupI k,.int n]) (fun i ρ=>∃ o,ρ=[some (tupI k),some (.int n),o]) ⟨none,rfl⟩ (by
  rintro i x ρ hx ⟨o,rfl⟩
  rw[zaz] at hx
  obtain⟨e,he,rfl⟩:=map_some hx
  refine⟨[some (tupI k),some (.int n),some (.int e)],?_,_,rfl⟩
  simp_all[turn,qb0])
 refine qax ?_
 unfold qaA
 rw[qJ (ρ':=qz 3 [tupI k,.int n]) (by simp_all[qz,tupI,h])]
 rw[qJ (ρ':=[some (tupI k),some (.int n),o]) (by rw[q_for]; simp only[qz,q_lSeqA,q_var,tupI] at e1 ⊢; simpa using e1)]
 simp[-zan,-zam,qm,qG]
theorem qj2{cs:List My.Tm}(h:∀ t∈cs,My.qce t.1):qdb [.dT (cs.map kD)]=some (.dT (cs.map kD)):=qlT h
theorem qfy(cs:List My.Tm)(k:List Int):qea (tupI k) (.dT (cs.map kD))=some (.bl (!(My.look cs k).isSome)):=qkr cs k
theorem qdm:∀ {a b:List Int},a.map D.int=b.map D.int->a=b
 | [],[],_=>rfl
 | [],_ :: _,h=>by cases h
 | _ :: _,[],h=>by cases h
 | x :: a,y :: b,h=>by
  rw[zaf,zaf] at h
  injection h with h1 h2
  rw[D.int.inj h1,qdm h2]
theorem qhG{qs:List My.Tm}(h:qaD qs){i:Nat}{q:My.Tm}(hq:qs[i]?=some q):q.1 ∉ (qs.take i).map (·.1):=by
 intro hm
 obtain⟨t,ht,e⟩:=List.mem_map.mp hm
 obtain⟨j,hj⟩:=List.mem_iff_getElem?.mp ht
 have hji:j < i:=by
  have:=(List.getElem?_eq_some_iff.mp hj).1
  rw[List.length_take] at this
  omega
 have hj':qs[j]?=some t:=by rw[List.getElem?_take] at hj; simpa[hji] using hj
 obtain⟨h1,e1⟩:=List.getElem?_eq_some_iff.mp hj'
 obtain⟨h2,e2⟩:=List.getElem?_eq_some_iff.mp hq
 have:=List.pairwise_iff_getElem.mp h j i h1 h2 hji
 rw[e1,e2,e,My.qbX] at this
 cases this
theorem qkd{M n:Int}{qs cs:List My.Tm}(h0:0 < M)(hq:∀ q∈qs,(q.1.length:Int)=n)(hs:qaD qs)(hc:∀ q∈qs,1<=q.2/\q.2 < M)(hl:∀ q∈qs,∃ v,My.look cs q.1=some v/\(v - q.2) % M=0)
  (hr:∀ k v,My.look cs k=some v->k ∉ qs.map (·.1)->v % M=0) (hsm:∀ t∈cs,My.qce t.1) (hnd:(cs.map (·.1)).Nodup) (hlen:cs.length<=1000) (hql:qs.length<=1000) :
  qcP [.int M,.int n,.tup (qs.map tmD),.dT (cs.map kD)]=some (.bl true):=by
 refine qax ?_
 unfold qcL
 rw[qJ (ρ':=qz 9 [.int M,.int n,.tup (qs.map tmD),.dT (cs.map kD)]) (by simp_all[qz])]
 rw[qJ (ρ':=[some (.int M),some (.int n),some (.tup (qs.map tmD)),some (.dT (cs.map kD)),some (.dT (cs.map kD)),none,none,none,none]) (by simp_all[qz,qj2 hsm])]
 rw[qJ (ρ':=[some (.int M),some (.int n),some (.tup (qs.map tmD)),some (.dT (cs.map kD)),some (.dT (cs.map kD)),some .non,none,none,none]) (by simp[-zan,-zam,qm,qG])]
 refine qcC (items:=qs.map tmD) (by simp[-zan,-zam,qm,qG]) (fun i ρ=>∃ l o6 o7 o8 a,ρ=[some (.int M),some (.int n),some (.tup (qs.map tmD)),some (.dT (cs.map kD)),some (.dT (l.map kD)),some a,o6,o7,o8]/\(∀ k,My.look l k=if k∈(qs.take i).map (·.1) then some 0 else My.look cs k)/\l.length<=1000 + i/\(l.map (·.1)).Nodup/\((i=0/\a=.non)\/∃ q,qs[i - 1]?=some q/\0 < i/\a=tupI q.1))
  ⟨cs,none,none,none,.non,rfl,fun k=>by simp[-zan,-zam,qm,qG],by omega,hnd,.inl ⟨rfl,rfl⟩⟩ ?_ ?_
 ·rintro i x ρ hx ⟨l,o6,o7,o8,a,rfl,hlk,hll,hln,ha⟩
  rw[zaz] at hx
  obtain⟨q,hqi,rfl⟩:=map_some hx
  have hqm:=za4 hqi
  obtain⟨v,hv,hvm⟩:=hl q hqm
  have hc':=hc q hqm
  have lk:My.look l q.1=some v:=by rw[hlk,if_neg (qhG hs hqi),hv]
  have hi:i < qs.length:=(List.getElem?_eq_some_iff.mp hqi).1
  refine⟨[some (.int M),some (.int n),some (.tup (qs.map tmD)),some (.dT (cs.map kD)),some (.dT ((My.put l q.1 0).map kD)),some (tupI q.1),some (tmD q),some (tupI q.1),some (.int q.2)],?_,My.put l q.1 0,_,_,_,_,rfl,fun k=>?_,?_,My.qfz hln,.inr ⟨q,by simpa using hqi,by omega,rfl⟩⟩
  ·have hp:=qfL (cs:=l) q.1 0 (by omega)
   have hlt:∀ b,a=tupI b->HT.lexLt b q.1=true:=fun b hb=>by
    rcases ha with⟨_,z⟩ | ⟨q',hq',hi0,z⟩
    ·rw[z] at hb; cases hb
    ·rw[z] at hb
     have eb:q'.1=b:=by
      have:(q'.1.map D.int)=b.map D.int:=D.tup.inj hb
      exact qdm this
     subst eb
     obtain⟨h1,e1⟩:=List.getElem?_eq_some_iff.mp hq'
     obtain⟨h2,e2⟩:=List.getElem?_eq_some_iff.mp hqi
     have:=List.pairwise_iff_getElem.mp hs (i - 1) i h1 h2 (by omega)
     rw[e1,e2] at this
     exact this
   rcases ha with⟨_,rfl⟩ | ⟨q',hq',hi0,rfl⟩
   ·simp_all[turn,tmD,qbv (hq q hqm),qb0,qfy,lk,qfR,qcr h0,hvm,show ¬ q.2 < 1 by omega,show ¬ M<=q.2 by omega,hp]
   ·have h3:=hlt q'.1 rfl
    simp_all[turn,tmD,qbv (hq q hqm),qb0,qfy,lk,qfR,qms,h3,qcr h0,hvm,show ¬ q.2 < 1 by omega,show ¬ M<=q.2 by omega,hp,show qfR (tupI q'.1)=false from rfl]
  ·rw[My.qg2,hlk,zbw,hqi]
   by_cases e:k=q.1
   ·rw[if_pos e,if_pos (by rw[e]; simp[-zan,-zam,qm,qG])]
   ·rw[if_neg e]
    congr 1
    simp_all[e]
  ·have:=My.qlB l q.1 0
   omega
 ·rintro ρ' ⟨l,o6,o7,o8,a,rfl,hlk,hll,hln,ha⟩
  rw[zaq,zbq] at hlk
  refine qcC (items:=l.map fun t=>tupI t.1) (by simp_all[<- qmf]) (fun i ρ=>∃ o7,ρ=[some (.int M),some (.int n),some (.tup (qs.map tmD)),some (.dT (cs.map kD)),some (.dT (l.map kD)),some a,o6,o7,o8]) ⟨o7,rfl⟩ ?_ ?_
  ·rintro i x ρ hx ⟨o7,rfl⟩
   rw[zaz] at hx
   obtain⟨t,ht,rfl⟩:=map_some hx
   have lk:=My.qbG hln (za4 ht)
   have hz:t.2 % M=0:=by
    rw[hlk] at lk
    by_cases e:t.1∈qs.map (·.1)
    ·rw[if_pos e] at lk; rw[<- zaF lk]; simp[-zan,-zam,qm,qG]
    ·rw[if_neg e] at lk; exact hr _ _ lk e
   refine⟨[some (.int M),some (.int n),some (.tup (qs.map tmD)),some (.dT (cs.map kD)),some (.dT (l.map kD)),some a,o6,some (tupI t.1),o8],?_,_,rfl⟩
   simp_all[turn,My.qbG hln (za4 ht),qcr h0,hz]
  ·rintro ρ' ⟨o7,rfl⟩
   simp[-zan,-zam,qm,qG]
theorem qfU{M:Int}(h0:0 < M){cs:List My.Tm}(hnd:(cs.map (·.1)).Nodup):qaD (My.qaw M (qT cs))/\(∀ q∈My.qaw M (qT cs),1<=q.2/\q.2 < M/\∃ v,My.look cs q.1=some v/\(v - q.2) % M=0)/\(∀ k v,My.look cs k=some v->k ∉ (My.qaw M (qT cs)).map (·.1)->v % M=0)/\(My.qaw M (qT cs)).length<=cs.length/\∀ q∈My.qaw M (qT cs),∃ t∈cs,t.1=q.1:=by
 have mem:∀ q∈My.qaw M (qT cs),∃ t∈cs,q=(t.1,t.2 % M)/\t.2 % M≠0:=fun q hq=>by
  unfold My.qaw at hq
  obtain⟨t,ht,rfl⟩:=List.mem_map.mp hq
  obtain⟨h1,h2⟩:=List.mem_filter.mp ht
  exact⟨t,(qak cs).subset h1,rfl,of_decide_eq_true h2⟩
 refine⟨?_,fun q hq=>?_,fun k v hk hn=>?_,?_,fun q hq=>?_⟩
 ·unfold My.qaw qaD
  refine List.pairwise_map.mpr ?_
  exact(qa6 cs hnd).filter _
 ·obtain⟨t,ht,rfl,hne⟩:=mem q hq
  have a:=zbb t.2 (show M≠0 by omega)
  have b:=zbg t.2 h0
  refine⟨by show 1<=t.2 % M; omega,b,t.2,My.qbG hnd ht,?_⟩
  show(t.2 - t.2 % M) % M=0
  exact zcq (Int.dvd_self_sub_emod)
 ·refine zcg fun hne=>hn ?_
  have hm:=My.qd9 hk
  unfold My.qaw
  rw[zaD]
  exact List.mem_map.mpr ⟨(k,v),List.mem_filter.mpr ⟨(qak cs).symm.subset hm,decide_eq_true hne⟩,rfl⟩
 ·unfold My.qaw
  rw[zaq]
  exact za6 (List.length_filter_le _ _) (Nat.le_of_eq (qeR cs))
 ·obtain⟨t,ht,rfl,_⟩:=mem q hq
  exact⟨t,ht,rfl⟩
theorem qjM{M:Int}{qs:List My.Tm}{vs:List Int}(h0:0 < M)(h1:M < 10 ^ 60)(hv:∀ v∈vs,-(10 ^ 60) < v/\v < 10 ^ 60)(hn:vs.length=1\/vs.length=2)
  (hq:∀ q∈qs,q.1.length=vs.length/\(∀ e∈q.1,0<=e/\e<=1000)/\-(10 ^ 60) < q.2/\q.2 < 10 ^ 60):qa4 [.int M,.tup (qs.map tmD),.lst (vs.map .int)]=some (.int (sumF M vs qs % M)):=by
 refine qax ?_
 unfold qcR
 rw[qJ (qZ (d:=.int 0) (by simp[-zan,-zam,qm,qG]))]
 have inner:∀ (a1 a3 a4 a5 a8:Option D) (p v j:Int) (e:Int),-(10 ^ 60) < p/\p < 10 ^ 60->-(10 ^ 60) < v/\v < 10 ^ 60->0<=e/\e<=1000->atI (vs.map D.int) j=some (.int v)->∃ o8,forD (qg 8) (sSet 6 (eOp dMod (eOp qaK (eVar 6) (eOp qU (eVar 2) (eVar 7))) (eVar 0))) (qai 0 1 e.toNat) [some (.int M),a1,some (.lst (vs.map .int)),a3,a4,a5,some (.int p),some (.int j),a8]=some (.nx [some (.int M),a1,some (.lst (vs.map .int)),a3,a4,a5,some (.int (lpw M v p e.toNat)),some (.int j),o8]):=by
  intro a1 a3 a4 a5 a8 p v j e hp hv he hj
  obtain⟨ρ',e1,o8,rfl⟩:=qbM (g:=qg 8) (b:=sSet 6 (eOp dMod (eOp qaK (eVar 6) (eOp qU (eVar 2) (eVar 7))) (eVar 0))) (items:=qai 0 1 e.toNat) (ρ:=[some (.int M),a1,some (.lst (vs.map .int)),a3,a4,a5,some (.int p),some (.int j),a8]) (fun i ρ=>∃ o8,ρ=[some (.int M),a1,some (.lst (vs.map .int)),a3,a4,a5,some (.int (lpw M v p i)),some (.int j),o8]) ⟨a8,rfl⟩ (by
   rintro i x ρ hx ⟨o8,rfl⟩
   refine⟨[some (.int M),a1,some (.lst (vs.map .int)),a3,a4,a5,some (.int (lpw M v p (i + 1))),some (.int j),some x],?_,_,rfl⟩
   have hb:=qkQ (v:=v) h0 h1 hp i
   simp_all[turn,tupI,hj,qg3 (show My.CBig (lpw M v p i) v from⟨⟨by omega,by omega⟩,by omega,by omega⟩),qcr h0,lpw])
  rw[qaW] at e1
  exact⟨o8,e1⟩
 have hr:∀ e:Int,0<=e/\e<=1000->qM [.int e]=some (qai 0 1 e.toNat):=fun e he=>by
  show(if qc4 e then _ else _)=_
  rw[if_pos (by simp only[qc4,zaY,decide_eq_true_eq]; omega)]
 refine qcC (items:=qs.map tmD) (by simp_all[qz]) (fun i ρ=>∃ o4 o5 o6 o7 o8,ρ=[some (.int M),some (.tup (qs.map tmD)),some (.lst (vs.map .int)),some (.int (lsum M vs (qs.take i))),o4,o5,o6,o7,o8]) ⟨none,none,none,none,none,by simp_all[qz,lsum]⟩ ?_ ?_
 ·rintro i x ρ hx ⟨o4,o5,o6,o7,o8,rfl⟩
  rw[zaz] at hx
  obtain⟨q,hqi,rfl⟩:=map_some hx
  obtain⟨hl,he,hc⟩:=hq q (za4 hqi)
  have es:lsum M vs (qs.take (i + 1))=lsum M vs (qs.take i) + qfw M vs q:=by rw[zbw,hqi]; exact lsum_snoc _ _ _ _
  have fin:∃ p7 p8,∀ rest:Sv,sSeq (sFor (lR qM (qb (qy dLen (qb (eVar 4) lNil)) lNil)) (qg 7) (sFor (lR qM (qb (eOp qU (eVar 4) (eVar 7)) lNil)) (qg 8) (sSet 6 (eOp dMod (eOp qaK (eVar 6) (eOp qU (eVar 2) (eVar 7))) (eVar 0))))) rest [some (.int M),some (.tup (qs.map tmD)),some (.lst (vs.map .int)),some (.int (lsum M vs (qs.take i))),some (tupI q.1),some (.int q.2),some (.int q.2),o7,o8]=rest [some (.int M),some (.tup (qs.map tmD)),some (.lst (vs.map .int)),some (.int (lsum M vs (qs.take i))),some (tupI q.1),some (.int q.2),some (.int (qfw M vs q)),p7,p8]:=by
   obtain⟨k,c⟩:=q
   dsimp only at hl he hc
   rcases hn with hn | hn
   ·obtain⟨v,rfl⟩:=List.length_eq_one_iff.mp hn
    obtain⟨e,rfl⟩:=List.length_eq_one_iff.mp (show k.length=1 by omega)
    have he1:=he e (by simp[-zan,-zam,qm,qG])
    obtain⟨p8,z⟩:=inner (some (.tup (qs.map tmD))) (some (.int (lsum M [v] (qs.take i)))) (some (tupI [e])) (some (.int c)) o8 c v 0 e hc (hv v (by simp[-zan,-zam,qm,qG])) he1 rfl
    refine⟨some (.int 0),p8,fun rest=>qJ ?_⟩
    have r1:qM [.int 1]=some [.int 0]:=rfl
    have x2:atI [D.int e] 0=some (.int e):=rfl
    simp only[tupI,zaf,zbB] at z
    simp_all[forD,r1,tupI,x2,hr e he1,z,qfw]
   ·obtain⟨v,v2,rfl⟩:=len2 hn
    obtain⟨e,e2,rfl⟩:=len2 (show k.length=2 by omega)
    have he1:=he e (by simp[-zan,-zam,qm,qG])
    have he2:=he e2 (by simp[-zan,-zam,qm,qG])
    obtain⟨p8,z⟩:=inner (some (.tup (qs.map tmD))) (some (.int (lsum M [v,v2] (qs.take i)))) (some (tupI [e,e2])) (some (.int c)) o8 c v 0 e hc (hv v (by simp[-zan,-zam,qm,qG])) he1 rfl
    obtain⟨p8',z'⟩:=inner (some (.tup (qs.map tmD))) (some (.int (lsum M [v,v2] (qs.take i)))) (some (tupI [e,e2])) (some (.int c)) p8 (lpw M v c e.toNat) v2 1 e2 (qkQ h0 h1 hc _) (hv v2 (by simp[-zan,-zam,qm,qG])) he2 rfl
    refine⟨some (.int 1),p8',fun rest=>qJ ?_⟩
    have r1:qM [.int 2]=some [.int 0,.int 1]:=rfl
    have x2:atI [D.int e,D.int e2] 0=some (.int e):=rfl
    have x4:atI [D.int e,D.int e2] 1=some (.int e2):=rfl
    simp only[tupI,zaf,zbB] at z z'
    simp_all[forD,r1,tupI,x2,x4,hr e he1,hr e2 he2,z,z',qfw]
  obtain⟨p7,p8,fin⟩:=fin
  refine⟨[some (.int M),some (.tup (qs.map tmD)),some (.lst (vs.map .int)),some (.int (lsum M vs (qs.take (i + 1)))),some (tupI q.1),some (.int q.2),some (.int (qfw M vs q)),p7,p8],?_,_,_,_,_,_,rfl⟩
  have t1:turn (qac 2 (qu (qg 4) (qu (qg 5) qaf))) (sSeq (sSet 6 (eVar 5)) (sSeq (sFor (lR qM (qb (qy dLen (qb (eVar 4) lNil)) lNil)) (qg 7) (sFor (lR qM (qb (eOp qU (eVar 4) (eVar 7)) lNil)) (qg 8) (sSet 6 (eOp dMod (eOp qaK (eVar 6) (eOp qU (eVar 2) (eVar 7))) (eVar 0))))) (sSet 3 (eOp qal (eVar 3) (eVar 6))))) (tmD q) [some (.int M),some (.tup (qs.map tmD)),some (.lst (vs.map .int)),some (.int (lsum M vs (qs.take i))),o4,o5,o6,o7,o8]=sSeq (sSet 6 (eVar 5)) (sSeq (sFor (lR qM (qb (qy dLen (qb (eVar 4) lNil)) lNil)) (qg 7) (sFor (lR qM (qb (eOp qU (eVar 4) (eVar 7)) lNil)) (qg 8) (sSet 6 (eOp dMod (eOp qaK (eVar 6) (eOp qU (eVar 2) (eVar 7))) (eVar 0))))) (sSet 3 (eOp qal (eVar 3) (eVar 6)))) [some (.int M),some (.tup (qs.map tmD)),some (.lst (vs.map .int)),some (.int (lsum M vs (qs.take i))),some (tupI q.1),some (.int q.2),o6,o7,o8]:=rfl
  rw[t1,qJ (qZ (d:=.int q.2) (by simp[-zan,-zam,qm,qG]))]
  simp only[List.set_cons_succ,List.set_cons_zero]
  rw[fin]
  simp_all[es]
 ·rintro ρ' ⟨o4,o5,o6,o7,o8,rfl⟩
  rw[zaq,zbq]
  simp_all[qcr h0,qgR]
noncomputable def acc(T:List My.Tm)(t:My.Tm):List My.Tm:=My.put T t.1 (cf T t.1 + t.2)
noncomputable def sumT(F G:List My.Tm):List My.Tm:=G.foldl acc F
noncomputable def mulT(t u:My.Tm):My.Tm:=(addE t.1 u.1,t.2 * u.2)
noncomputable def qba(F G T:List My.Tm):List My.Tm:=F.foldl (fun T t=>sumT T (G.map (mulT t))) T
theorem qgr{s i:Nat}{X:Ev}{ρ:Rho}{T:List My.Tm}{k:List Int}{x:Int}(h3:ρ[s]?=some (some (.dT (T.map kD))))(hi:ρ[i]?=some (some (tupI k)))(hx:X ρ=some (.int x))(hl:T.length<=1000):sPut s (eVar i) (eOp qal (qbI (eVar s) (eVar i) (eC (.int 0))) X) ρ=some (.nx (ρ.set s (some (.dT ((acc T (k,x)).map kD))))):=by
 have hp:=qfL (cs:=T) k (cf T k + x) (by omega)
 have v3:eVar s ρ=some (.dT (T.map kD)):=by rw[q_var,h3]; rfl
 have vi:eVar i ρ=some (tupI k):=by rw[q_var,hi]; rfl
 have a:(qbI (eVar s) (eVar i) (eC (.int 0))) ρ=some (.int (cf T k)):=by
  rw[q_get2,v3,vi,qm,qm,q_c,qm,look_kD,qG,qne]
 have b:(eOp qal (qbI (eVar s) (eVar i) (eC (.int 0))) X) ρ=some (.int (cf T k + x)):=by
  rw[q_op,a,qm,hx,qm]; rfl
 rw[q_put,b,qm,v3,qm,vi,qm,hp,qG]
 rfl
theorem qcN{F G:List My.Tm}{t:My.Tm}:sumT F (G ++ [t])=acc (sumT F G) t:=by unfold sumT; rw[List.foldl_append]; rfl
theorem qbs{d:List Int}:∀ {G T:List My.Tm},Fk d T->(∀ t∈G,Bx d t.1)->Fk d (sumT T G)/\∀ vs,ev vs (sumT T G)=ev vs T + ev vs G
 | [],T,h,_=>⟨h,fun vs=>by rw[qbN]; exact(Int.add_zero _).symm⟩
 | t :: G,T,h,g=>by
  have ih:=qbs (G:=G) (T:=acc T t) (h.put (g t (zav ..))) fun u hu=>g u (zaw _ hu)
  refine⟨ih.1,fun vs=>?_⟩
  show ev vs (sumT (acc T t) G)=_
  rw[ih.2 vs,qO]
  unfold acc
  rw[qnf h.nd rfl]
  omega
theorem qfl{F G T:List My.Tm}{t:My.Tm}:qba (F ++ [t]) G T=sumT (qba F G T) (G.map (mulT t)):=by unfold qba; rw[List.foldl_append]; rfl
theorem qjp{d e:List Int}{t:My.Tm}{vs:List Int}(bt:Bx d t.1)(hl:d.length=e.length)(hv:vs.length=d.length):∀ {G:List My.Tm},(∀ u∈G,Bx e u.1)->ev vs (G.map (mulT t))=t.2 * mon t.1 vs * ev vs G
 | [],_=>by rw[zbB,qbN,Int.mul_zero]
 | u :: G,g=>by
  rw[zaf,qO,qO,qjp bt hl hv fun w hw=>g w (zaw _ hw)]
  show t.2 * u.2 * mon (addE t.1 u.1) vs + _=_
  rw[ql5 bt (g u (zav ..)) hl hv]
  generalize mon t.1 vs=a
  generalize mon u.1 vs=b
  grind
theorem qeH{d e:List Int}{t:My.Tm}{G:List My.Tm}(bt:Bx d t.1)(g:∀ u∈G,Bx e u.1)(hl:d.length=e.length):∀ u∈G.map (mulT t),Bx (addE d e) u.1:=fun u hu=>by
 obtain⟨w,hw,rfl⟩:=List.mem_map.mp hu
 exact bt.add (g w hw) hl
theorem qcs{d e:List Int}(hl:d.length=e.length){G:List My.Tm}(g:∀ u∈G,Bx e u.1):∀ {F T:List My.Tm},Fk (addE d e) T->(∀ t∈F,Bx d t.1)->Fk (addE d e) (qba F G T)/\∀ vs:List Int,vs.length=d.length->ev vs (qba F G T)=ev vs T + ev vs F * ev vs G
 | [],T,h,_=>⟨h,fun vs _=>by rw[qbN,Int.zero_mul]; exact(Int.add_zero _).symm⟩
 | t :: F,T,h,f=>by
  have bt:=f t (zav ..)
  have s:=qbs h (qeH bt g hl)
  have ih:=qcs hl g (F:=F) s.1 fun u hu=>f u (zaw _ hu)
  refine⟨ih.1,fun vs hv=>?_⟩
  show ev vs (qba F G (sumT T (G.map (mulT t))))=_
  rw[ih.2 vs hv,s.2 vs,qjp bt hl hv g,qO,Int.add_mul]
  omega
theorem qlJ:∀ {d e k j:List Int},Bx d k->Bx e j->d.length=e.length->qeA [tupI k,tupI j]=some (tupI (addE k j))
 | [_],[_],[x],[y],_,_,_=>qax (by simp_all[qcY,qz,tupI,at0,addE])
 | [_,_],[_,_],[x,a],[y,b],_,_,_=>qax (by simp_all[qcY,qz,tupI,at0,at1,addE])
theorem qmT{M:Int}(h0:0 < M){d:List Int}{F G:List My.Tm}(f:Fk d F)(g:Fk d G)(lw:Low d):qc6 [.int M,fD F,fD G]=some (fD (My.qaw M (qT (sumT F G)))):=by
 refine qax ?_
 have dt:=qic f.nd (by have:=f.len lw; omega)
 have all:∀ i,Fk d (sumT F (G.take i)):=fun i=>(qbs f fun t ht=>g.bx t (List.take_subset _ _ ht)).1
 unfold qg5 fD
 rw[qJ (qZ (d:=.dT (F.map kD)) (by simp_all[qz,dt]))]
 refine qcC (items:=G.map tmD) (by simp_all[qz]) (fun i ρ=>∃ o4 o5:Option D,ρ=[some (.int M),some (.tup (F.map tmD)),some (.tup (G.map tmD)),some (.dT ((sumT F (G.take i)).map kD)),o4,o5]) ⟨none,none,by simp_all[qz,sumT]⟩ ?_ ?_
 ·rintro i x ρ hx ⟨o4,o5,rfl⟩
  rw[zaz] at hx
  obtain⟨t,ht,rfl⟩:=map_some hx
  have ht1:G.take (i + 1)=G.take i ++ [t]:=by rw[zbw,ht]; rfl
  have ap:=qgr (s:=3) (i:=4) (X:=eVar 5) (ρ:=[some (.int M),some (.tup (F.map tmD)),some (.tup (G.map tmD)),some (.dT ((sumT F (G.take i)).map kD)),some (tupI t.1),some (.int t.2)]) (k:=t.1) (x:=t.2) rfl rfl rfl (by have:=(all i).len lw; omega)
  refine⟨_,?_,some (tupI t.1),some (.int t.2),by rw[ht1,qcN]⟩
  show(qac 2 (qu (qg 4) (qu (qg 5) qaf)) (tmD t) _).bind _=_
  have e1:qac 2 (qu (qg 4) (qu (qg 5) qaf)) (tmD t) [some (.int M),some (.tup (F.map tmD)),some (.tup (G.map tmD)),some (.dT ((sumT F (G.take i)).map kD)),o4,o5]=some [some (.int M),some (.tup (F.map tmD)),some (.tup (G.map tmD)),some (.dT ((sumT F (G.take i)).map kD)),some (tupI t.1),some (.int t.2)]:=by simp_all[tmD]
  rw[e1,qm]
  exact ap
 ·rintro ρ ⟨o4,o5,rfl⟩
  have vf:=qds (M:=M) (cs:=sumT F G) h0 (by have:=(all G.length).len lw; rw[zbq] at this; omega)
  rw[zaq,zbq]
  simp_all[vf]
theorem ql9{M:Int}(h0:0 < M)(h1:M < 10 ^ 60){d e:List Int}{F G:List My.Tm}(f:Fo M d F)(g:Fo M e G)(hl:d.length=e.length)(lw:Low (addE d e)):qcx [.int M,fD F,fD G]=some (fD (My.qaw M (qT (qba F G [])))):=by
 refine qax ?_
 have p60:(10:Int) ^ 60=1000000000000000000000000000000000000000000000000000000000000:=by decide +kernel
 have all:∀ i,Fk (addE d e) (qba (F.take i) G []):=fun i=>(qcs hl g.k.bx (Fk.nil _) fun t ht=>f.k.bx t (List.take_subset _ _ ht)).1
 unfold qee fD
 rw[qJ (qZ (d:=.dT []) (by simp[-zan,-zam,qm,qG]))]
 refine qcC (items:=F.map tmD) (by simp_all[qz]) (fun i ρ=>∃ o4 o5 o6 o7 o8:Option D,ρ=[some (.int M),some (.tup (F.map tmD)),some (.tup (G.map tmD)),some (.dT ((qba (F.take i) G []).map kD)),o4,o5,o6,o7,o8]) ⟨none,none,none,none,none,by simp_all[qz,qba]⟩ ?_ ?_
 ·rintro i x ρ hx ⟨o4,o5,o6,o7,o8,rfl⟩
  rw[zaz] at hx
  obtain⟨t,ht,rfl⟩:=map_some hx
  have htm:=za4 ht
  have bt:=f.k.bx t htm
  have ct:=f.cb t htm
  have ht1:F.take (i + 1)=F.take i ++ [t]:=by rw[zbw,ht]; rfl
  have al:=all i
  rw[ht1,qfl]
  generalize qba (F.take i) G []=T at al ⊢
  have aj:∀ j,Fk (addE d e) (sumT T ((G.take j).map (mulT t))):=fun j=>(qbs al (qeH bt (fun u hu=>g.k.bx u (List.take_subset _ _ hu)) hl)).1
  obtain⟨ρ',er,p6,p7,p8,rfl⟩:=qbM (g:=qac 2 (qu (qg 6) (qu (qg 7) qaf))) (b:=(sSeq (sSet 8 (qy qeA (qb (eVar 4) (qb (eVar 6) lNil))))
   (sPut 3 (eVar 8) (eOp qal (qbI (eVar 3) (eVar 8) (eC (.int 0))) (eOp qaK (eVar 5) (eVar 7)))))) (items:=G.map tmD) (ρ:=[some (.int M),some (.tup (F.map tmD)),some (.tup (G.map tmD)),some (.dT (T.map kD)),some (tupI t.1),some (.int t.2),o6,o7,o8])
   (fun j ρ=>∃ o6 o7 o8:Option D,ρ=[some (.int M),some (.tup (F.map tmD)),some (.tup (G.map tmD)),some (.dT ((sumT T ((G.take j).map (mulT t))).map kD)),some (tupI t.1),some (.int t.2),o6,o7,o8]) ⟨o6,o7,o8,rfl⟩ (by
   rintro j y ρ hy ⟨o6,o7,o8,rfl⟩
   rw[zaz] at hy
   obtain⟨u,hu,rfl⟩:=map_some hy
   have hum:=za4 hu
   have cu:=g.cb u hum
   have hu1:(G.take (j + 1)).map (mulT t)=(G.take j).map (mulT t) ++ [mulT t u]:=by rw[zbw,hu]; simp[-zan,-zam,qm,qG]
   have va:=qlJ bt (g.k.bx u hum) hl
   have mu:qaK (.int t.2) (.int u.2)=some (.int (t.2 * u.2)):=qd7 (by omega) (by omega) (by omega) (by omega)
   have ap:=qgr (s:=3) (i:=8) (X:=eOp qaK (eVar 5) (eVar 7)) (ρ:=[some (.int M),some (.tup (F.map tmD)),some (.tup (G.map tmD)),some (.dT ((sumT T ((G.take j).map (mulT t))).map kD)),some (tupI t.1),some (.int t.2),some (tupI u.1),some (.int u.2),some (tupI (addE t.1 u.1))]) (k:=addE t.1 u.1) (x:=t.2 * u.2) rfl rfl (by simp_all[mu]) (by have:=(aj j).len lw; omega)
   refine⟨_,?_,some (tupI u.1),some (.int u.2),some (tupI (addE t.1 u.1)),by rw[hu1,qcN]⟩
   show(qac 2 (qu (qg 6) (qu (qg 7) qaf)) (tmD u) _).bind _=_
   have e1:qac 2 (qu (qg 6) (qu (qg 7) qaf)) (tmD u) [some (.int M),some (.tup (F.map tmD)),some (.tup (G.map tmD)),some (.dT ((sumT T ((G.take j).map (mulT t))).map kD)),some (tupI t.1),some (.int t.2),o6,o7,o8]=some [some (.int M),some (.tup (F.map tmD)),some (.tup (G.map tmD)),some (.dT ((sumT T ((G.take j).map (mulT t))).map kD)),some (tupI t.1),some (.int t.2),some (tupI u.1),some (.int u.2),o8]:=by simp_all[tmD]
   rw[e1,qm,qJ (qZ (d:=tupI (addE t.1 u.1)) (by simp_all[va]))]
   exact ap)
  rw[zaq,zbq] at er
  refine⟨_,?_,some (tupI t.1),some (.int t.2),p6,p7,p8,rfl⟩
  show(qac 2 (qu (qg 4) (qu (qg 5) qaf)) (tmD t) _).bind _=_
  have e1:qac 2 (qu (qg 4) (qu (qg 5) qaf)) (tmD t) [some (.int M),some (.tup (F.map tmD)),some (.tup (G.map tmD)),some (.dT (T.map kD)),o4,o5,o6,o7,o8]=some [some (.int M),some (.tup (F.map tmD)),some (.tup (G.map tmD)),some (.dT (T.map kD)),some (tupI t.1),some (.int t.2),o6,o7,o8]:=by simp_all[tmD]
  rw[e1,qm,q_for]
  have e2:qaI (eVar 2) [some (.int M),some (.tup (F.map tmD)),some (.tup (G.map tmD)),some (.dT (T.map kD)),some (tupI t.1),some (.int t.2),o6,o7,o8]=some (G.map tmD):=by simp[-zan,-zam,qm,qG]
  rw[e2,qm]
  exact er
 ·rintro ρ ⟨o4,o5,o6,o7,o8,rfl⟩
  have vf:=qds (M:=M) (cs:=qba F G []) h0 (by have:=(all F.length).len lw; rw[zbq] at this; omega)
  rw[zaq,zbq]
  simp_all[vf]
theorem qoi(l:List My.Tm)(k j:List Int)(c:Int):cf (My.put l k c) j=if j=k then c else cf l j:=by
 unfold cf
 rw[My.qg2]
 by_cases e:j=k
 ·rw[if_pos e,if_pos e]; rfl
 ·rw[if_neg e,if_neg e]
theorem qhT{l:List My.Tm}{k:List Int}{v:Int}(h:My.look l k=some v):cf l k=v:=by unfold cf; rw[h]; rfl
theorem qiR{l:List My.Tm}{k:List Int}(h:cf l k≠0):My.look l k=some (cf l k):=by
 unfold cf at h ⊢
 cases e:My.look l k with
 | none=>rw[e] at h; exact absurd rfl h
 | some v=>rfl
noncomputable def bN(n c:Int):List Int:=if n=1 then [c] else [c,c]
theorem qbO{n c:Int}(hn:n=1\/n=2):((bN n c).length:Int)=n:=by rcases hn with rfl | rfl <;> rfl
theorem qbK{n c:Int}(hn:n=1\/n=2)(h:c<=8):Low (bN n c):=by
 rcases hn with rfl | rfl
 ·exact h
 ·exact⟨h,h⟩
theorem qfj{n a b:Int}(hn:n=1\/n=2):addE (bN n a) (bN n b)=bN n (a + b):=by rcases hn with rfl | rfl <;> rfl
theorem qci{n a b:Int}(hn:n=1\/n=2)(h0:0<=b)(h:b<=a):Bx (bN n a) (bN n b):=by
 rcases hn with rfl | rfl
 ·exact⟨h0,h⟩
 ·exact⟨⟨h0,h⟩,h0,h⟩
theorem qhN{n a b:Int}(hn:n=1\/n=2):(bN n a).length=(bN n b).length:=by have:=qbO (c:=a) hn; have:=qbO (c:=b) hn; omega
noncomputable def Pol(n:Int)(f:List Int->Int):Prop:=∃ (c:Int) (Q:List My.Tm),0<=c/\Fk (bN n c) Q/\∀ vs:List Int,(vs.length:Int)=n->f vs=ev vs Q
theorem Pol.of{n c:Int}(h:0<=c){F:List My.Tm}(f:Fk (bN n c) F):Pol n (fun vs=>ev vs F):=⟨c,F,h,f,fun _ _=>rfl⟩
theorem Pol.zero(n:Int):Pol n (fun _=>0):=⟨0,[],zby _,Fk.nil _,fun _ _=>rfl⟩
theorem Pol.add{n:Int}(hn:n=1\/n=2){f g:List Int->Int}(h:Pol n f)(k:Pol n g):Pol n (fun vs=>f vs + g vs):=by
 obtain⟨c,Q,c0,q,e⟩:=h
 obtain⟨d,R,d0,r,e2⟩:=k
 have s:=qbs (q.mono (qci hn c0 (show c<=c + d by omega))) (r.mono (qci hn d0 (show d<=c + d by omega))).bx
 exact⟨c + d,sumT Q R,by omega,s.1,fun vs hv=>by show f vs + g vs=_; rw[s.2 vs,e vs hv,e2 vs hv]⟩
theorem Pol.mul{n:Int}(hn:n=1\/n=2){f g:List Int->Int}(h:Pol n f)(k:Pol n g):Pol n (fun vs=>f vs * g vs):=by
 obtain⟨c,Q,c0,q,e⟩:=h
 obtain⟨d,R,d0,r,e2⟩:=k
 have s:=qcs (qhN hn) r.bx (Fk.nil _) q.bx
 rw[qfj hn] at s
 refine⟨c + d,qba Q R [],by omega,s.1,fun vs hv=>?_⟩
 have:=qbO (c:=c) hn
 show f vs * g vs=_
 rw[s.2 vs (by omega),e vs hv,e2 vs hv,qbN,Int.zero_add]
theorem qfX{n:Int}(hn:n=1\/n=2){vs:List Int}(hv:(vs.length:Int)=n)(c:Int):ev vs [(bN n 0,c)]=c:=by
 rw[qO,qbN]
 rcases hn with rfl | rfl
 ·obtain⟨v,rfl⟩:=List.length_eq_one_iff.mp (show vs.length=1 by omega)
  simp_all[bN,mon]
 ·obtain⟨v,u,rfl⟩:=len2 (show vs.length=2 by omega)
  simp_all[bN,mon]
theorem qgA{n:Int}(hn:n=1\/n=2)(c:Int):Fk (bN n 0) [(bN n 0,c)]:=⟨by simp[-zan,-zam,qm,qG],fun t ht=>by rw[List.mem_singleton.mp ht]; exact qci hn (zby _) (zby _)⟩
theorem Pol.const{n:Int}(hn:n=1\/n=2)(c:Int):Pol n (fun _=>c):=⟨0,_,zby _,qgA hn c,fun _ hv=>(qfX hn hv c).symm⟩
theorem Pol.pow{n:Int}(hn:n=1\/n=2){f:List Int->Int}(h:Pol n f):∀ r:Nat,Pol n (fun vs=>f vs ^ r)
 | 0=>by
  rw[show(fun vs=>f vs ^ 0)=fun _=>1 from funext fun vs=>Int.pow_zero _]
  exact Pol.const hn 1
 | r + 1=>by
  rw[show(fun vs=>f vs ^ (r + 1))=fun vs=>f vs ^ r * f vs from funext fun vs=>zbU _ _]
  exact(Pol.pow hn h r).mul hn h
noncomputable def Cg(M n:Int)(f g:List Int->Int):Prop:=∃ h,Pol n h/\∀ vs:List Int,(vs.length:Int)=n->f vs - g vs=M * h vs
theorem Cg.of{M n:Int}{f g:List Int->Int}(h:∀ vs:List Int,(vs.length:Int)=n->f vs=g vs):Cg M n f g:=⟨_,Pol.zero n,fun vs hv=>by rw[h vs hv]; simp[-zan,-zam,qm,qG]⟩
theorem Cg.trans{M n:Int}(hn:n=1\/n=2){f g k:List Int->Int}(h:Cg M n f g)(h2:Cg M n g k):Cg M n f k:=by
 obtain⟨a,pa,ea⟩:=h
 obtain⟨b,pb,eb⟩:=h2
 refine⟨_,pa.add hn pb,fun vs hv=>?_⟩
 have:=ea vs hv
 have:=eb vs hv
 rw[Int.mul_add]; omega
theorem Cg.add{M n:Int}(hn:n=1\/n=2){f g f2 g2:List Int->Int}(h:Cg M n f g)(h2:Cg M n f2 g2):Cg M n (fun vs=>f vs + f2 vs) (fun vs=>g vs + g2 vs):=by
 obtain⟨a,pa,ea⟩:=h
 obtain⟨b,pb,eb⟩:=h2
 refine⟨_,pa.add hn pb,fun vs hv=>?_⟩
 have:=ea vs hv
 have:=eb vs hv
 dsimp only
 rw[Int.mul_add]; omega
theorem Cg.mul{M n:Int}(hn:n=1\/n=2){f g f2 g2:List Int->Int}(h:Cg M n f g)(h2:Cg M n f2 g2)(p:Pol n f2)(p2:Pol n g):Cg M n (fun vs=>f vs * f2 vs) (fun vs=>g vs * g2 vs):=by
 obtain⟨a,pa,ea⟩:=h
 obtain⟨b,pb,eb⟩:=h2
 refine⟨_,(pa.mul hn p).add hn (p2.mul hn pb),fun vs hv=>?_⟩
 have x:=ea vs hv
 have y:=eb vs hv
 dsimp only
 have x2:f vs=g vs + M * a vs:=by omega
 have y2:f2 vs=g2 vs + M * b vs:=by omega
 rw[x2,y2]
 generalize a vs=A
 generalize b vs=B
 grind
theorem Cg.dvd{M n:Int}{f g:List Int->Int}(h:Cg M n f g){vs:List Int}(hv:(vs.length:Int)=n):M ∣ f vs - g vs:=by
 obtain⟨a,_,e⟩:=h
 exact⟨_,e vs hv⟩
theorem qk6{M:Int}(h0:0 < M){vs:List Int}:∀ l:List My.Tm,ev vs (My.qaw M l) - ev vs l=M * ev vs (l.map fun t=>(t.1,-(t.2 / M)))
 | []=>by simp_all[My.qaw,ev]
 | t :: l=>by
  have ih:=qk6 h0 (vs:=vs) l
  have dm:=Int.mul_ediv_add_emod t.2 M
  rw[zaf,qO,qO,Int.mul_add]
  dsimp only
  have e1:M * (-(t.2 / M) * mon t.1 vs)=(t.2 % M - t.2) * mon t.1 vs:=by
   have:t.2 % M - t.2=-(M * (t.2 / M)):=by omega
   rw[this]
   generalize t.2 / M=q
   grind
  rw[e1,Int.sub_mul]
  by_cases h:t.2 % M=0
  ·have e:My.qaw M (t :: l)=My.qaw M l:=by unfold My.qaw; rw[List.filter_cons_of_neg (by simp_all[h])]
   rw[e,h,Int.zero_mul]; omega
  ·have e:My.qaw M (t :: l)=(t.1,t.2 % M) :: My.qaw M l:=by unfold My.qaw; rw[List.filter_cons_of_pos (by simp_all[h])]; rfl
   rw[e,qO]
   dsimp only
   omega
theorem Cg.form{M n c:Int}(h0:0 < M)(c0:0<=c){T:List My.Tm}(h:Fk (bN n c) T):Cg M n (fun vs=>ev vs (My.qaw M (qT T))) (fun vs=>ev vs T):=by
 have p:=qak T
 refine⟨_,Pol.of (F:=(qT T).map fun t=>(t.1,-(t.2 / M))) c0 ⟨?_,fun t ht=>?_⟩,fun vs _=>?_⟩
 ·rw[zaD]
  exact(p.map _).nodup_iff.mpr h.nd
 ·obtain⟨u,hu,rfl⟩:=List.mem_map.mp ht
  exact h.bx u (p.subset hu)
 ·rw[<- qk6 h0,ql3 p]
theorem qez(S:Nat->Int)(x:Int):∀ N,pw S x (N + 1)=S 0 + x * pw (fun j=>S (j + 1)) x N
 | 0=>by simp_all[pw]
 | N + 1=>by
  rw[pw,qez S x N,pw,Int.mul_add,zbU]
  generalize x ^ N=p
  generalize pw (fun j=>S (j + 1)) x N=q
  grind
theorem qeC:∀ (N:Nat) (S:Nat->Int),(∀ x:Int,x≠0->pw S x N=0)->∀ j,j < N->S j=0
 | 0,S,_,j,hj=>absurd hj (Nat.not_lt_zero _)
 | N + 1,S,h,j,hj=>by
  have s0:S 0=0:=by
   have x:=h ((S 0).natAbs + 1:Int) (by omega)
   rw[qez] at x
   have d:((S 0).natAbs + 1:Int) ∣ S 0:=⟨-pw (fun j=>S (j + 1)) ((S 0).natAbs + 1:Int) N,by rw[Int.mul_neg]; omega⟩
   refine zcg fun z=>?_
   have:=Nat.le_of_dvd (Int.natAbs_pos.mpr z) (Int.natAbs_dvd_natAbs.mpr d)
   omega
  cases j with
  | zero=>exact s0
  | succ j=>
   refine qeC N (fun j=>S (j + 1)) (fun x hx=>?_) j (by omega)
   have y:=h x hx
   rw[qez,s0,Int.zero_add] at y
   exact(Int.mul_eq_zero.mp y).resolve_left hx
theorem qi6(x:Int):∀ N,pw (fun _=>0) x N=0
 | 0=>rfl
 | N + 1=>by rw[pw,qi6 x N]; simp[-zan,-zam,qm,qG]
theorem qf0{t:My.Tm}{T:List My.Tm}(nd:((t :: T).map (·.1)).Nodup)(k:List Int):cf (t :: T) k=(if t.1=k then t.2 else 0) + cf T k:=by
 rw[qcu]
 by_cases e:t.1=k
 ·rw[if_pos e,if_pos e,<- e,qfo (List.nodup_cons.mp (show(t.1 :: T.map (·.1)).Nodup from nd)).1,Int.add_zero]
 ·rw[if_neg e,if_neg e,Int.zero_add]
theorem qnR{c:Nat}{x:Int}:∀ {T:List My.Tm},Fk [(c:Int)] T->ev [x] T=pw (fun e=>cf T [(e:Int)]) x (c + 1)
 | [],_=>by rw[qbN]; exact(qi6 x _).symm
 | t :: T,h=>by
  have nd:=h.nd
  have h2:Fk [(c:Int)] T:=⟨(List.nodup_cons.mp (show(t.1 :: T.map (·.1)).Nodup from nd)).2,fun u hu=>h.bx u (zaw _ hu)⟩
  have b:=h.bx t (zav ..)
  have ef:(fun e:Nat=>cf (t :: T) [(e:Int)])=fun e:Nat=>(if t.1=[(e:Int)] then t.2 else 0) + cf T [(e:Int)]:=funext fun e=>qf0 nd _
  rw[ef,qO,qnR h2]
  obtain⟨k,v⟩:=t
  match k,b with
  | [y],b=>
   have b:0<=y/\y<=(c:Int):=b
   have eg:(fun e:Nat=>(if ([y]:List Int)=[(e:Int)] then v else 0) + cf T [(e:Int)])=fun e:Nat=>(if y.toNat=e then v else 0) + cf T [(e:Int)]:=funext fun e=>by
    congr 1
    by_cases z:y.toNat=e
    ·rw[if_pos (by rw[<- z,zci b.1]),if_pos z]
    ·rw[if_neg (fun q=>z (by have:=List.cons.inj q; omega)),if_neg z]
   dsimp only at eg ⊢
   rw[eg,qgT,if_pos (by omega)]
   show v * (x ^ y.toNat * 1) + _=_
   rw[zbm,Int.mul_comm]
theorem qk7{c d:Nat}{w:Int}{j:Nat}:∀ {T:List My.Tm},Fk [(d:Int),(c:Int)] T->grp [(j:Int)] w T=pw (fun e=>cf T [(j:Int),(e:Int)]) w (c + 1)
 | [],_=>(qi6 w _).symm
 | t :: T,h=>by
  have nd:=h.nd
  have h2:Fk [(d:Int),(c:Int)] T:=⟨(List.nodup_cons.mp (show(t.1 :: T.map (·.1)).Nodup from nd)).2,fun u hu=>h.bx u (zaw _ hu)⟩
  have b:=h.bx t (zav ..)
  have ef:(fun e:Nat=>cf (t :: T) [(j:Int),(e:Int)])=fun e:Nat=>(if t.1=[(j:Int),(e:Int)] then t.2 else 0) + cf T [(j:Int),(e:Int)]:=funext fun e=>qf0 nd _
  rw[ef,qdW,qk7 h2]
  obtain⟨k,v⟩:=t
  match k,b with
  | [x,y],b=>
   have b:(0<=x/\x<=(d:Int))/\0<=y/\y<=(c:Int):=b
   have eg:(fun e:Nat=>(if ([x,y]:List Int)=[(j:Int),(e:Int)] then v else 0) + cf T [(j:Int),(e:Int)])=fun e:Nat=>(if y.toNat=e then (if x=(j:Int) then v else 0) else 0) + cf T [(j:Int),(e:Int)]:=funext fun e=>by
    congr 1
    by_cases z:y.toNat=e
    ·rw[if_pos z]
     by_cases z2:x=(j:Int)
     ·rw[if_pos z2,if_pos (by rw[<- z,zci b.2.1,z2])]
     ·rw[if_neg z2,if_neg (fun q=>z2 (List.cons.inj q).1)]
    ·rw[if_neg (fun q=>z (by have:=List.cons.inj (List.cons.inj q).2; omega)),if_neg z]
   dsimp only at eg ⊢
   rw[eg,qgT]
   show(if ([x]:List Int)=[(j:Int)] then v * w ^ y.toNat else 0) + _=_
   rw[if_pos (show y.toNat < c + 1 by omega)]
   by_cases z2:x=(j:Int)
   ·rw[if_pos (by rw[z2]),if_pos z2,Int.mul_comm]
   ·rw[if_neg (fun q=>z2 (List.cons.inj q).1),if_neg z2,Int.mul_zero]
theorem qoL{n c:Int}(hn:n=1\/n=2)(c0:0<=c){T:List My.Tm}(h:Fk (bN n c) T)(hz:∀ vs:List Int,(vs.length:Int)=n->ev vs T=0)(k:List Int):cf T k=0:=by
 obtain⟨m,rfl⟩:∃ m:Nat,c=(m:Int):=⟨c.toNat,by omega⟩
 by_cases hk:k∈T.map (·.1)
 case neg=>exact qfo hk
 obtain⟨t,ht,rfl⟩:=List.mem_map.mp hk
 have b:=h.bx t ht
 obtain⟨k,v⟩:=t
 rcases hn with rfl | rfl
 ·have h:Fk [(m:Int)] T:=h
  match k,b with
  | [y],b=>
   have b:0<=y/\y<=(m:Int):=b
   have:=qeC (m + 1) (fun e=>cf T [(e:Int)]) (fun x _=>by rw[<- qnR h]; exact hz [x] rfl) y.toNat (by omega)
   rw[zci b.1] at this
   exact this
 ·have h:Fk [(m:Int),(m:Int)] T:=h
  match k,b with
  | [x,y],b=>
   have b:(0<=x/\x<=(m:Int))/\0<=y/\y<=(m:Int):=b
   have g:∀ w:Int,∀ j:Nat,j < m + 1->grp [(j:Int)] w T=0:=fun w=>qeC (m + 1) (fun j=>grp [(j:Int)] w T) fun a _=>by
    rw[qfB (d:=(m:Int)) (e:=(m:Int)) (m:=m) fun u hu=>⟨h.bx u hu,by
     rcases(h.bx u hu).shape with⟨_,_,e,_,_⟩ | ⟨a,b,x,y,e1,e2,e3⟩
     ·cases e
     ·cases e1; exact⟨x,y,e2,e3.1.2⟩⟩]
    exact hz [a,w] rfl
   have:=qeC (m + 1) (fun e=>cf T [((x.toNat:Nat):Int),(e:Int)]) (fun w _=>by rw[<- qk7 h]; exact g w x.toNat (by omega)) y.toNat (by omega)
   rw[zci b.1.1,zci b.2.1] at this
   exact this
theorem qos(T:List My.Tm)(t:My.Tm)(k:List Int):cf (acc T t) k=cf T k + if t.1=k then t.2 else 0:=by
 unfold acc
 rw[qoi]
 by_cases e:t.1=k
 ·rw[if_pos e.symm,if_pos e,e]
 ·rw[if_neg (zaK e),if_neg e,Int.add_zero]
theorem qiN:∀ {G:List My.Tm} (T:List My.Tm) (k:List Int),(G.map (·.1)).Nodup->cf (sumT T G) k=cf T k + cf G k
 | [],T,k,_=>by show cf T k=cf T k + 0; omega
 | t :: G,T,k,h=>by
  show cf (sumT (acc T t) G) k=_
  rw[qiN (acc T t) k (List.nodup_cons.mp (show(t.1 :: G.map (·.1)).Nodup from h)).2,qos,qf0 h]
  omega
theorem qeG(a:Int)(k:List Int):∀ T:List My.Tm,cf (T.map fun t=>(t.1,a * t.2)) k=a * cf T k
 | []=>(Int.mul_zero a).symm
 | t :: T=>by
  rw[zaf,qcu,qcu,qeG a k T]
  by_cases e:t.1=k
  ·rw[if_pos e,if_pos e]
  ·rw[if_neg e,if_neg e]
theorem qei(a:Int)(vs:List Int):∀ T:List My.Tm,ev vs (T.map fun t=>(t.1,a * t.2))=a * ev vs T
 | []=>(Int.mul_zero a).symm
 | t :: T=>by
  rw[zaf,qO,qO,qei a vs T,Int.mul_add,zbG]
theorem qdY(a:Int){d:List Int}{T:List My.Tm}(h:Fk d T):Fk d (T.map fun t=>(t.1,a * t.2)):=⟨by rw[zaD]; exact h.nd,fun t ht=>by
 obtain⟨u,hu,rfl⟩:=List.mem_map.mp ht
 exact h.bx u hu⟩
theorem qls{M n c:Int}(hn:n=1\/n=2)(c0:0<=c){F G:List My.Tm}(f:Fk (bN n c) F)(g:Fk (bN n c) G)(h:Cg M n (fun vs=>ev vs F) (fun vs=>ev vs G))(k:List Int):M ∣ cf F k - cf G k:=by
 obtain⟨q,⟨d,Q,d0,fq,eq⟩,e⟩:=h
 have b1:=qci hn c0 (show c<=c + d by omega)
 have s1:=qbs (f.mono b1) (qdY (-1) (g.mono b1)).bx
 have fq2:=qdY (-M) (fq.mono (qci hn d0 (show d<=c + d by omega)))
 have s2:=qbs s1.1 fq2.bx
 have z:=qoL hn (by omega) s2.1 (fun vs hv=>by
  rw[s2.2 vs,s1.2 vs,qei,qei]
  have:=e vs hv
  dsimp only at this
  rw[eq vs hv] at this
  rw[Int.neg_mul,Int.neg_mul,Int.one_mul]
  omega) k
 rw[qiN _ _ fq2.nd,qiN _ _ (qdY (-1) (g.mono b1)).nd,qeG,qeG,Int.neg_mul,Int.neg_mul,Int.one_mul] at z
 exact⟨cf Q k,by omega⟩
structure Nf(M:Int)(d:List Int)(F:List My.Tm):Prop where
 fo:Fo M d F
 srt:qaD F
 pos:∀ t∈F,1<=t.2
theorem Nf.nil(M:Int)(d:List Int):Nf M d []:=⟨Fo.nil M d,.nil,fun _ h=>nomatch h⟩
theorem Nf.mono{M:Int}{d e:List Int}{F:List My.Tm}(h:Nf M d F)(b:Bx e d):Nf M e F:=⟨h.fo.mono b,h.srt,h.pos⟩
theorem qfG{M:Int}(h0:0 < M){d:List Int}{T:List My.Tm}(h:Fk d T):Nf M d (My.qaw M (qT T)):=by
 obtain⟨a,b,_⟩:=qfU (M:=M) h0 h.nd
 exact⟨h.form h0,a,fun t ht=>(b t ht).1⟩
theorem qkZ{M:Int}{d:List Int}{F G:List My.Tm}(f:Nf M d F)(g:Nf M d G)(h:∀ k,M ∣ cf F k - cf G k):F=G:=by
 have half:∀ {F G:List My.Tm},Nf M d F->Nf M d G->(∀ k,M ∣ cf F k - cf G k)->∀ t∈F,t∈G:=fun {F G} f g h t ht=>by
  have e1:cf F t.1=t.2:=by unfold cf; rw[My.qbG f.fo.k.nd ht]; rfl
  have b:=f.fo.cb t ht
  have p:=f.pos t ht
  have d:=h t.1
  rw[e1] at d
  have e2:cf G t.1=t.2:=by
   cases e:My.look G t.1 with
   | none=>
    have:cf G t.1=0:=by unfold cf; rw[e]; rfl
    rw[this,Int.sub_zero] at d
    have:=Int.le_of_dvd (by omega) d
    omega
   | some v=>
    have e3:cf G t.1=v:=by unfold cf; rw[e]; rfl
    have bv:=g.fo.cb _ (My.qd9 e)
    dsimp only at bv
    rw[e3] at d ⊢
    refine zcg fun z=>?_
    have:=Nat.le_of_dvd (Int.natAbs_pos.mpr (by omega)) (Int.natAbs_dvd_natAbs.mpr d)
    omega
  have ne:cf G t.1≠0:=by omega
  have:=My.qd9 (qiR ne)
  rw[e2] at this
  exact this
 exact qdP f.srt g.srt fun t=>⟨half f g h t,half g f (fun k=>by
  have:=h k
  rw[show cf G k - cf F k=-(cf F k - cf G k) by omega]
  exact Int.dvd_neg.mpr this) t⟩
noncomputable def exA(p:Nat)(k:List Int):Int:=k.getD p 0
theorem qgW{p:Nat}:∀ (F:List My.Tm) (o1 o2:Option D),(∀ t∈F,p < t.1.length)->qb2 (qac 2 (qu (qg 0) (qu (qg 1) qaf))) bYes (eOp qU (eVar 0) (eVar 2)) (F.map tmD) [o1,o2,some (.int (p:Int))]=some ((F.map fun t=>exA p t.1).map .int)
 | [],_,_,_=>rfl
 | t :: F,o1,o2,h=>by
  have ih:=qgW F (some (tupI t.1)) (some (.int t.2)) fun u hu=>h u (zaw _ hu)
  have hp:=h t (zav ..)
  have e:atI (t.1.map D.int) (p:Int)=some (.int (exA p t.1)):=qco (by
   unfold exA
   rw[zaz,zaC hp,List.getD_eq_getElem?_getD,zaC hp]; rfl)
  rw[zaf,qb2]
  simp[-zan,-zam,qm,qG,-zaD,tmD,tupI,e] at ih ⊢
  simp_all[-zaD,tmD,tupI,ih]
theorem qdD:∀ (l:List Int) (a:Int),a<=l.foldl (fun m x=>if x > m then x else m) a/\∀ x∈l,x<=l.foldl (fun m x=>if x > m then x else m) a
 | [],a=>⟨zby _,fun _ h=>nomatch h⟩
 | y :: l,a=>by
  obtain⟨h1,h2⟩:=qdD l (if y > a then y else a)
  rw[List.foldl_cons]
  have h3:a<=(if y > a then y else a)/\y<=(if y > a then y else a):=by split <;> omega
  exact⟨by omega,fun x hx=>by
   rcases List.mem_cons.mp hx with z | z
   ·subst z; omega
   ·exact h2 x z⟩
theorem qdM{b:Int}:∀ (l:List Int) (a:Int),a<=b->(∀ x∈l,x<=b)->l.foldl (fun m x=>if x > m then x else m) a<=b
 | [],a,h,_=>h
 | y :: l,a,h,g=>by
  rw[List.foldl_cons]
  exact qdM l _ (by have:=g y (zav ..); split <;> omega) fun x hx=>g x (zaw _ hx)
theorem qlO{l:List Int}(h:∀ x∈l,0<=x/\x<=2):∃ m:Nat,My.maxL 0 l=(m:Int)/\m<=2/\∀ x∈l,x<=(m:Int):=by
 cases l with
 | nil=>exact⟨0,rfl,by decide,fun _ h=>nomatch h⟩
 | cons y l=>
  have hy:=h y (zav ..)
  obtain⟨h1,h2⟩:=qdD l y
  have h3:=qdM (b:=2) l y hy.2 fun x hx=>(h x (zaw _ hx)).2
  have e:My.maxL 0 (y :: l)=l.foldl (fun m x=>if x > m then x else m) y:=rfl
  generalize l.foldl (fun m x=>if x > m then x else m) y=m at h1 h2 h3 e
  refine⟨m.toNat,by omega,by omega,fun x hx=>?_⟩
  rcases List.mem_cons.mp hx with z | z
  ·subst z; omega
  ·have:=h2 x z; omega
theorem qcq{p:Nat}{F:List My.Tm}(hl:F.length<=1000)(h:∀ t∈F,p < t.1.length/\0<=exA p t.1/\exA p t.1<=2):∃ m:Nat,qaF [fD F,.int (p:Int)]=some (.int (m:Int))/\m<=2/\∀ t∈F,exA p t.1<=(m:Int):=by
 have ce:=qgW F none none fun t ht=>(h t ht).1
 obtain⟨m,em,m2,hm⟩:=qlO (l:=F.map fun t=>exA p t.1) fun x hx=>by
  obtain⟨t,ht,rfl⟩:=List.mem_map.mp hx
  exact(h t ht).2
 have hz:szOk F.length=true:=decide_eq_true (by omega)
 refine⟨m,qax ?_,m2,fun t ht=>hm _ (List.mem_map_of_mem (f:=fun t=>exA p t.1) ht)⟩
 have q:=q_maxD (ns:=F.map fun t=>exA p t.1) (d:=0)
 rw[em] at q
 simp_all[-zaD,-q_maxD,qbD,qz,fD,hz,inS,ce,q]
theorem qjj{M n c:Int}(h0:0 < M)(hn:n=1\/n=2)(c0:0<=c)(c8:c<=8){F G:List My.Tm}(f:Fk (bN n c) F)(g:Fk (bN n c) G):∃ H,qc6 [.int M,fD F,fD G]=some (fD H)/\Nf M (bN n c) H/\Cg M n (fun vs=>ev vs H) (fun vs=>ev vs F + ev vs G):=by
 have s:=qbs f g.bx
 exact⟨_,qmT h0 f g (qbK hn c8),qfG h0 s.1,(Cg.form h0 c0 s.1).trans hn (Cg.of fun vs _=>s.2 vs)⟩
theorem qfZ{M n c d:Int}(h0:0 < M)(h1:M < 10 ^ 60)(hn:n=1\/n=2)(c0:0<=c)(d0:0<=d)(c8:c + d<=8){F G:List My.Tm}(f:Fo M (bN n c) F)(g:Fo M (bN n d) G):∃ H,qcx [.int M,fD F,fD G]=some (fD H)/\Nf M (bN n (c + d)) H/\Cg M n (fun vs=>ev vs H) (fun vs=>ev vs F * ev vs G):=by
 have s:=qcs (qhN hn) g.k.bx (Fk.nil _) f.k.bx
 have v:=ql9 h0 h1 f g (qhN hn) (by rw[qfj hn]; exact qbK hn c8)
 rw[qfj hn] at s
 refine⟨_,v,qfG h0 s.1,(Cg.form h0 (by omega) s.1).trans hn (Cg.of fun vs hv=>?_)⟩
 have:=qbO (c:=c) hn
 rw[s.2 vs (by omega),qbN,Int.zero_add]
theorem qcw{M n c:Int}(h0:0 < M)(hn:n=1\/n=2):∃ H,qbc [.int M,.int n,.int c]=some (fD H)/\Nf M (bN n 0) H/\Cg M n (fun vs=>ev vs H) (fun _=>c):=by
 have hf:=qds (M:=M) (cs:=[(bN n 0,c)]) h0 (by simp[-zan,-zam,qm,qG])
 refine⟨My.qaw M (qT [(bN n 0,c)]),qax ?_,qfG h0 (qgA hn c),(Cg.form h0 (zby _) (qgA hn c)).trans hn (Cg.of fun vs hv=>qfX hn hv c)⟩
 rcases hn with rfl | rfl
 ·have ek:asT (.tup [.int 0])=some [zao 0]:=rfl
  have e2:([(bN 1 0,c)]:List My.Tm).map kD=[([zao 0],.int c)]:=rfl
  rw[e2] at hf
  simp_all[qbg,qz,ek,hf,fD]
 ·have ek:asT (.tup [.int 0,.int 0])=some [zao 0,zao 0]:=rfl
  have e2:([(bN 2 0,c)]:List My.Tm).map kD=[([zao 0,zao 0],.int c)]:=rfl
  rw[e2] at hf
  simp_all[qbg,qz,ek,hf,fD]
theorem qkE{M n c a:Int}(h0:0 < M)(h1:M < 10 ^ 60)(hn:n=1\/n=2)(c0:0<=c)(c8:c<=8){F:List My.Tm}(f:Fo M (bN n c) F):∃ H,qaN [.int M,.int n,.tup [.int a,.int 0],fD F]=some (fD H)/\Fo M (bN n c) H/\Cg M n (fun vs=>ev vs H) (fun vs=>a * ev vs F):=by
 obtain⟨A,ea,fa,va⟩:=qcw (M:=M) (n:=n) (c:=a) h0 hn
 obtain⟨Z,eb,fb,vb⟩:=qcw (M:=M) (n:=n) (c:=0) h0 hn
 obtain⟨T,et,ft,vt⟩:=qfZ h0 h1 hn (zby _) c0 (by omega) fa.fo f
 rw[Int.zero_add] at ft
 obtain⟨H,eh,fh,vh⟩:=qjj h0 hn c0 c8 ft.fo.k (fb.fo.k.mono (qci hn (zby _) c0))
 refine⟨H,qax ?_,fh.fo,vh.trans hn ?_⟩
 ·simp_all[qaP,qz,at0,at1,ea,eb,et,eh]
 ·have x:=(vt.trans hn (va.mul hn (Cg.of fun _ _=>rfl) (Pol.of c0 f.k) (Pol.const hn a))).add hn vb
  exact x.trans hn (Cg.of fun vs _=>Int.add_zero _)
theorem qgD{M n:Int}(h0:0 < M)(h1:M < 10 ^ 60)(hn:n=1\/n=2){F:List My.Tm}(f:Fo M (bN n 2) F){m:Nat}(hm:m<=2):∃ Ps:List (List My.Tm),qbk [.int M,.int n,fD F,.int (m:Int)]=some (.lst (Ps.map fD))/\Ps.length=m + 1/\∀ (i:Nat) (P:List My.Tm),Ps[i]?=some P->Fo M (bN n (2 * (i:Int))) P/\Cg M n (fun vs=>ev vs P) (fun vs=>ev vs F ^ i):=by
 suffices h:∃ r,qbk [.int M,.int n,fD F,.int (m:Int)]=some r/\∃ Ps:List (List My.Tm),r=.lst (Ps.map fD)/\Ps.length=m + 1/\∀ (i:Nat) (P:List My.Tm),Ps[i]?=some P->Fo M (bN n (2 * (i:Int))) P/\Cg M n (fun vs=>ev vs P) (fun vs=>ev vs F ^ i) by
  obtain⟨r,e1,H,rfl,x⟩:=h; exact⟨H,e1,x⟩
 obtain⟨O,eo,fo,vo⟩:=qcw (M:=M) (n:=n) (c:=1) h0 hn
 refine qdQ ?_
 unfold qbl
 rw[qJ (qZ (d:=.lst [fD O]) (by simp_all[qz,eo]))]
 refine qeY (items:=qai 0 1 m) (by simp_all[qz,qjw (n:=m) (by omega)]) (fun i ρ=>∃ (Ps:List (List My.Tm)) (o:Option D),ρ=[some (.int M),some (.int n),some (fD F),some (.int (m:Int)),some (.lst (Ps.map fD)),o]/\Ps.length=i + 1/\∀ (i:Nat) (P:List My.Tm),Ps[i]?=some P->Fo M (bN n (2 * (i:Int))) P/\Cg M n (fun vs=>ev vs P) (fun vs=>ev vs F ^ i)) ⟨[O],none,by simp_all[qz],rfl,fun i P hP=>?_⟩ ?_ ?_
 ·cases i with
  | zero=>
   have:O=P:=by simpa using hP
   subst this
   exact⟨fo.fo,vo.trans hn (Cg.of fun vs _=>(Int.pow_zero _).symm)⟩
  | succ i=>simp[-zan,-zam,qm,qG] at hP
 ·rintro i x ρ hx ⟨Ps,o,rfl,hlen,hP⟩
  obtain⟨hlt,rfl⟩:=qaR hx
  have hI:(0:Int) + (i:Int) * 1=(i:Int):=by omega
  rw[hI]
  have hi:i < Ps.length:=by omega
  obtain⟨fp,vp⟩:=hP i Ps[i] (zaC hi)
  have hat:atI (Ps.map fD) (i:Int)=some (fD Ps[i]):=qco (by rw[zaz,zaC hi]; rfl)
  obtain⟨Q,eq,fq,vq⟩:=qfZ h0 h1 hn (by omega) (by decide) (by omega) fp f
  have hz:szOk Ps.length=true:=decide_eq_true (by omega)
  refine⟨_,?_,Ps ++ [Q],some (.int (i:Int)),rfl,by simp_all[hlen],fun j P hj=>?_⟩
  ·simp_all[turn,hat,eq,hz]
  ·by_cases hjl:j < Ps.length
   ·rw[zcj hjl] at hj; exact hP j P hj
   ·have hj2:j=Ps.length:=by
     have:=(List.getElem?_eq_some_iff.mp hj).1
     simp[-zan,-zam,qm,qG] at this; omega
    subst hj2
    have:Q=P:=by simpa using hj
    subst this
    rw[hlen]
    refine⟨by rw[show 2 * ((i + 1:Nat):Int)=2 * (i:Int) + 2 by omega]; exact fq.fo,?_⟩
    have x:=vq.trans hn (vp.mul hn (Cg.of fun _ _=>rfl) (Pol.of (by decide) f.k) ((Pol.of (by decide) f.k).pow hn i))
    exact x.trans hn (Cg.of fun vs _=>(zbU _ _).symm)
 ·rintro ρ ⟨Ps,o,rfl,hlen,hP⟩
  rw[qaW] at hlen
  exact⟨_,by simp[-zan,-zam,qm,qG] <;> rfl,Ps,rfl,hlen,hP⟩
structure Fac(M n:Int)(w:List Int->Int)(l:List (List Key × D))(done:List My.Tm):Prop where
 at_:∀ a:List Int,∃ F,(valD l (a.map zao)).getD (.tup [])=fD F/\Nf M (bN n 4) F/\Cg M n (fun vs=>ev vs F) (fun vs=>grp a (w vs) done)
theorem Fac.nil(M n:Int)(w:List Int->Int):Fac M n w [] []:=⟨fun a=>⟨[],rfl,Nf.nil M _,Cg.of fun vs _=>rfl⟩⟩
theorem Fac.put{M n:Int}{w:List Int->Int}{l:List (List Key × D)}{done:List My.Tm}(h:Fac M n w l done){t:My.Tm}{H:List My.Tm}(fh:Nf M (bN n 4) H)(vh:Cg M n (fun vs=>ev vs H) (fun vs=>grp t.1.dropLast (w vs) done + t.2 * w vs ^ (la t.1).toNat)):Fac M n w (putD l (t.1.dropLast.map zao) (fD H)) (done ++ [t]):=⟨fun a=>by
 by_cases e:a=t.1.dropLast
 ·subst e
  refine⟨H,?_,fh,?_⟩
  ·rw[qgU,if_pos rfl]; rfl
  ·rw[show(fun vs=>grp t.1.dropLast (w vs) (done ++ [t]))=fun vs=>grp t.1.dropLast (w vs) done + t.2 * w vs ^ (la t.1).toNat from funext fun vs=>by rw[qgH,if_pos rfl]]
   exact vh
 ·obtain⟨F,e1,f1,v1⟩:=h.at_ a
  refine⟨F,?_,f1,?_⟩
  ·rw[qgU,if_neg (fun z=>e (My.qaL.mp z))]; exact e1
  ·rw[show(fun vs=>grp a (w vs) (done ++ [t]))=fun vs=>grp a (w vs) done from funext fun vs=>by rw[qgH,if_neg (fun z=>e z.symm),Int.add_zero]]
   exact v1⟩
theorem qf2{M n:Int}(h0:0 < M)(h1:M < 10 ^ 60)(hn:n=1\/n=2){I:List My.Tm}(fi:Fo M (bN n 2) I){m:Nat}(hm:m<=2){w:List Int->Int}{l:List (List Key × D)}{outer:List My.Tm}(h:Fac M n w l outer):∃ H,qbm [.int M,fD I,.int (m:Int),.dT l]=some (fD H)/\Nf M (bN n 8) H/\Cg M n (fun vs=>ev vs H) (fun vs=>pw (fun j=>grp [(j:Int)] (w vs) outer) (ev vs I) (m + 1)):=by
 suffices h:∃ r,qbm [.int M,fD I,.int (m:Int),.dT l]=some r/\∃ H,r=fD H/\Nf M (bN n 8) H/\Cg M n (fun vs=>ev vs H) (fun vs=>pw (fun j=>grp [(j:Int)] (w vs) outer) (ev vs I) (m + 1)) by
  obtain⟨r,e1,H,rfl,x⟩:=h; exact⟨H,e1,x⟩
 have hr:qcv [.int (m:Int),.int (-1),.int (-1)]=some (qai (m:Int) (-1) (m + 1)):=by
  rw[qhr (by omega) (by omega) (by decide) (by decide)]
  have e:((m:Int) - (-1)).toNat=m + 1:=by omega
  rw[e]
 have pI:Pol n (fun vs=>ev vs I):=Pol.of (by decide) fi.k
 refine qdQ ?_
 unfold qbo
 rw[qJ (qZ (d:=fD []) (by simp_all[fD]))]
 refine qeY (items:=qai (m:Int) (-1) (m + 1)) (by simp_all[qz,hr]) (fun i ρ=>∃ (T:List My.Tm) (o:Option D),ρ=[some (.int M),some (fD I),some (.int (m:Int)),some (.dT l),some (fD T),o]/\Nf M (bN n (2 + 2 * (i:Int))) T/\i<=m + 1/\Cg M n (fun vs=>ev vs T * ev vs I ^ (m + 1 - i) + pw (fun j=>grp [(j:Int)] (w vs) outer) (ev vs I) (m + 1 - i)) (fun vs=>pw (fun j=>grp [(j:Int)] (w vs) outer) (ev vs I) (m + 1))) ⟨[],none,by simp_all[qz],Nf.nil M _,by omega,Cg.of fun vs _=>?_⟩ ?_ ?_
 ·rw[qbN,Int.zero_mul,Int.zero_add,Nat.sub_zero]
 ·rintro i x ρ hx ⟨T,o,rfl,ft,hi,vt⟩
  obtain⟨hlt,rfl⟩:=qaR hx
  obtain⟨r,hr⟩:∃ r,m + 1 - i=r + 1:=⟨m - i,by omega⟩
  have hI:(m:Int) + (i:Int) * (-1)=(r:Int):=by omega
  rw[hI]
  obtain⟨F,eF,fF,vF⟩:=h.at_ [(r:Int)]
  have lk:=qeE l [(r:Int)]
  obtain⟨Q,eq,fq,vq⟩:=qfZ h0 h1 hn (by omega) (by decide) (by omega) ft.fo fi
  have fq:Nf M (bN n (2 + 2 * ((i + 1:Nat):Int))) Q:=by rw[show 2 + 2 * ((i + 1:Nat):Int)=2 + 2 * (i:Int) + 2 by omega]; exact fq
  obtain⟨T',et,ft',vt'⟩:=qjj h0 hn (by omega) (by omega) fq.fo.k (fF.fo.k.mono (qci hn (by decide) (by omega)))
  refine⟨_,?_,T',some (.int (r:Int)),rfl,ft',by omega,?_⟩
  ·have lk2:qbT (.dT l) (.tup [.int (r:Int)])=some (valD l [zao (r:Int)]):=lk
   have eF2:(valD l [zao (r:Int)]).getD (.tup [])=fD F:=eF
   simp_all[turn,eq,lk2,eF2,et]
  ·have hr2:m + 1 - (i + 1)=r:=by omega
   rw[hr] at vt
   rw[hr2]
   obtain⟨q1,p1,e1⟩:=vt'.trans hn (vq.add hn vF)
   obtain⟨q2,p2,e2⟩:=vt
   refine⟨_,p2.add hn (p1.mul hn (pI.pow hn r)),fun vs hv=>?_⟩
   have a4:=e1 vs hv
   have v:=e2 vs hv
   dsimp only at a4 v ⊢
   have e3:pw (fun j=>grp [(j:Int)] (w vs) outer) (ev vs I) (r + 1)=pw (fun j=>grp [(j:Int)] (w vs) outer) (ev vs I) r + ev vs I ^ r * grp [(r:Int)] (w vs) outer:=rfl
   rw[e3,zbU] at v
   generalize pw (fun j=>grp [(j:Int)] (w vs) outer) (ev vs I) (m + 1)=W at v ⊢
   generalize pw (fun j=>grp [(j:Int)] (w vs) outer) (ev vs I) r=V at v ⊢
   generalize grp [(r:Int)] (w vs) outer=S at v a4
   generalize ev vs I ^ r=p at v ⊢
   have a5:ev vs T'=ev vs T * ev vs I + S + M * q1 vs:=by omega
   rw[a5,Int.mul_add,<- v]
   generalize q1 vs=q
   grind
 ·rintro ρ ⟨T,o,rfl,ft,hi,vt⟩
  rw[qaW] at ft vt
  refine⟨_,by simp[-zan,-zam,qm,qG] <;> rfl,T,rfl,ft.mono (qci hn (by omega) (by omega)),?_⟩
  rw[Nat.sub_self] at vt
  refine Cg.trans hn (Cg.of fun vs _=>?_) vt
  rw[Int.pow_zero,zbm]
  exact(Int.add_zero _).symm
theorem qgQ{M n:Int}(h0:0 < M)(h1:M < 10 ^ 60)(hn:n=1\/n=2){last:Nat}{I:List My.Tm}(fI:Fo M (bN n 2) I){Ps:List (List My.Tm)}(hP:∀ (i:Nat) (P:List My.Tm),Ps[i]?=some P->Fo M (bN n 4) P/\Cg M n (fun vs=>ev vs P) (fun vs=>ev vs I ^ i)){outer:List My.Tm}(ho:∀ t∈outer,cutD (t.1.map D.int) none (some (last:Int))=t.1.dropLast.map D.int/\atI (t.1.map D.int) (last:Int)=some (D.int (la t.1))/\0<=la t.1/\la t.1 < (Ps.length:Int))(hlen:outer.length<=1000){inn:D}{rest:Sv}{R:D->Prop}
  (k:∀ (l:List (List Key × D)) (o7 o8 o9 o10:Option D),Fac M n (fun vs=>ev vs I) l outer->∃ r,rest [some (.int M),some (.int n),some (fD outer),some inn,some (.int (last:Int)),some (.lst (Ps.map fD)),some (.dT l),o7,o8,o9,o10]=some (.rt r)/\R r) :
  ∃ r,sSeq (sFor (qaI (eVar 2)) (qac 2 (qu (qg 7) (qu (qg 8) qaf))) (sSeq (sSet 9 (eSl dSlA (eVar 7) qff (qcg (eVar 4))))
   (sSeq (sSet 10 (qy qaN (qb (eVar 0) (qb (eVar 1) (qb (eTup (qb (eVar 8) (qb (eC (.int 0)) lNil))) (qb (eOp qU (eVar 5) (eOp qU (eVar 7) (eVar 4))) lNil))))))
   (sPut 6 (eVar 9) (qy qc6 (qb (eVar 0) (qb (qbI (eVar 6) (eVar 9) (eTup lNil)) (qb (eVar 10) lNil)))))))) rest [some (.int M),some (.int n),some (fD outer),some inn,some (.int (last:Int)),some (.lst (Ps.map fD)),some (.dT []),none,none,none,none]=some (.rt r)/\R r:=by
 refine qeY (items:=outer.map tmD) (by simp_all[fD]) (fun i ρ=>∃ (l:List (List Key × D)) (o7 o8 o9 o10:Option D),ρ=[some (.int M),some (.int n),some (fD outer),some inn,some (.int (last:Int)),some (.lst (Ps.map fD)),some (.dT l),o7,o8,o9,o10]/\Fac M n (fun vs=>ev vs I) l (outer.take i)/\l.length<=i) ⟨[],none,none,none,none,rfl,by rw[List.take_zero]; exact Fac.nil M n _,zae _⟩ ?_ ?_
 ·rintro i x ρ hx ⟨l,o7,o8,o9,o10,rfl,fc,hl⟩
  rw[zaz] at hx
  obtain⟨t,ht,rfl⟩:=map_some hx
  have hi:=(List.getElem?_eq_some_iff.mp ht).1
  obtain⟨c1,c2,c3,c4⟩:=ho t (za4 ht)
  have ht1:outer.take (i + 1)=outer.take i ++ [t]:=by rw[zbw,ht]; rfl
  obtain⟨e,he⟩:∃ e:Nat,la t.1=(e:Int):=⟨(la t.1).toNat,by omega⟩
  have hel:e < Ps.length:=by omega
  obtain⟨fp,vp⟩:=hP e Ps[e] (zaC hel)
  have hat:atI (Ps.map fD) (e:Int)=some (fD Ps[e]):=qco (by rw[zaz,zaC hel]; rfl)
  obtain⟨H,eh,fh,vh⟩:=qkE (a:=t.2) h0 h1 hn (by decide) (by decide) fp
  obtain⟨F,eF,fF,vF⟩:=fc.at_ t.1.dropLast
  obtain⟨Q,eq,fq,vq⟩:=qjj h0 hn (by decide) (by decide) fF.fo.k fh.k
  have lk:=qeE l t.1.dropLast
  have pt:=qlX (l:=l) t.1.dropLast (fD Q) (by omega)
  have pl:=qj5 l (t.1.dropLast.map zao:List Key) (fD Q)
  rw[he] at c2
  refine⟨_,?_,putD l (t.1.dropLast.map zao) (fD Q),some (tupI t.1),some (.int t.2),some (tupI t.1.dropLast),some (fD H),rfl,?_,by omega⟩
  ·generalize putD l (t.1.dropLast.map zao:List Key) (fD Q)=l' at pt
   have e9:dSlA (tupI t.1) none (some (last:Int))=some (tupI t.1.dropLast):=by unfold tupI; rw[q_slT,c1]
   have e10:qU (tupI t.1) (.int (last:Int))=some (.int (e:Int)):=by unfold tupI; rw[q_itT]; exact c2
   generalize tupI t.1.dropLast=ta at lk pt e9
   generalize valD l (t.1.dropLast.map zao:List Key)=vv at lk eF
   have e8:tmD t=.tup [tupI t.1,.int t.2]:=rfl
   rw[e8]
   generalize tupI t.1=tt at e9 e10
   simp_all[turn,e9,e10,hat,eh,lk,eF,eq,pt]
  ·rw[ht1]
   refine fc.put fq ?_
   have e2:(la t.1).toNat=e:=by omega
   rw[e2]
   exact vq.trans hn (vF.add hn (vh.trans hn (Cg.mul hn (Cg.of fun _ _=>rfl) vp (Pol.of (by decide) fp.k) (Pol.const hn t.2))))
 ·rintro ρ ⟨l,o7,o8,o9,o10,rfl,fc,hl⟩
  rw[zaq,zbq] at fc
  exact k l o7 o8 o9 o10 fc
theorem qmV{M n:Int}(h0:0 < M)(h1:M < 10 ^ 60)(hn:n=1\/n=2){outer I:List My.Tm}(fo:Fo M [2] outer)(fi:Fo M (bN n 2) I){inn:D}(iL:dLen [inn]=some (.int 1))(i0:qU inn (.int 0)=some (fD I)):∃ H,qex [.int M,.int n,fD outer,inn]=some (fD H)/\Nf M (bN n 8) H/\Cg M n (fun vs=>ev vs H) (fun vs=>ev [ev vs I] outer):=by
 suffices h:∃ r,qex [.int M,.int n,fD outer,inn]=some r/\∃ H,r=fD H/\Nf M (bN n 8) H/\Cg M n (fun vs=>ev vs H) (fun vs=>ev [ev vs I] outer) by
  obtain⟨r,e1,H,rfl,x⟩:=h; exact⟨H,e1,x⟩
 have hlen:=fo.k.len (show(2:Int)<=8 by decide)
 have one:∀ t∈outer,∃ x,t.1=[x]/\0<=x/\x<=2:=fun t ht=>by
  rcases(fo.k.bx t ht).shape with⟨a,x,e1,e2,h⟩ | ⟨a,b,x,y,e1,e2,h⟩
  ·cases e1; exact⟨x,e2,h⟩
  ·cases e1
 obtain⟨m,em,m2,hm⟩:=qcq (p:=0) (F:=outer) (by omega) fun t ht=>by
  obtain⟨x,e,a,b⟩:=one t ht
  rw[e]; exact⟨by simp[-zan,-zam,qm,qG],a,b⟩
 obtain⟨Ps,ep,lp,hP⟩:=qgD h0 h1 hn fi m2
 refine qdQ ?_
 unfold qjt
 rw[qJ (qZ (d:=.int 0) (by simp_all[qz,iL]))]
 have em':qaF [fD outer,.int 0]=some (.int (m:Int)):=em
 rw[qJ (qZ (d:=.lst (Ps.map fD)) (by simp_all[qz,i0,em',ep]))]
 rw[qJ (qZ (d:=.dT []) (by simp[-zan,-zam,qm,qG]))]
 refine qgQ (last:=0) h0 h1 hn fi (fun i P hi=>?_) (fun t ht=>?_) (by omega) ?_
 ·have hil:=(List.getElem?_eq_some_iff.mp hi).1
  obtain⟨f,v⟩:=hP i P hi
  exact⟨f.mono (qci hn (by omega) (by omega)),v⟩
 ·obtain⟨x,e,a,b⟩:=one t ht
  have:=hm t ht
  rw[e] at this ⊢
  have z:exA 0 [x]=x:=rfl
  rw[z] at this
  exact⟨rfl,rfl,a,by show x < _; omega⟩
 ·intro l o7 o8 o9 o10 fc
  obtain⟨F,eF,fF,vF⟩:=fc.at_ []
  have lk:=qeE l []
  have lk2:qbT (.dT l) (.tup [])=some (valD l []):=lk
  have eF2:(valD l []).getD (.tup [])=fD F:=eF
  refine⟨fD F,by simp_all[lk2,eF2],F,rfl,fF.mono (qci hn (by decide) (by decide)),vF.trans hn (Cg.of fun vs hv=>?_)⟩
  rw[qiP (d:=2) fo.k.bx]
theorem qng{M n:Int}(h0:0 < M)(h1:M < 10 ^ 60)(hn:n=1\/n=2){outer I J:List My.Tm}(fo:Fo M [2,2] outer)(fi:Fo M (bN n 2) I)(fj:Fo M (bN n 2) J){inn:D}(iL:dLen [inn]=some (.int 2))(i0:qU inn (.int 0)=some (fD I))(i1:qU inn (.int 1)=some (fD J)):∃ H,qex [.int M,.int n,fD outer,inn]=some (fD H)/\Nf M (bN n 8) H/\Cg M n (fun vs=>ev vs H) (fun vs=>ev [ev vs I,ev vs J] outer):=by
 suffices h:∃ r,qex [.int M,.int n,fD outer,inn]=some r/\∃ H,r=fD H/\Nf M (bN n 8) H/\Cg M n (fun vs=>ev vs H) (fun vs=>ev [ev vs I,ev vs J] outer) by
  obtain⟨r,e1,H,rfl,x⟩:=h; exact⟨H,e1,x⟩
 have hlen:=fo.k.len (show(2:Int)<=8/\(2:Int)<=8 by decide)
 have two:∀ t∈outer,∃ x y,t.1=[x,y]/\(0<=x/\x<=2)/\0<=y/\y<=2:=fun t ht=>by
  rcases(fo.k.bx t ht).shape with⟨a,x,e1,e2,h⟩ | ⟨a,b,x,y,e1,e2,h⟩
  ·cases e1
  ·cases e1; exact⟨x,y,e2,h⟩
 obtain⟨m,em,m2,hm⟩:=qcq (p:=1) (F:=outer) (by omega) fun t ht=>by
  obtain⟨x,y,e,a,b⟩:=two t ht
  rw[e]; exact⟨by simp[-zan,-zam,qm,qG],b.1,b.2⟩
 obtain⟨m0,em0,m02,hm0⟩:=qcq (p:=0) (F:=outer) (by omega) fun t ht=>by
  obtain⟨x,y,e,a,b⟩:=two t ht
  rw[e]; exact⟨by simp[-zan,-zam,qm,qG],a.1,a.2⟩
 obtain⟨Ps,ep,lp,hP⟩:=qgD h0 h1 hn fj m2
 refine qdQ ?_
 unfold qjt
 rw[qJ (qZ (d:=.int 1) (by simp_all[qz,iL]))]
 have em':qaF [fD outer,.int 1]=some (.int (m:Int)):=em
 have em0':qaF [fD outer,.int 0]=some (.int (m0:Int)):=em0
 rw[qJ (qZ (d:=.lst (Ps.map fD)) (by simp_all[qz,i1,em',ep]))]
 rw[qJ (qZ (d:=.dT []) (by simp[-zan,-zam,qm,qG]))]
 refine qgQ (last:=1) h0 h1 hn fj (fun i P hi=>?_) (fun t ht=>?_) (by omega) ?_
 ·have hil:=(List.getElem?_eq_some_iff.mp hi).1
  obtain⟨f,v⟩:=hP i P hi
  exact⟨f.mono (qci hn (by omega) (by omega)),v⟩
 ·obtain⟨x,y,e,a,b⟩:=two t ht
  have:=hm t ht
  rw[e] at this ⊢
  have z:exA 1 [x,y]=y:=rfl
  rw[z] at this
  exact⟨rfl,rfl,b.1,by show y < _; omega⟩
 ·intro l o7 o8 o9 o10 fc
  obtain⟨H,eH,fH,vH⟩:=qf2 h0 h1 hn fi m02 fc
  refine⟨fD H,?_,H,rfl,fH,vH.trans hn (Cg.of fun vs hv=>?_)⟩
  ·clear vH fH fc
   generalize fD H=rH at eH ⊢
   generalize (D.dT l)=dl at eH ⊢
   generalize fD outer=do_ at em0' ⊢
   generalize fD I=di at eH i0 ⊢
   generalize D.lst (Ps.map fD)=dp at ⊢
   have e4:(bOf (eOp dEq (eVar 4) (eC (.int 0)))) [some (.int M),some (.int n),some do_,some inn,some (.int ((1:Nat):Int)),some dp,some dl,o7,o8,o9,o10]=some false:=by simp[-zan,-zam,qm,qG]
   rw[qJ ((if_f e4).trans q_nx)]
   refine rt_v ?_
   have e3:(eOp qU (eVar 3) (eC (.int 0))) [some (.int M),some (.int n),some do_,some inn,some (.int ((1:Nat):Int)),some dp,some dl,o7,o8,o9,o10]=some di:=by simp_all[i0]
   rw[q_call,q_lcons,q_lcons,e3,q_lcons,q_call,q_lcons,q_lcons]
   simp_all[em0',eH]
  ·rw[qfB (d:=2) (e:=2) fun t ht=>⟨fo.k.bx t ht,by
    obtain⟨x,y,e,a,b⟩:=two t ht
    refine⟨x,y,e,?_⟩
    have:=hm0 t ht
    rw[e] at this
    exact this⟩]
theorem rng1(e:Int)(h:qc4 e=true):qM [.int e]=some (qai 0 1 e.toNat):=by
 show(if qc4 e then _ else _)=_
 rw[if_pos h]
theorem qjQ:∀ {d e k j:List Int},Bx d k->Bx e j->d.length=e.length->∀ {o0 o1 o2 o4 o6 o7:Option D},(qy qb7 (qb (qdr [none,some 3,some 5] (lR qM (qb (qy dLen (qb (eVar 3) lNil)) lNil)) (qg 0) bYes (eOp qal (eOp qU (eVar 1) (eVar 0)) (eOp qU (eVar 2) (eVar 0)))) lNil)) [o0,o1,o2,some (tupI k),o4,some (tupI j),o6,o7]=some (tupI (addE k j))
 | [_],[_],[x],[y],_,_,_=>by
  have r:qM [.int 1]=some [.int 0]:=rng1 1 (by decide)
  have s:szOk 1=true:=by decide
  simp_all[tupI,r,inS,qb2,at0,addE,s]
 | [_,_],[_,_],[x,a],[y,b],_,_,_=>by
  have r:qM [.int 2]=some [.int 0,.int 1]:=rng1 2 (by decide)
  have s:szOk 2=true:=by decide
  simp_all[tupI,r,inS,qb2,at0,at1,addE,s]
theorem qer{M:Int}(h1:M < 10 ^ 60){d e:List Int}{F G:List My.Tm}(f:Fk d F)(fb:∀ t∈F,-(10 ^ 250) < t.2/\t.2 < 10 ^ 250)(g:Fo M e G)(hl:d.length=e.length)(lw:Low (addE d e)):qR [.lst (F.map tmD),fD G]=some (.dT ((qba F G []).map kD)):=by
 refine qax ?_
 have p60:(10:Int) ^ 60 < 10 ^ 250:=by decide +kernel
 have all:∀ i,Fk (addE d e) (qba (F.take i) G []):=fun i=>(qcs hl g.k.bx (Fk.nil _) fun t ht=>f.bx t (List.take_subset _ _ ht)).1
 unfold qaO fD
 rw[qJ (qZ (d:=.dT []) (by simp[-zan,-zam,qm,qG]))]
 refine qcC (items:=F.map tmD) (by simp_all[qz]) (fun i ρ=>∃ o3 o4 o5 o6 o7:Option D,ρ=[some (.lst (F.map tmD)),some (.tup (G.map tmD)),some (.dT ((qba (F.take i) G []).map kD)),o3,o4,o5,o6,o7]) ⟨none,none,none,none,none,by simp_all[qz,qba]⟩ ?_ ?_
 ·rintro i x ρ hx ⟨o3,o4,o5,o6,o7,rfl⟩
  rw[zaz] at hx
  obtain⟨t,ht,rfl⟩:=map_some hx
  have htm:=za4 ht
  have bt:=f.bx t htm
  have ct:=fb t htm
  have ht1:F.take (i + 1)=F.take i ++ [t]:=by rw[zbw,ht]; rfl
  have al:=all i
  rw[ht1,qfl]
  generalize qba (F.take i) G []=T at al ⊢
  have aj:∀ j,Fk (addE d e) (sumT T ((G.take j).map (mulT t))):=fun j=>(qbs al (qeH bt (fun u hu=>g.k.bx u (List.take_subset _ _ hu)) hl)).1
  obtain⟨ρ',er,p5,p6,p7,rfl⟩:=qbM (g:=qac 2 (qu (qg 5) (qu (qg 6) qaf))) (b:=(sSeq (sSet 7 (qy qb7 (qb (qdr [none,some 3,some 5] (lR qM (qb (qy dLen (qb (eVar 3) lNil)) lNil)) (qg 0) bYes (eOp qal (eOp qU (eVar 1) (eVar 0)) (eOp qU (eVar 2) (eVar 0)))) lNil)))
   (sPut 2 (eVar 7) (eOp qal (qbI (eVar 2) (eVar 7) (eC (.int 0))) (eOp qaK (eVar 4) (eVar 6)))))) (items:=G.map tmD) (ρ:=[some (.lst (F.map tmD)),some (.tup (G.map tmD)),some (.dT (T.map kD)),some (tupI t.1),some (.int t.2),o5,o6,o7])
   (fun j ρ=>∃ o5 o6 o7:Option D,ρ=[some (.lst (F.map tmD)),some (.tup (G.map tmD)),some (.dT ((sumT T ((G.take j).map (mulT t))).map kD)),some (tupI t.1),some (.int t.2),o5,o6,o7]) ⟨o5,o6,o7,rfl⟩ (by
   rintro j y ρ hy ⟨o5,o6,o7,rfl⟩
   rw[zaz] at hy
   obtain⟨u,hu,rfl⟩:=map_some hy
   have hum:=za4 hu
   have cu:=g.cb u hum
   have hu1:(G.take (j + 1)).map (mulT t)=(G.take j).map (mulT t) ++ [mulT t u]:=by rw[zbw,hu]; simp[-zan,-zam,qm,qG]
   have mu:qaK (.int t.2) (.int u.2)=some (.int (t.2 * u.2)):=qd7 (by omega) (by omega) (by omega) (by omega)
   have ap:=qgr (s:=2) (i:=7) (X:=eOp qaK (eVar 4) (eVar 6)) (ρ:=[some (.lst (F.map tmD)),some (.tup (G.map tmD)),some (.dT ((sumT T ((G.take j).map (mulT t))).map kD)),some (tupI t.1),some (.int t.2),some (tupI u.1),some (.int u.2),some (tupI (addE t.1 u.1))]) (k:=addE t.1 u.1) (x:=t.2 * u.2) rfl rfl (by simp_all[mu]) (by have:=(aj j).len lw; omega)
   refine⟨_,?_,some (tupI u.1),some (.int u.2),some (tupI (addE t.1 u.1)),by rw[hu1,qcN]⟩
   show(qac 2 (qu (qg 5) (qu (qg 6) qaf)) (tmD u) _).bind _=_
   have e1:qac 2 (qu (qg 5) (qu (qg 6) qaf)) (tmD u) [some (.lst (F.map tmD)),some (.tup (G.map tmD)),some (.dT ((sumT T ((G.take j).map (mulT t))).map kD)),some (tupI t.1),some (.int t.2),o5,o6,o7]=some [some (.lst (F.map tmD)),some (.tup (G.map tmD)),some (.dT ((sumT T ((G.take j).map (mulT t))).map kD)),some (tupI t.1),some (.int t.2),some (tupI u.1),some (.int u.2),o7]:=by simp_all[tmD]
   rw[e1,qm,qJ (qZ (d:=tupI (addE t.1 u.1)) (qjQ bt (g.k.bx u hum) hl))]
   exact ap)
  rw[zaq,zbq] at er
  refine⟨_,?_,some (tupI t.1),some (.int t.2),p5,p6,p7,rfl⟩
  show(qac 2 (qu (qg 3) (qu (qg 4) qaf)) (tmD t) _).bind _=_
  have e1:qac 2 (qu (qg 3) (qu (qg 4) qaf)) (tmD t) [some (.lst (F.map tmD)),some (.tup (G.map tmD)),some (.dT (T.map kD)),o3,o4,o5,o6,o7]=some [some (.lst (F.map tmD)),some (.tup (G.map tmD)),some (.dT (T.map kD)),some (tupI t.1),some (.int t.2),o5,o6,o7]:=by simp_all[tmD]
  rw[e1,qm,q_for]
  have e2:qaI (eVar 1) [some (.lst (F.map tmD)),some (.tup (G.map tmD)),some (.dT (T.map kD)),some (tupI t.1),some (.int t.2),o5,o6,o7]=some (G.map tmD):=by simp[-zan,-zam,qm,qG]
  rw[e2,qm]
  exact er
 ·rintro ρ ⟨o3,o4,o5,o6,o7,rfl⟩
  rw[zaq,zbq]
  simp[-zan,-zam,qm,qG]
noncomputable def l1(F:List My.Tm):Nat:=(F.map fun t=>t.2.natAbs).sum
theorem qaZ(t:My.Tm)(F:List My.Tm):l1 (t :: F)=t.2.natAbs + l1 F:=by unfold l1; rw[zaf,List.sum_cons]
theorem qjm(t:My.Tm):∀ F:List My.Tm,l1 (F ++ [t])=l1 F + t.2.natAbs
 | []=>by simp_all[l1]
 | u :: F=>by rw[List.cons_append,qaZ,qaZ,qjm t F]; omega
theorem qkW{t:My.Tm}:∀ {F:List My.Tm},t∈F->t.2.natAbs<=l1 F
 | u :: F,h=>by
  rw[qaZ]
  rcases List.mem_cons.mp h with z | z
  ·rw[z]; omega
  ·have:=qkW z; omega
theorem qn1{B:Nat}:∀ {F:List My.Tm},(∀ t∈F,t.2.natAbs<=B)->l1 F<=F.length * B
 | [],_=>zau _
 | t :: F,h=>by
  rw[qaZ,zaW,Nat.succ_mul]
  have:=h t (zav ..)
  have:=qn1 (F:=F) fun u hu=>h u (zaw _ hu)
  omega
theorem qkP{k:List Int}{c:Int}:∀ {F:List My.Tm},(F.map (·.1)).Nodup->k∈F.map (·.1)->l1 (F.map fun t=>if t.1=k then (t.1,c) else t) + (cf F k).natAbs=l1 F + c.natAbs
 | [],_,h=>nomatch h
 | t :: F,nd,h=>by
  rw[zaf] at nd
  have nd:=List.nodup_cons.mp nd
  rw[zaf,qaZ,qaZ,qcu]
  by_cases e:t.1=k
  ·subst e
   have e2:(F.map fun u=>if u.1=t.1 then (u.1,c) else u)=F:=by
    conv=>rhs; rw[<- List.map_id F]
    refine List.map_congr_left fun u hu=>?_
    rw[if_neg (fun z=>nd.1 (by rw[<- z]; exact List.mem_map_of_mem (f:=(·.1)) hu))]
    rfl
   rw[if_pos rfl,e2,if_pos rfl]
   dsimp only
   omega
  ·rw[if_neg e,if_neg e]
   have:=qkP (c:=c) nd.2 (by
    rcases List.mem_cons.mp (show k∈t.1 :: F.map (·.1) from h) with z | z
    ·exact absurd z.symm e
    ·exact z)
   omega
theorem qol{T:List My.Tm}(nd:(T.map (·.1)).Nodup)(t:My.Tm):l1 (acc T t)<=l1 T + t.2.natAbs:=by
 unfold acc
 by_cases h:t.1∈T.map (·.1)
 ·have e:My.put T t.1 (cf T t.1 + t.2)=T.map fun u=>if u.1=t.1 then (u.1,cf T t.1 + t.2) else u:=by
   unfold My.put
   rw[if_pos]
   obtain⟨u,hu,e⟩:=List.mem_map.mp h
   exact List.any_eq_true.mpr ⟨u,hu,decide_eq_true e⟩
  have a:=qkP (c:=cf T t.1 + t.2) nd h
  have b:=Int.natAbs_add_le (cf T t.1) t.2
  rw[<- e] at a
  generalize (cf T t.1 + t.2).natAbs=p at a b
  generalize (cf T t.1).natAbs=q at a b
  generalize t.2.natAbs=r at b ⊢
  omega
 ·rw[qc3 h,qjm,qfo h,Int.zero_add]
  exact zae _
theorem qk9{d:List Int}:∀ {G T:List My.Tm},Fk d T->(∀ t∈G,Bx d t.1)->l1 (sumT T G)<=l1 T + l1 G
 | [],T,_,_=>Nat.le_add_right _ _
 | t :: G,T,h,g=>by
  show l1 (sumT (acc T t) G)<=_
  have:=qk9 (T:=acc T t) (h.put (g t (zav ..))) fun u hu=>g u (zaw _ hu)
  have:=qol h.nd t
  rw[qaZ]; omega
theorem qiD(t:My.Tm):∀ G:List My.Tm,l1 (G.map (mulT t))=t.2.natAbs * l1 G
 | []=>(Nat.mul_zero _).symm
 | u :: G=>by
  rw[zaf,qaZ,qaZ,qiD t G,Nat.mul_add]
  show(t.2 * u.2).natAbs + _=_
  rw[Int.natAbs_mul]
theorem qhY{d e:List Int}(hl:d.length=e.length){G:List My.Tm}(g:∀ u∈G,Bx e u.1):∀ {F T:List My.Tm},Fk (addE d e) T->(∀ t∈F,Bx d t.1)->l1 (qba F G T)<=l1 T + l1 F * l1 G
 | [],T,_,_=>Nat.le_add_right _ _
 | t :: F,T,h,f=>by
  have bt:=f t (zav ..)
  have s:=qbs h (qeH bt g hl)
  have a:=qk9 h (qeH bt g hl)
  have ih:=qhY hl g (F:=F) s.1 fun u hu=>f u (zaw _ hu)
  show l1 (qba F G (sumT T (G.map (mulT t))))<=_
  rw[qiD] at a
  rw[qaZ,Nat.add_mul]
  omega
structure Mk(n:Int)(i:Nat)(X:List My.Tm):Prop where
 k:Fk (bN n (2 * (i:Int))) X
 b:l1 X<=10 ^ 60 * (81 * 10 ^ 60) ^ i
theorem Mk.lt{n:Int}{i:Nat}{X:List My.Tm}(h:Mk n i X)(hi:i<=3):∀ t∈X,-(10 ^ 250) < t.2/\t.2 < 10 ^ 250:=fun t ht=>by
 have a:=qkW ht
 have b:=h.b
 have c:10 ^ 60 * (81 * 10 ^ 60) ^ i < 10 ^ 250:=by
  have:i=0\/i=1\/i=2\/i=3:=by omega
  rcases this with rfl | rfl | rfl | rfl <;> decide +kernel
 have d:((10 ^ 250:Nat):Int)=10 ^ 250:=by decide +kernel
 have e:(t.2.natAbs:Int) < ((10 ^ 250:Nat):Int):=Int.ofNat_lt.mpr (by omega)
 rw[d] at e
 omega
theorem qmD{M n:Int}(h1:M < 10 ^ 60)(hn:n=1\/n=2){X G:List My.Tm}{i:Nat}(hX:Mk n i X)(hi:i<=3)(g:Fo M (bN n 2) G):∃ Y,(qR [.lst (X.map tmD),fD G]).bind qca=some (.lst (Y.map tmD))/\Mk n (i + 1) Y/\∀ vs:List Int,(vs.length:Int)=n->ev vs Y=ev vs X * ev vs G:=by
 have v:=qer h1 hX.k (hX.lt hi) g (qhN hn) (by rw[qfj hn]; exact qbK hn (by omega))
 have s:=qcs (qhN hn) g.k.bx (Fk.nil _) hX.k.bx
 have lp:=qhY (qhN hn) g.k.bx (Fk.nil _) hX.k.bx
 rw[qfj hn] at s
 refine⟨qba X G [],by rw[v,qm,qkD],⟨by rw[show 2 * ((i + 1:Nat):Int)=2 * (i:Int) + 2 by omega]; exact s.1,?_⟩,fun vs hv=>?_⟩
 ·have lg:=g.k.len (qbK hn (by decide))
  have bg:l1 G<=81 * 10 ^ 60:=by
   have a:=qn1 (F:=G) (B:=10 ^ 60) fun t ht=>by
    have:=g.cb t ht
    have d:((10 ^ 60:Nat):Int)=10 ^ 60:=by decide +kernel
    have:(t.2.natAbs:Int)<=((10 ^ 60:Nat):Int):=by rw[d]; omega
    exact Int.ofNat_le.mp this
   exact za6 a (Nat.mul_le_mul_right _ lg)
  have:=Nat.mul_le_mul hX.b bg
  rw[Nat.mul_assoc,<- Nat.pow_succ] at this
  have z:l1 ([]:List My.Tm)=0:=rfl
  omega
 ·have:=qbO (c:=2 * (i:Int)) hn
  rw[s.2 vs (by omega),qbN,Int.zero_add]
theorem qkm{M n:Int}(h1:M < 10 ^ 60)(hn:n=1\/n=2){G:List My.Tm}(g:Fo M (bN n 2) G){a0 a1 a2 a3 a4 a5 a10 a11:Option D}{x:Int}{e i:Nat}(hie:i + e<=4){X:List My.Tm}(hX:Mk n i X)(o9:Option D):∃ (Y:List My.Tm) (p9:Option D),forD (qg 9) (sSet 6 (qdC qca (qy qR (qb (eVar 6) (qb (eVar 7) lNil))))) (qai 0 1 e) [a0,a1,a2,a3,a4,a5,some (.lst (X.map tmD)),some (fD G),some (.int x),o9,a10,a11]=some (.nx [a0,a1,a2,a3,a4,a5,some (.lst (Y.map tmD)),some (fD G),some (.int x),p9,a10,a11])/\Mk n (i + e) Y/\∀ vs:List Int,(vs.length:Int)=n->ev vs Y=ev vs X * ev vs G ^ e:=by
 obtain⟨ρ',er,Y,p9,rfl,hY,eY⟩:=qbM (g:=qg 9) (b:=sSet 6 (qdC qca (qy qR (qb (eVar 6) (qb (eVar 7) lNil))))) (items:=qai 0 1 e) (ρ:=[a0,a1,a2,a3,a4,a5,some (.lst (X.map tmD)),some (fD G),some (.int x),o9,a10,a11]) (fun j ρ=>∃ (Y:List My.Tm) (p9:Option D),ρ=[a0,a1,a2,a3,a4,a5,some (.lst (Y.map tmD)),some (fD G),some (.int x),p9,a10,a11]/\Mk n (i + j) Y/\∀ vs:List Int,(vs.length:Int)=n->ev vs Y=ev vs X * ev vs G ^ j) ⟨X,o9,rfl,hX,fun vs _=>by rw[Int.pow_zero,zbm]⟩ (by
  rintro j d ρ hd ⟨Y,p9,rfl,hY,eY⟩
  obtain⟨hj,rfl⟩:=qaR hd
  obtain⟨Z,eZ,hZ,vZ⟩:=qmD h1 hn hY (by omega) g
  refine⟨_,?_,Z,some (.int (0 + (j:Int) * 1)),rfl,hZ,fun vs hv=>by rw[vZ vs hv,eY vs hv,zbU,zbG]⟩
  have e6:(qdC qca (qy qR (qb (eVar 6) (qb (eVar 7) lNil)))) [a0,a1,a2,a3,a4,a5,some (.lst (Y.map tmD)),some (fD G),some (.int x),some (.int (0 + (j:Int) * 1)),a10,a11]=some (.lst (Z.map tmD)):=eZ
  show(qg 9 _ _).bind _=_
  show sSet 6 _ [a0,a1,a2,a3,a4,a5,some (.lst (Y.map tmD)),some (fD G),some (.int x),some (.int (0 + (j:Int) * 1)),a10,a11]=_
  exact qZ e6)
 rw[qaW] at hY eY
 exact⟨Y,p9,er,hY,eY⟩
theorem qcc:∀ {xs ys:List D},xs.length=ys.length->(zipL xs ys).length=ys.length
 | [],[],_=>rfl
 | [],_ :: _,h=>by simp[-zan,-zam,qm,qG] at h
 | _ :: _,[],h=>by simp[-zan,-zam,qm,qG] at h
 | x :: xs,y :: ys,h=>by rw[zipL,zaW,zaW,qcc (by simpa using h)]
theorem qgI{w e:Int}:∀ {i:Nat} {k ws:List Int},k[i]?=some e->ws[i]?=some w->mon (k.take (i + 1)) ws=mon (k.take i) ws * w ^ e.toNat
 | 0,a :: k,b :: ws,h,g=>by
  have:a=e:=by simpa using h
  subst this
  have:b=w:=by simpa using g
  subst this
  show b ^ a.toNat * mon [] ws=1 * _
  rw[show mon [] ws=1 from by cases ws <;> rfl,zbm,Int.one_mul]
 | i + 1,a :: k,b :: ws,h,g=>by
  have ih:=qgI (i:=i) (k:=k) (ws:=ws) (by simpa using h) (by simpa using g)
  rw[List.take_succ_cons,List.take_succ_cons]
  show b ^ a.toNat * mon (k.take (i + 1)) ws=b ^ a.toNat * mon (k.take i) ws * _
  rw[ih,zbG]
 | 0,[],_,h,_=>by simp[-zan,-zam,qm,qG] at h
 | 0,_ :: _,[],_,g=>by simp[-zan,-zam,qm,qG] at g
 | i + 1,[],_,h,_=>by simp[-zan,-zam,qm,qG] at h
 | i + 1,_ :: _,[],_,g=>by simp[-zan,-zam,qm,qG] at g
theorem qkv{M n:Int}(h1:M < 10 ^ 60)(hn:n=1\/n=2){Is:List (List My.Tm)}(hI:∀ I∈Is,Fo M (bN n 2) I){k:List Int}(hk:∀ e∈k,0<=e/\e<=2)(hl:Is.length=k.length)(hl2:k.length<=2){a0 a1 a2 a3 a4 a5 a10 a11:Option D}{X:List My.Tm}(hX:Mk n 0 X)(o7 o8 o9:Option D):∃ (Y:List My.Tm) (j:Nat) (p7 p8 p9:Option D),forD (qac 2 (qu (qg 7) (qu (qg 8) qaf))) (sFor (lR qM (qb (eVar 8) lNil)) (qg 9) (sSet 6 (qdC qca (qy qR (qb (eVar 6) (qb (eVar 7) lNil)))))) (zipL (Is.map fD) (k.map .int)) [a0,a1,a2,a3,a4,a5,some (.lst (X.map tmD)),o7,o8,o9,a10,a11]=some (.nx [a0,a1,a2,a3,a4,a5,some (.lst (Y.map tmD)),p7,p8,p9,a10,a11])/\Mk n j Y/\j<=4/\∀ vs:List Int,(vs.length:Int)=n->ev vs Y=ev vs X * mon k (Is.map (ev vs)):=by
 obtain⟨ρ',er,Y,j,p7,p8,p9,rfl,hY,hj,eY⟩:=qbM (g:=qac 2 (qu (qg 7) (qu (qg 8) qaf))) (b:=sFor (lR qM (qb (eVar 8) lNil)) (qg 9) (sSet 6 (qdC qca (qy qR (qb (eVar 6) (qb (eVar 7) lNil)))))) (items:=zipL (Is.map fD) (k.map .int)) (ρ:=[a0,a1,a2,a3,a4,a5,some (.lst (X.map tmD)),o7,o8,o9,a10,a11]) (fun i ρ=>∃ (Y:List My.Tm) (j:Nat) (p7 p8 p9:Option D),ρ=[a0,a1,a2,a3,a4,a5,some (.lst (Y.map tmD)),p7,p8,p9,a10,a11]/\Mk n j Y/\j<=2 * i/\∀ vs:List Int,(vs.length:Int)=n->ev vs Y=ev vs X * mon (k.take i) (Is.map (ev vs))) ⟨X,0,o7,o8,o9,rfl,hX,zau _,fun vs _=>by rw[List.take_zero,show mon [] (Is.map (ev vs))=1 from by cases Is.map (ev vs) <;> rfl,zbm]⟩ (by
  rintro i d ρ hd ⟨Y,j,p7,p8,p9,rfl,hY,hj,eY⟩
  obtain⟨x,y,hx,hy,rfl⟩:=qet hd
  rw[zaz] at hx hy
  obtain⟨G,hG,rfl⟩:=map_some hx
  obtain⟨e,he,rfl⟩:=map_some hy
  have hi:=(List.getElem?_eq_some_iff.mp he).1
  obtain⟨e0,e2⟩:=hk e (za4 he)
  obtain⟨Z,q9,eZ,hZ,vZ⟩:=qkm (a0:=a0) (a1:=a1) (a2:=a2) (a3:=a3) (a4:=a4) (a5:=a5) (a10:=a10) (a11:=a11) (x:=e) (e:=e.toNat) h1 hn (hI G (za4 hG)) (by omega) hY p9
  refine⟨_,?_,Z,j + e.toNat,some (fD G),some (.int e),q9,rfl,hZ,by omega,fun vs hv=>by rw[vZ vs hv,eY vs hv,qgI he (by rw[zaz,hG]; rfl),zbG]⟩
  show(qac 2 (qu (qg 7) (qu (qg 8) qaf)) (.tup [fD G,.int e]) _).bind _=_
  have e1:qac 2 (qu (qg 7) (qu (qg 8) qaf)) (.tup [fD G,.int e]) [a0,a1,a2,a3,a4,a5,some (.lst (Y.map tmD)),p7,p8,p9,a10,a11]=some [a0,a1,a2,a3,a4,a5,some (.lst (Y.map tmD)),some (fD G),some (.int e),p9,a10,a11]:=by simp[-zan,-zam,qm,qG]
  rw[e1,qm,q_for]
  have e2:(lR qM (qb (eVar 8) lNil)) [a0,a1,a2,a3,a4,a5,some (.lst (Y.map tmD)),some (fD G),some (.int e),p9,a10,a11]=some (qai 0 1 e.toNat):=by
   have:=rng1 e (by simp only[qc4,zaY,decide_eq_true_eq]; omega)
   simp_all[this]
  rw[e2,qm]
  exact eZ)
 have hz:(zipL (Is.map fD) (k.map .int)).length=k.length:=by rw[qcc (by rw[zaq,zaq,hl]),zaq]
 rw[hz] at hj eY
 rw[zbq] at eY
 exact⟨Y,j,p7,p8,p9,er,hY,by omega,eY⟩
theorem qi3{M n m:Int}(h1:M < 10 ^ 60)(hn:n=1\/n=2)(hm:m=1\/m=2){outer:List My.Tm}(fo:Fo M (bN m 2) outer){Is:List (List My.Tm)}(hI:∀ I∈Is,Fo M (bN n 2) I)(hl:(Is.length:Int)=m):∃ cs,qch [.int n,fD outer,.lst (Is.map fD)]=some (.dT (cs.map kD))/\Fk (bN n 8) cs/\∀ vs:List Int,(vs.length:Int)=n->ev vs cs=ev (Is.map (ev vs)) outer:=by
 suffices h:∃ r,qch [.int n,fD outer,.lst (Is.map fD)]=some r/\∃ cs:List My.Tm,r=.dT (cs.map kD)/\Fk (bN n 8) cs/\∀ vs:List Int,(vs.length:Int)=n->ev vs cs=ev (Is.map (ev vs)) outer by
  obtain⟨r,e1,H,rfl,x⟩:=h; exact⟨H,e1,x⟩
 have lw:=qbK (c:=8) hn (zby _)
 refine qdQ ?_
 unfold qcl
 rw[qJ (qZ (d:=.dT []) (by simp[-zan,-zam,qm,qG]))]
 refine qeY (items:=outer.map tmD) (by simp_all[qz,fD]) (fun i ρ=>∃ (cs:List My.Tm) (o4 o5 o6 o7 o8 o9 o10 o11:Option D),ρ=[some (.int n),some (fD outer),some (.lst (Is.map fD)),some (.dT (cs.map kD)),o4,o5,o6,o7,o8,o9,o10,o11]/\Fk (bN n 8) cs/\∀ vs:List Int,(vs.length:Int)=n->ev vs cs=ev (Is.map (ev vs)) (outer.take i)) ⟨[],none,none,none,none,none,none,none,none,by simp_all[qz],Fk.nil _,fun vs _=>rfl⟩ ?_ ?_
 ·rintro i d ρ hd ⟨cs,o4,o5,o6,o7,o8,o9,o10,o11,rfl,fc,vc⟩
  rw[zaz] at hd
  obtain⟨t,ht,rfl⟩:=map_some hd
  have htm:=za4 ht
  have ht1:outer.take (i + 1)=outer.take i ++ [t]:=by rw[zbw,ht]; rfl
  have ct:=fo.cb t htm
  have tl:(t.1.length:Int)=m/\∀ e∈t.1,0<=e/\e<=2:=by
   have b:=fo.k.bx t htm
   rcases hm with rfl | rfl
   ·rcases b.shape with⟨a,x,e1,e2,h⟩ | ⟨a,b,x,y,e1,e2,h⟩
    ·cases e1; rw[e2]; exact⟨rfl,fun e he=>by rw[List.mem_singleton.mp he]; exact h⟩
    ·cases e1
   ·rcases b.shape with⟨a,x,e1,e2,h⟩ | ⟨a,b,x,y,e1,e2,h⟩
    ·cases e1
    ·cases e1; rw[e2]; exact⟨rfl,fun e he=>by
      rcases List.mem_cons.mp he with z | z
      ·rw[z]; exact h.1
      ·rw[List.mem_singleton.mp z]; exact h.2⟩
  have hX:Mk n 0 [(bN n 0,t.2)]:=⟨by simpa using qgA hn t.2,by
   have d:((10 ^ 60:Nat):Int)=10 ^ 60:=by decide +kernel
   have:(t.2.natAbs:Int)<=((10 ^ 60:Nat):Int):=by rw[d]; omega
   have:=Int.ofNat_le.mp this
   rw[qaZ,Nat.pow_zero,Nat.mul_one]
   exact this⟩
  obtain⟨Y,j,p7,p8,p9,ez,hY,hj,vY⟩:=qkv (a0:=some (.int n)) (a1:=some (fD outer)) (a2:=some (.lst (Is.map fD))) (a3:=some (.dT (cs.map kD))) (a4:=some (tupI t.1)) (a5:=some (.int t.2)) (a10:=o10) (a11:=o11) h1 hn hI tl.2 (by omega) (by omega) hX o7 o8 o9
  have fY:Fk (bN n 8) Y:=hY.k.mono (qci hn (by omega) (by omega))
  have all:∀ q,Fk (bN n 8) (sumT cs (Y.take q)):=fun q=>(qbs fc fun u hu=>fY.bx u (List.take_subset _ _ hu)).1
  obtain⟨ρ',er,q10,q11,rfl⟩:=qbM (g:=qac 2 (qu (qg 10) (qu (qg 11) qaf))) (b:=sPut 3 (eVar 10) (eOp qal (qbI (eVar 3) (eVar 10) (eC (.int 0))) (eVar 11))) (items:=Y.map tmD) (ρ:=[some (.int n),some (fD outer),some (.lst (Is.map fD)),some (.dT (cs.map kD)),some (tupI t.1),some (.int t.2),some (.lst (Y.map tmD)),p7,p8,p9,o10,o11]) (fun q ρ=>∃ q10 q11:Option D,ρ=[some (.int n),some (fD outer),some (.lst (Is.map fD)),some (.dT ((sumT cs (Y.take q)).map kD)),some (tupI t.1),some (.int t.2),some (.lst (Y.map tmD)),p7,p8,p9,q10,q11]) ⟨o10,o11,rfl⟩ (by
   rintro q y ρ hy ⟨q10,q11,rfl⟩
   rw[zaz] at hy
   obtain⟨u,hu,rfl⟩:=map_some hy
   have hu1:Y.take (q + 1)=Y.take q ++ [u]:=by rw[zbw,hu]; rfl
   have ap:=qgr (s:=3) (i:=10) (X:=eVar 11) (ρ:=[some (.int n),some (fD outer),some (.lst (Is.map fD)),some (.dT ((sumT cs (Y.take q)).map kD)),some (tupI t.1),some (.int t.2),some (.lst (Y.map tmD)),p7,p8,p9,some (tupI u.1),some (.int u.2)]) (k:=u.1) (x:=u.2) rfl rfl rfl (by have:=(all q).len lw; omega)
   refine⟨_,?_,some (tupI u.1),some (.int u.2),by rw[hu1,qcN]⟩
   show(qac 2 (qu (qg 10) (qu (qg 11) qaf)) (tmD u) _).bind _=_
   have e1:qac 2 (qu (qg 10) (qu (qg 11) qaf)) (tmD u) [some (.int n),some (fD outer),some (.lst (Is.map fD)),some (.dT ((sumT cs (Y.take q)).map kD)),some (tupI t.1),some (.int t.2),some (.lst (Y.map tmD)),p7,p8,p9,q10,q11]=some [some (.int n),some (fD outer),some (.lst (Is.map fD)),some (.dT ((sumT cs (Y.take q)).map kD)),some (tupI t.1),some (.int t.2),some (.lst (Y.map tmD)),p7,p8,p9,some (tupI u.1),some (.int u.2)]:=by simp_all[tmD]
   rw[e1,qm]
   exact ap)
  rw[zaq,zbq] at er
  have sY:=qbs fc fY.bx
  refine⟨_,?_,sumT cs Y,some (tupI t.1),some (.int t.2),some (.lst (Y.map tmD)),p7,p8,p9,q10,q11,rfl,sY.1,fun vs hv=>?_⟩
  ·show(qac 2 (qu (qg 4) (qu (qg 5) qaf)) (tmD t) _).bind _=_
   have e1:qac 2 (qu (qg 4) (qu (qg 5) qaf)) (tmD t) [some (.int n),some (fD outer),some (.lst (Is.map fD)),some (.dT (cs.map kD)),o4,o5,o6,o7,o8,o9,o10,o11]=some [some (.int n),some (fD outer),some (.lst (Is.map fD)),some (.dT (cs.map kD)),some (tupI t.1),some (.int t.2),o6,o7,o8,o9,o10,o11]:=by simp_all[tmD]
   have e6:cutD [D.int 0,D.int 0] none (some n)=(bN n 0).map .int:=by rcases hn with rfl | rfl <;> rfl
   rw[e1,qm,qJ (qZ (d:=.lst ([(bN n 0,t.2)].map tmD)) (by simp_all[e6,tmD,tupI]))]
   have e7:(lZip (qb (eVar 2) (qb (eVar 4) lNil))) [some (.int n),some (fD outer),some (.lst (Is.map fD)),some (.dT (cs.map kD)),some (tupI t.1),some (.int t.2),some (.lst ([(bN n 0,t.2)].map tmD)),o7,o8,o9,o10,o11]=some (zipL (Is.map fD) (t.1.map .int)):=by simp_all[tupI,qfi]
   rw[qJ (ρ':=[some (.int n),some (fD outer),some (.lst (Is.map fD)),some (.dT (cs.map kD)),some (tupI t.1),some (.int t.2),some (.lst (Y.map tmD)),p7,p8,p9,o10,o11]) (by
    rw[q_for]
    show((lZip (qb (eVar 2) (qb (eVar 4) lNil))) [some (.int n),some (fD outer),some (.lst (Is.map fD)),some (.dT (cs.map kD)),some (tupI t.1),some (.int t.2),some (.lst ([(bN n 0,t.2)].map tmD)),o7,o8,o9,o10,o11]).bind _=_
    rw[e7,qm]
    exact ez)]
   rw[q_for]
   have e8:qaI (eVar 6) [some (.int n),some (fD outer),some (.lst (Is.map fD)),some (.dT (cs.map kD)),some (tupI t.1),some (.int t.2),some (.lst (Y.map tmD)),p7,p8,p9,o10,o11]=some (Y.map tmD):=by simp[-zan,-zam,qm,qG]
   rw[e8,qm]
   exact er
  ·rw[sY.2 vs,vc vs hv,vY vs hv,ht1,qio,qfX hn hv]
 ·rintro ρ ⟨cs,o4,o5,o6,o7,o8,o9,o10,o11,rfl,fc,vc⟩
  rw[zaq,zbq] at vc
  exact⟨_,by simp[-zan,-zam,qm,qG] <;> rfl,cs,rfl,fc,vc⟩
theorem qf9{n:Int}{d:List Int}{T:List My.Tm}(h:Fk d T)(lw:Low d)(hd:(d.length:Int)=n):∀ t∈T,GoodT n t:=fun t ht=>by
 obtain⟨k,c⟩:=t
 rcases(h.bx _ ht).shape with⟨a,x,rfl,rfl,b⟩ | ⟨a,b2,x,y,rfl,rfl,b⟩
 ·have l:a<=8:=lw
  exact⟨hd,fun e he=>by rw[List.mem_singleton.mp he]; omega⟩
 ·have l:a<=8/\b2<=8:=lw
  refine⟨hd,fun e he=>?_⟩
  rcases List.mem_cons.mp he with z | z
  ·rw[z]; omega
  ·rw[List.mem_singleton.mp z]; omega
theorem V_at{M:Int}{d:List Int}{F:List My.Tm}{vs:List Int}(h0:0 < M)(h1:M < 10 ^ 60)(hv:∀ v∈vs,-(10 ^ 60) < v/\v < 10 ^ 60)(hl:vs.length=d.length)(hn:vs.length=1\/vs.length=2)(lw:Low d)(f:Fo M d F):qa4 [.int M,fD F,.lst (vs.map .int)]=some (.int (ev vs F % M)):=by
 have p60:(10:Int) ^ 60=1000000000000000000000000000000000000000000000000000000000000:=by decide +kernel
 have g:=qf9 (n:=(vs.length:Int)) f.k lw (by omega)
 unfold fD
 rw[qjM h0 h1 hv hn fun q hq=>⟨by have:=(g q hq).len; omega,fun e he=>by have:=(g q hq).exps e he; omega,by have:=f.cb q hq; omega,by have:=f.cb q hq; omega⟩]
 rw[Int.emod_eq_emod_iff_emod_sub_eq_zero.mpr (zcq (qiK hl f.k.bx))]
theorem qnG{ns:List Int}(hl:ns.length<=63){a:Int}(ha:0<=a):∃ cells:List Int,dSl3 (.lst (ns.map .int)) (some a) (some 160) 12=some (.lst (cells.map .int)):=by
 refine⟨pick ns (some a) (some 160) (some 12),?_⟩
 rw[<- qj0]
 have hz:szOk (pick (ns.map D.int) (some a) (some 160) (some 12)).length=true:=by
  refine decide_eq_true ?_
  have l1:(pick (ns.map D.int) (some a) (some 160) (some 12)).length<=100:=by
   unfold pick
   refine za6 (List.length_filterMap_le _ _) ?_
   unfold sliceRange
   simp only[zbD,zaq,List.length_range,Option.getD_some]
   split <;> (try split) <;> omega
  omega
 exact if_pos ⟨by decide,hz⟩
theorem qct{ns:List Int}(hns:ns.length<=63){M n a:Int}(m0:3<=M)(hn:n=1\/n=2)(ha:0<=a):∃ F,qaT [.lst (ns.map .int),.int M,.int n,.int a]=some (fD F)/\Nf M (bN n 2) F:=by
 suffices h:∃ r,qaT [.lst (ns.map .int),.int M,.int n,.int a]=some r/\∃ F,r=fD F/\Nf M (bN n 2) F by
  obtain⟨r,e1,H,rfl,x⟩:=h; exact⟨H,e1,x⟩
 have lw:=qbK (c:=2) hn (by decide)
 refine qdQ ?_
 unfold qbB
 rw[qJ (qZ (d:=.dT []) (by simp[-zan,-zam,qm,qG]))]
 have r4:qM [.int 4]=some (qai 0 1 4):=rng1 4 (by decide)
 refine qeY (items:=qai 0 1 4) (by simp_all[qz,r4]) (fun i ρ=>∃ (cs:List My.Tm) (o5 o6 o7:Option D),ρ=[some (.lst (ns.map .int)),some (.int M),some (.int n),some (.int a),some (.dT (cs.map kD)),o5,o6,o7]/\Fo M (bN n 2) cs/\∀ t∈cs,1<=t.2) ⟨[],none,none,none,by simp_all[qz],Fo.nil _ _,fun _ h=>nomatch h⟩ ?_ ?_
 ·rintro i x ρ hx ⟨cs,o5,o6,o7,rfl,fc,pc⟩
  obtain⟨hi,rfl⟩:=qaR hx
  have hk0:0<=(0:Int) + (i:Int) * 1:=by omega
  generalize (0:Int) + (i:Int) * 1=k at hk0
  obtain⟨cells,ec⟩:=qnG hns (show 0<=a + k by omega)
  obtain⟨ρ',er,tot,o7',rfl,t0⟩:=qbM (g:=qg 7) (b:=sSet 6 (eOp qal (eVar 6) (eOp dMod (eOp dDiv (eVar 7) (eC (.int 9))) (eOp dPow (eC (.int 10)) (eC (.int 60)))))) (items:=cells.map .int) (ρ:=[some (.lst (ns.map .int)),some (.int M),some (.int n),some (.int a),some (.dT (cs.map kD)),some (.int k),some (.int 0),o7]) (fun _ ρ=>∃ (tot:Int) (o7:Option D),ρ=[some (.lst (ns.map .int)),some (.int M),some (.int n),some (.int a),some (.dT (cs.map kD)),some (.int k),some (.int tot),o7]/\0<=tot) ⟨0,o7,rfl,zby _⟩ (by
   rintro j y ρ hy ⟨tot,o7,rfl,t0⟩
   rw[zaz] at hy
   obtain⟨c,hc,rfl⟩:=map_some hy
   have b1:=zbb (c / 9) (show(10 ^ 60:Int)≠0 by decide +kernel)
   refine⟨[some (.lst (ns.map .int)),some (.int M),some (.int n),some (.int a),some (.dT (cs.map kD)),some (.int k),some (.int (tot + c / 9 % 10 ^ 60)),some (.int c)],?_,_,_,rfl,by omega⟩
   simp_all[turn,qcr,qih,qlo])
  have ecell:=qdT (ns:=ns) (k:=a + k) (by omega)
  generalize ns.getD (a + k).toNat 0=cc at ecell
  have s1:=zbb cc (show(3:Int)≠0 by decide)
  have s2:=zbg cc (show(0:Int) < 3 by decide)
  have s3:=zbb (cc / 3) (show(3:Int)≠0 by decide)
  have s4:=zbg (cc / 3) (show(0:Int) < 3 by decide)
  obtain⟨ks,ek,kb⟩:∃ k:List Int,cutD [.int (cc % 3),.int (cc / 3 % 3)] none (some n)=k.map .int/\Bx (bN n 2) k:=by
   rcases hn with rfl | rfl
   ·exact⟨[cc % 3],rfl,by omega,by omega⟩
   ·exact⟨[cc % 3,cc / 3 % 3],rfl,⟨by omega,by omega⟩,by omega,by omega⟩
  have g1:=zbb tot (show M - 1≠0 by omega)
  have g2:=zbg tot (show 0 < M - 1 by omega)
  have e2:qaI (eSl3 (eVar 0) (qcg (eOp qal (eVar 3) (eVar 5))) (qcg (eC (.int 160))) (eC (.int 12))) [some (.lst (ns.map .int)),some (.int M),some (.int n),some (.int a),some (.dT (cs.map kD)),some (.int k),some (.int 0),o7]=some (cells.map .int):=by
   have:asI (.int 12)=some 12:=rfl
   simp_all[this,ec]
  have run:∀ (rest:Sv),turn (qg 5) (sSeq (sSet 6 (eC (.int 0))) (sSeq (sFor (qaI (eSl3 (eVar 0) (qcg (eOp qal (eVar 3) (eVar 5))) (qcg (eC (.int 160))) (eC (.int 12)))) (qg 7) (sSet 6 (eOp qal (eVar 6) (eOp dMod (eOp dDiv (eVar 7) (eC (.int 9))) (eOp dPow (eC (.int 10)) (eC (.int 60))))))) (sSeq (sSet 7 (qy qaj (qb (eVar 0) (qb (eOp qal (eVar 3) (eVar 5)) lNil)))) rest))) (.int k) [some (.lst (ns.map .int)),some (.int M),some (.int n),some (.int a),some (.dT (cs.map kD)),o5,o6,o7]=rest [some (.lst (ns.map .int)),some (.int M),some (.int n),some (.int a),some (.dT (cs.map kD)),some (.int k),some (.int tot),some (.int cc)]:=fun rest=>by
   show(qg 5 _ _).bind _=_
   rw[show qg 5 (.int k) [some (.lst (ns.map .int)),some (.int M),some (.int n),some (.int a),some (.dT (cs.map kD)),o5,o6,o7]=some [some (.lst (ns.map .int)),some (.int M),some (.int n),some (.int a),some (.dT (cs.map kD)),some (.int k),o6,o7] from rfl,qm]
   rw[qJ (qZ (d:=.int 0) (by simp[-zan,-zam,qm,qG]))]
   rw[qJ (ρ':=[some (.lst (ns.map .int)),some (.int M),some (.int n),some (.int a),some (.dT (cs.map kD)),some (.int k),some (.int tot),o7']) (by
    rw[q_for]
    show(qaI _ [some (.lst (ns.map .int)),some (.int M),some (.int n),some (.int a),some (.dT (cs.map kD)),some (.int k),some (.int 0),o7]).bind _=_
    rw[e2,qm]
    exact er)]
   rw[qJ (qZ (d:=.int cc) (by simp_all[ecell]))]
   rfl
  by_cases ht:0 < tot
  ·have lc:=fc.k.len lw
   have hp:=qfL (cs:=cs) ks (1 + tot % (M - 1)) (by omega)
   refine⟨[some (.lst (ns.map .int)),some (.int M),some (.int n),some (.int a),some (.dT ((My.put cs ks (1 + tot % (M - 1))).map kD)),some (.int k),some (.int tot),some (.int cc)],?_,_,_,_,_,rfl,⟨fc.k.put kb,fun t ht=>?_⟩,fun t ht=>?_⟩
   ·rw[run]
    simp only[tupI] at hp
    simp_all[ht,qcr,qih,ek,qcr (show 0 < M - 1 by omega),hp]
   ·rcases qf8 ht with z | z
    ·rw[z]; exact⟨by show 0<=1 + _; omega,by show 1 + _ < M; omega⟩
    ·exact fc.cb t z
   ·rcases qf8 ht with z | z
    ·rw[z]; show 1<=1 + _; omega
    ·exact pc t z
  ·refine⟨[some (.lst (ns.map .int)),some (.int M),some (.int n),some (.int a),some (.dT (cs.map kD)),some (.int k),some (.int tot),some (.int cc)],?_,_,_,_,_,rfl,fc,pc⟩
   rw[run]
   simp_all[ht]
 ·rintro ρ ⟨cs,o5,o6,o7,rfl,fc,pc⟩
  have pm:=qak cs
  have lc:=fc.k.len lw
  have sF:=qhc (show cs.length < 128 by omega) fun t ht z=>by
   have b:=fc.k.bx t ht
   rw[z] at b
   rcases b.len with⟨_,h⟩ | ⟨_,h⟩ <;> cases h
  have zF:szOk (qT cs).length=true:=decide_eq_true (by rw[pm.length_eq]; omega)
  have cF:=qdL fc.k.nd (qT cs) none fun q hq=>pm.subset hq
  refine⟨fD (qT cs),by simp_all[sF,inS,zF,cF,fD],qT cs,rfl,⟨⟨(pm.map _).nodup_iff.mpr fc.k.nd,fun t ht=>fc.k.bx t (pm.subset ht)⟩,fun t ht=>fc.cb t (pm.subset ht)⟩,qa6 cs fc.k.nd,fun t ht=>pc t (pm.subset ht)⟩
noncomputable def alone(m:Int):List (List My.Tm):=if m=1 then [[([1],1)]] else [[([1,0],1)],[([0,1],1)]]
theorem qgd{m:Int}(hm:m=1\/m=2):qb3 [.int m]=some (.lst ((alone m).map fD)):=by
 rcases hm with rfl | rfl
 ·exact qax (by simp_all[qa0,qz,alone,fD,tmD,tupI])
 ·exact qax (by simp_all[qa0,qz,alone,fD,tmD,tupI])
theorem qkw{M m:Int}(m0:3<=M)(hm:m=1\/m=2):∀ I∈alone m,Fo M (bN m 2) I:=fun I hI=>by
 rcases hm with rfl | rfl
 ·have:I=[([1],1)]:=List.mem_singleton.mp hI
  rw[this]
  exact⟨⟨by simp[-zan,-zam,qm,qG],fun t ht=>by rw[List.mem_singleton.mp ht]; exact⟨by decide,by decide⟩⟩,fun t ht=>by rw[List.mem_singleton.mp ht]; exact⟨by decide,by show(1:Int) < M; omega⟩⟩
 ·rcases List.mem_cons.mp (show I∈[([([1,0],1)]:List My.Tm),[([0,1],1)]] from hI) with z | z
  ·rw[z]
   exact⟨⟨by simp[-zan,-zam,qm,qG],fun t ht=>by rw[List.mem_singleton.mp ht]; exact⟨⟨by decide,by decide⟩,by decide,by decide⟩⟩,fun t ht=>by rw[List.mem_singleton.mp ht]; exact⟨by decide,by show(1:Int) < M; omega⟩⟩
  ·rw[List.mem_singleton.mp z]
   exact⟨⟨by simp[-zan,-zam,qm,qG],fun t ht=>by rw[List.mem_singleton.mp ht]; exact⟨⟨by decide,by decide⟩,by decide,by decide⟩⟩,fun t ht=>by rw[List.mem_singleton.mp ht]; exact⟨by decide,by show(1:Int) < M; omega⟩⟩
theorem qko{m:Int}(hm:m=1\/m=2){vs:List Int}(hv:(vs.length:Int)=m):(alone m).map (ev vs)=vs:=by
 have p1:∀ x:Int,x ^ 1=x:=fun x=>by rw[zbU,Int.pow_zero,Int.one_mul]
 rcases hm with rfl | rfl
 ·obtain⟨v,rfl⟩:=List.length_eq_one_iff.mp (show vs.length=1 by omega)
  simp_all[alone,ev,mon,p1]
 ·obtain⟨v,u,rfl⟩:=len2 (show vs.length=2 by omega)
  simp_all[alone,ev,mon,p1]
theorem qlI{M n m:Int}(h0:0 < M)(h1:M < 10 ^ 60)(hn:n=1\/n=2)(hm:m=1\/m=2){outer:List My.Tm}(fo:Fo M (bN m 2) outer){Is:List (List My.Tm)}(hI:∀ I∈Is,Fo M (bN n 2) I)(hl:(Is.length:Int)=m){inn:D}(hi:inn=.lst (Is.map fD)\/inn=.tup (Is.map fD)):∃ H,qex [.int M,.int n,fD outer,inn]=some (fD H)/\Nf M (bN n 8) H/\Cg M n (fun vs=>ev vs H) (fun vs=>ev (Is.map (ev vs)) outer):=by
 rcases hm with rfl | rfl
 ·obtain⟨I,rfl⟩:=List.length_eq_one_iff.mp (show Is.length=1 by omega)
  refine qmV h0 h1 hn fo (hI I (by simp[-zan,-zam,qm,qG])) ?_ ?_ <;> rcases hi with rfl | rfl <;> rfl
 ·obtain⟨I,J,rfl⟩:∃ I J,Is=[I,J]:=by
   match Is,hl with
   | [I,J],_=>exact⟨I,J,rfl⟩
  refine qng h0 h1 hn fo (hI I (by simp[-zan,-zam,qm,qG])) (hI J (by simp[-zan,-zam,qm,qG])) ?_ ?_ ?_ <;> rcases hi with rfl | rfl <;> rfl
theorem qhP{n:Nat}{i:Int}:eqN n (.int i):=⟨.int i,rfl,rfl,zau _⟩
theorem qlv{n:Nat}{l:List D}(h:∀ d∈l,eqN n d):eqN (n + 1) (.lst l):=by
 obtain⟨xs,e,a,b⟩:=eqN.list h
 refine⟨.lst xs,?_,a,?_⟩
 ·rw[toX,e]; rfl
 ·show My.depL xs + 1<=n + 1
  omega
theorem qjB(F:List My.Tm):eqN 3 (fD F):=eqN.tup fun d hd=>by
 obtain⟨t,_,rfl⟩:=List.mem_map.mp hd
 refine eqN.tup fun d hd=>?_
 rcases List.mem_cons.mp hd with z | z
 ·rw[z]
  refine eqN.tup fun d hd=>?_
  obtain⟨i,_,rfl⟩:=List.mem_map.mp hd
  exact qhP
 ·rw[List.mem_singleton.mp z]; exact qhP
theorem qjD(Is:List (List My.Tm)):dNe (.lst (Is.map fD)) (.lst (Is.map fD))=some (.bl false):=by
 have o:=(qlv (n:=3) (l:=Is.map fD) fun d hd=>by
  obtain⟨F,_,rfl⟩:=List.mem_map.mp hd
  exact qjB F).ok (by decide)
 unfold dNe eqD
 rw[if_pos (.inr ⟨rfl,rfl,o,o⟩)]
 simp[-zan,-zam,qm,qG]
theorem qii{M:Int}:∀ (k ws:List Int),M ∣ mon k (ws.map (· % M)) - mon k ws
 | [],_=>qan _ _
 | _ :: _,[]=>qan _ _
 | e :: k,w :: ws=>by
  have pc:∀ r:Nat,M ∣ (w % M) ^ r - w ^ r:=fun r=>by
   induction r with
   | zero=>rw[Int.pow_zero,Int.pow_zero]; exact qan _ _
   | succ r ih=>rw[zbU,zbU]; exact qaE ih qiE
  exact qaE (pc e.toNat) (qii k ws)
theorem qk1{M:Int}(ws:List Int):∀ F:List My.Tm,M ∣ ev (ws.map (· % M)) F - ev ws F
 | []=>qan _ _
 | t :: F=>by
  rw[qO,qO]
  have a:=qaE (qan M t.2) (qii (M:=M) t.1 ws)
  have b:=qk1 (M:=M) ws F
  have:t.2 * mon t.1 (ws.map (· % M)) + ev (ws.map (· % M)) F - (t.2 * mon t.1 ws + ev ws F)=(t.2 * mon t.1 (ws.map (· % M)) - t.2 * mon t.1 ws) + (ev (ws.map (· % M)) F - ev ws F):=by omega
  rw[this]; exact Int.dvd_add a b
theorem qkN{M a b:Int}(h:M ∣ a - b):a % M=b % M:=Int.emod_eq_emod_iff_emod_sub_eq_zero.mpr (zcq h)
theorem qlr{M n:Int}(h0:0 < M)(hn:n=1\/n=2){H cs:List My.Tm}(fh:Nf M (bN n 8) H)(fc:Fk (bN n 8) cs)(h:∀ k,M ∣ cf H k - cf cs k):qcP [.int M,.int n,fD H,.dT (cs.map kD)]=some (.bl true):=by
 have lw:=qbK (c:=8) hn (zby _)
 have gh:=qf9 (n:=n) fh.fo.k lw (qbO hn)
 have gc:=qf9 (n:=n) fc lw (qbO hn)
 have lh:=fh.fo.k.len lw
 have lc:=fc.len lw
 refine qkd h0 (fun q hq=>(gh q hq).len) fh.srt (fun q hq=>⟨fh.pos q hq,(fh.fo.cb q hq).2⟩) (fun q hq=>?_) (fun k v hv hk=>?_) (fun t ht=>(gc t ht).small hn) fc.nd (by omega) (by omega)
 ·have e1:cf H q.1=q.2:=qhT (My.qbG fh.fo.k.nd hq)
  have d:=h q.1
  rw[e1] at d
  have b:=fh.fo.cb q hq
  have p:=fh.pos q hq
  have ne:cf cs q.1≠0:=fun z=>by
   rw[z,Int.sub_zero] at d
   have:=Int.le_of_dvd (by omega) d
   omega
  refine⟨_,qiR ne,zcq ?_⟩
  rw[show cf cs q.1 - q.2=-(q.2 - cf cs q.1) by omega]
  exact Int.dvd_neg.mpr d
 ·have d:=h k
  rw[qfo hk,qhT hv] at d
  refine zcq ?_
  rw[show v=-(0 - v) by omega]
  exact Int.dvd_neg.mpr d
theorem qoZ(ns:List Int)(hns:ns.length<=63):runD 10 qjr [.lst (ns.map .int)]=some (.bl true):=by
 refine qax ?_
 unfold qjr
 have p60:(10:Int) ^ 60=1000000000000000000000000000000000000000000000000000000000000:=by decide +kernel
 have cell:∀ {k:Int},0<=k->qaj [.lst (ns.map .int),.int k]=some (.int (ns.getD k.toNat 0)):=fun h=>qdT h
 have e0:=cell (k:=0) (by decide)
 have e1:=cell (k:=1) (by decide)
 have e2:=cell (k:=2) (by decide)
 have e3:=cell (k:=3) (by decide)
 generalize ns.getD (0:Int).toNat 0=c0 at e0
 generalize ns.getD (1:Int).toNat 0=c1 at e1
 generalize ns.getD (2:Int).toNat 0=c2 at e2
 generalize ns.getD (3:Int).toNat 0=c3 at e3
 generalize hM:My.whl c0=M
 have m0:3<=M:=hM ▸ My.qnr _
 have m1:M < 10 ^ 60:=hM ▸ My.qok _
 have h0:0 < M:=by omega
 generalize hN:1 + c1 % 2=n
 have hn:n=1\/n=2:=by have:=zbb c1 (show(2:Int)≠0 by decide); have:=zbg c1 (show(0:Int) < 2 by decide); omega
 generalize hm':1 + c1 / 2 % 2=m
 have hm:m=1\/m=2:=by have:=zbb (c1 / 2) (show(2:Int)≠0 by decide); have:=zbg (c1 / 2) (show(0:Int) < 2 by decide); omega
 obtain⟨vs,ec,vl,vb⟩:=cut2 hn (My.num c2) (My.num c3)
 have vb2:∀ v∈vs,-(10 ^ 60) < v/\v < 10 ^ 60:=fun v hv=>by
  rcases vb v hv with z | z <;> rw[z] <;> exact⟨My.qnm _,My.qm1 _⟩
 obtain⟨outer,eo,fo⟩:=qct (M:=M) (n:=m) (a:=4) hns m0 hm (by decide)
 obtain⟨I1,ei1,f1⟩:=qct (M:=M) (n:=n) (a:=8) hns m0 hn (by decide)
 obtain⟨I2,ei2,f2⟩:=qct (M:=M) (n:=n) (a:=12) hns m0 hn (by decide)
 obtain⟨Is,es,il,hI⟩:∃ Is:List (List My.Tm),cutD [fD I1,fD I2] none (some m)=Is.map fD/\(Is.length:Int)=m/\∀ I∈Is,Fo M (bN n 2) I:=by
  rcases hm with rfl | rfl
  ·exact⟨[I1],rfl,rfl,fun I hI=>by rw[List.mem_singleton.mp hI]; exact f1.fo⟩
  ·exact⟨[I1,I2],rfl,rfl,fun I hI=>by
    rcases List.mem_cons.mp hI with z | z
    ·rw[z]; exact f1.fo
    ·rw[List.mem_singleton.mp z]; exact f2.fo⟩
 obtain⟨H,eH,fH,vH⟩:=qlI h0 m1 hn hm fo.fo hI il (.inl rfl)
 obtain⟨H2,eH2,fH2,vH2⟩:=qlI h0 m1 hn hm fo.fo hI il (inn:=.tup (Is.map fD)) (.inr rfl)
 obtain⟨H3,eH3,fH3,vH3⟩:=qlI h0 m1 hm hm fo.fo (qkw m0 hm) (by rcases hm with rfl | rfl <;> rfl) (inn:=.lst ((alone m).map fD)) (.inl rfl)
 obtain⟨cs,ep,fc,vc⟩:=qi3 m1 hn hm fo.fo hI il
 have e8:(0:Int)<=8:=by decide
 have same:H2=H:=qkZ fH2 fH (qls hn e8 fH2.fo.k fH.fo.k (by
  obtain⟨q,pq,hq⟩:=vH
  refine vH2.trans hn ⟨_,Pol.mul hn (Pol.const hn (-1)) pq,fun vs hv=>?_⟩
  have:=hq vs hv
  dsimp only at this ⊢
  rw[show -1 * q vs=-(q vs) by omega,Int.mul_neg]
  omega))
 have back:H3=outer:=qkZ fH3 (fo.mono (qci hm (by decide) (by decide))) (qls hm e8 fH3.fo.k (fo.fo.k.mono (qci hm (by decide) (by decide))) (vH3.trans hm (Cg.of fun vs hv=>by rw[qko hm hv])))
 have vis:=qlr h0 hn fH fc (qls hn e8 fH.fo.k fc (vH.trans hn (Cg.of fun vs hv=>(vc vs hv).symm)))
 have lwn:=qbK (c:=8) hn (zby _)
 have l2:=qbK (c:=2) hn (by decide)
 have lm:=qbK (c:=2) hm (by decide)
 have ln8:=qbO (c:=8) hn
 have ln2:=qbO (c:=2) hn
 have lm2:=qbO (c:=2) hm
 have aH:=V_at h0 m1 vb2 (by omega) (by omega) lwn fH.fo
 have aI:∀ I∈Is,qa4 [.int M,fD I,.lst (vs.map .int)]=some (.int (ev vs I % M)):=fun I h=>V_at h0 m1 vb2 (by omega) (by omega) l2 (hI I h)
 have wb:∀ v∈(Is.map (ev vs)).map (· % M),-(10 ^ 60) < v/\v < 10 ^ 60:=fun v hv=>by
  obtain⟨u,_,rfl⟩:=List.mem_map.mp hv
  have:=zbb u (Int.ne_of_gt h0)
  have:=zbg u h0
  omega
 have wl:((Is.map (ev vs)).map (· % M)).length=Is.length:=by rw[zaq,zaq]
 have aO:=V_at h0 m1 wb (by omega) (by omega) lm fo.fo
 have fin:ev vs H % M=ev ((Is.map (ev vs)).map (· % M)) outer % M:=by
  rw[qkN (qk1 (M:=M) (Is.map (ev vs)) outer)]
  exact qkN (vH.dvd vl)
 have cw:=qgp (f:=(qy qa4 (qb (eVar 1) (qb (eVar 0) (qb (eVar 2) lNil))))) (rest:=[some (.int M),some (.lst (vs.map .int))]) (g:=fD) (h:=fun I=>D.int (ev vs I % M)) Is none (fun I hI=>by simp_all[aI I hI])
 have cw2:Is.map (fun I=>D.int (ev vs I % M))=((Is.map (ev vs)).map (· % M)).map D.int:=by simp_all[zaD,Function.comp_def]
 rw[cw2] at cw
 have zI:szOk Is.length=true:=decide_eq_true (by omega)
 have ne:=qjD Is
 have al:=qgd hm
 generalize hD:(Is.map fD)=Ds at es eH eH2 ep cw ne
 have lD:Ds.length=Is.length:=by rw[<- hD,zaq]
 rw[<- lD] at zI
 generalize ((Is.map (ev vs)).map (· % M))=ws at aO fin cw
 rw[qJ (qZ (d:=.int M) (by simp_all[qz,e0,qgg,hM]))]
 rw[qJ (qZ (d:=.int n) (by simp_all[qz,e1,qcr,hN]))]
 rw[qJ (qZ (d:=.int m) (by simp_all[qz,e1,qcr,qih,hm']))]
 rw[qJ (qZ (d:=.lst (vs.map .int)) (by simp_all[qz,e2,e3,qeN,ec]))]
 rw[qJ (qZ (d:=fD outer) (by simp_all[qz,eo]))]
 rw[qJ (qZ (d:=.lst Ds) (by simp_all[qz,ei1,ei2,es]))]
 rw[qJ (qZ (d:=.lst Ds) (by simp_all[qz]))]
 rw[qJ (qZ (d:=fD H) (by simp_all[qz,eH]))]
 rw[qJ (ρ':=[some (.lst (ns.map .int)),some (.int M),some (.int n),some (.int m),some (.lst (vs.map .int)),some (fD outer),some (.lst Ds),some (.lst Ds),some (fD H),none]) (by simp_all[qz,ne,ep,vis])]
 rw[qJ (qZ (d:=.lst (ws.map .int)) (by simp_all[inS,zI,cw]))]
 rw[qJ (ρ':=[some (.lst (ns.map .int)),some (.int M),some (.int n),some (.int m),some (.lst (vs.map .int)),some (fD outer),some (.lst Ds),some (.lst Ds),some (fD H),some (.lst (ws.map .int))]) (by simp_all[aH,aO,fin])]
 have q1:dEq (fD H2) (fD H)=some (.bl true):=by rw[same]; unfold fD; rw[qgj]; simp[-zan,-zam,qm,qG]
 have q2:dEq (fD H3) (fD outer)=some (.bl true):=by rw[back]; unfold fD; rw[qgj]; simp[-zan,-zam,qm,qG]
 simp_all[eH2,q1,al,eH3,q2]
theorem qnM{l:PySem.W.OpenLaw}{w:World}{K:zad}{h:Heap}{mg:Str->Option Value}{fa:Addr}{k:Nat}(X:K.In h)(G:h.Ns zas mg)(hfa:mg "law" = some (.ref fa))
  {f0:Addr} {od0 an0:Option Addr} {sl0:Array (Option Value)} {oc0 kV0 dc0 pm0 cd0 ct0:Value} (a0:zaE K zas "_law_wheel" = some (some (.ref f0))) (l0:K.lookup f0=some ⟨oc0,od0,.func (zaG "_law_wheel" "_law_wheel" (qN s_law_wheel) (qH s_law_wheel) (qi s_law_wheel) .none kV0 dc0 pm0 an0 cd0 ct0),sl0⟩) (c0:zaM K cd0 "_law_wheel" = true) (k0:zaH K (.ref f0)=true)
  {f1:Addr} {od1 an1:Option Addr} {sl1:Array (Option Value)} {oc1 kV1 dc1 pm1 cd1 ct1:Value} (a1:zaE K zas "_law_cell" = some (some (.ref f1))) (l1:K.lookup f1=some ⟨oc1,od1,.func (zaG "_law_cell" "_law_cell" (qN s_law_cell) (qH s_law_cell) (qi s_law_cell) .none kV1 dc1 pm1 an1 cd1 ct1),sl1⟩) (c1:zaM K cd1 "_law_cell" = true) (k1:zaH K (.ref f1)=true)
  {f2:Addr} {od2 an2:Option Addr} {sl2:Array (Option Value)} {oc2 kV2 dc2 pm2 cd2 ct2:Value} (a2:zaE K zas "_law_form" = some (some (.ref f2))) (l2:K.lookup f2=some ⟨oc2,od2,.func (zaG "_law_form" "_law_form" (qN s_law_form) (qH s_law_form) (qi s_law_form) .none kV2 dc2 pm2 an2 cd2 ct2),sl2⟩) (c2:zaM K cd2 "_law_form" = true) (k2:zaH K (.ref f2)=true)
  {f3:Addr} {od3 an3:Option Addr} {sl3:Array (Option Value)} {oc3 kV3 dc3 pm3 cd3 ct3:Value} (a3:zaE K zas "on" = some (some (.ref f3))) (l3:K.lookup f3=some ⟨oc3,od3,.func (zaG "on" "on" (qN s_on) (qH s_on) (qi s_on) .none kV3 dc3 pm3 an3 cd3 ct3),sl3⟩) (c3:zaM K cd3 "on" = true) (k3:zaH K (.ref f3)=true)
  {f4:Addr} {od4 an4:Option Addr} {sl4:Array (Option Value)} {oc4 kV4 dc4 pm4 cd4 ct4:Value} (a4:zaE K zas "form_of" = some (some (.ref f4))) (l4:K.lookup f4=some ⟨oc4,od4,.func (zaG "form_of" "form_of" (qN s_form_of) (qH s_form_of) (qi s_form_of) .none kV4 dc4 pm4 an4 cd4 ct4),sl4⟩) (c4:zaM K cd4 "form_of" = true) (k4:zaH K (.ref f4)=true)
  {f5:Addr} {od5 an5:Option Addr} {sl5:Array (Option Value)} {oc5 kV5 dc5 pm5 cd5 ct5:Value} (a5:zaE K zas "constant" = some (some (.ref f5))) (l5:K.lookup f5=some ⟨oc5,od5,.func (zaG "constant" "constant" (qN s_constant) (qH s_constant) (qi s_constant) .none kV5 dc5 pm5 an5 cd5 ct5),sl5⟩) (c5:zaM K cd5 "constant" = true) (k5:zaH K (.ref f5)=true)
  {f6:Addr} {od6 an6:Option Addr} {sl6:Array (Option Value)} {oc6 kV6 dc6 pm6 cd6 ct6:Value} (a6:zaE K zas "added" = some (some (.ref f6))) (l6:K.lookup f6=some ⟨oc6,od6,.func (zaG "added" "added" (qN s_added) (qH s_added) (qi s_added) .none kV6 dc6 pm6 an6 cd6 ct6),sl6⟩) (c6:zaM K cd6 "added" = true) (k6:zaH K (.ref f6)=true)
  {f7:Addr} {od7 an7:Option Addr} {sl7:Array (Option Value)} {oc7 kV7 dc7 pm7 cd7 ct7:Value} (a7:zaE K zas "times" = some (some (.ref f7))) (l7:K.lookup f7=some ⟨oc7,od7,.func (zaG "times" "times" (qN s_times) (qH s_times) (qi s_times) .none kV7 dc7 pm7 an7 cd7 ct7),sl7⟩) (c7:zaM K cd7 "times" = true) (k7:zaH K (.ref f7)=true)
  {f8:Addr} {od8 an8:Option Addr} {sl8:Array (Option Value)} {oc8 kV8 dc8 pm8 cd8 ct8:Value} (a8:zaE K zas "powers_of" = some (some (.ref f8))) (l8:K.lookup f8=some ⟨oc8,od8,.func (zaG "powers_of" "powers_of" (qN s_powers_of) (qH s_powers_of) (qi s_powers_of) .none kV8 dc8 pm8 an8 cd8 ct8),sl8⟩) (c8:zaM K cd8 "powers_of" = true) (k8:zaH K (.ref f8)=true)
  {f9:Addr} {od9 an9:Option Addr} {sl9:Array (Option Value)} {oc9 kV9 dc9 pm9 cd9 ct9:Value} (a9:zaE K zas "plus" = some (some (.ref f9))) (l9:K.lookup f9=some ⟨oc9,od9,.func (zaG "plus" "plus" (qN s_plus) (qH s_plus) (qi s_plus) .none kV9 dc9 pm9 an9 cd9 ct9),sl9⟩) (c9:zaM K cd9 "plus" = true) (k9:zaH K (.ref f9)=true)
  {f10:Addr} {od10 an10:Option Addr} {sl10:Array (Option Value)} {oc10 kV10 dc10 pm10 cd10 ct10:Value} (a10:zaE K zas "by_powers" = some (some (.ref f10))) (l10:K.lookup f10=some ⟨oc10,od10,.func (zaG "by_powers" "by_powers" (qN s_by_powers) (qH s_by_powers) (qi s_by_powers) .none kV10 dc10 pm10 an10 cd10 ct10),sl10⟩) (c10:zaM K cd10 "by_powers" = true) (k10:zaH K (.ref f10)=true)
  {f11:Addr} {od11 an11:Option Addr} {sl11:Array (Option Value)} {oc11 kV11 dc11 pm11 cd11 ct11:Value} (a11:zaE K zas "greatest" = some (some (.ref f11))) (l11:K.lookup f11=some ⟨oc11,od11,.func (zaG "greatest" "greatest" (qN s_greatest) (qH s_greatest) (qi s_greatest) .none kV11 dc11 pm11 an11 cd11 ct11),sl11⟩) (c11:zaM K cd11 "greatest" = true) (k11:zaH K (.ref f11)=true)
  {f12:Addr} {od12 an12:Option Addr} {sl12:Array (Option Value)} {oc12 kV12 dc12 pm12 cd12 ct12:Value} (a12:zaE K zas "turned_form" = some (some (.ref f12))) (l12:K.lookup f12=some ⟨oc12,od12,.func (zaG "turned_form" "turned_form" (qN s_turned_form) (qH s_turned_form) (qi s_turned_form) .none kV12 dc12 pm12 an12 cd12 ct12),sl12⟩) (c12:zaM K cd12 "turned_form" = true) (k12:zaH K (.ref f12)=true)
  {f13:Addr} {od13 an13:Option Addr} {sl13:Array (Option Value)} {oc13 kV13 dc13 pm13 cd13 ct13:Value} (a13:zaE K zas "put" = some (some (.ref f13))) (l13:K.lookup f13=some ⟨oc13,od13,.func (zaG "put" "put" (qN s_put) (qH s_put) (qi s_put) .none kV13 dc13 pm13 an13 cd13 ct13),sl13⟩) (c13:zaM K cd13 "put" = true) (k13:zaH K (.ref f13)=true)
  {f14:Addr} {od14 an14:Option Addr} {sl14:Array (Option Value)} {oc14 kV14 dc14 pm14 cd14 ct14:Value} (a14:zaE K zas "_law_at" = some (some (.ref f14))) (l14:K.lookup f14=some ⟨oc14,od14,.func (zaG "_law_at" "_law_at" (qN s_law_at) (qH s_law_at) (qi s_law_at) .none kV14 dc14 pm14 an14 cd14 ct14),sl14⟩) (c14:zaM K cd14 "_law_at" = true) (k14:zaH K (.ref f14)=true)
  {f15:Addr} {od15 an15:Option Addr} {sl15:Array (Option Value)} {oc15 kV15 dc15 pm15 cd15 ct15:Value} (a15:zaE K zas "_law_number" = some (some (.ref f15))) (l15:K.lookup f15=some ⟨oc15,od15,.func (zaG "_law_number" "_law_number" (qN s_law_number) (qH s_law_number) (qi s_law_number) .none kV15 dc15 pm15 an15 cd15 ct15),sl15⟩) (c15:zaM K cd15 "_law_number" = true) (k15:zaH K (.ref f15)=true)
  {f16:Addr} {od16 an16:Option Addr} {sl16:Array (Option Value)} {oc16 kV16 dc16 pm16 cd16 ct16:Value} (a16:zaE K zas "_law_whole" = some (some (.ref f16))) (l16:K.lookup f16=some ⟨oc16,od16,.func (zaG "_law_whole" "_law_whole" (qN s_law_whole) (qH s_law_whole) (qi s_law_whole) .none kV16 dc16 pm16 an16 cd16 ct16),sl16⟩) (c16:zaM K cd16 "_law_whole" = true) (k16:zaH K (.ref f16)=true)
  {f17:Addr} {od17 an17:Option Addr} {sl17:Array (Option Value)} {oc17 kV17 dc17 pm17 cd17 ct17:Value} (a17:zaE K zas "_law_exponents" = some (some (.ref f17))) (l17:K.lookup f17=some ⟨oc17,od17,.func (zaG "_law_exponents" "_law_exponents" (qN s_law_exponents) (qH s_law_exponents) (qi s_law_exponents) .none kV17 dc17 pm17 an17 cd17 ct17),sl17⟩) (c17:zaM K cd17 "_law_exponents" = true) (k17:zaH K (.ref f17)=true)
  {f18:Addr} {od18 an18:Option Addr} {sl18:Array (Option Value)} {oc18 kV18 dc18 pm18 cd18 ct18:Value} (a18:zaE K zas "_law_is" = some (some (.ref f18))) (l18:K.lookup f18=some ⟨oc18,od18,.func (zaG "_law_is" "_law_is" (qN s_law_is) (qH s_law_is) (qi s_law_is) .none kV18 dc18 pm18 an18 cd18 ct18),sl18⟩) (c18:zaM K cd18 "_law_is" = true) (k18:zaH K (.ref f18)=true)
  {f19:Addr} {od19 an19:Option Addr} {sl19:Array (Option Value)} {oc19 kV19 dc19 pm19 cd19 ct19:Value} (a19:zaE K zas "_law_product" = some (some (.ref f19))) (l19:K.lookup f19=some ⟨oc19,od19,.func (zaG "_law_product" "_law_product" (qN s_law_product) (qH s_law_product) (qi s_law_product) .none kV19 dc19 pm19 an19 cd19 ct19),sl19⟩) (c19:zaM K cd19 "_law_product" = true) (k19:zaH K (.ref f19)=true)
  {f20:Addr} {od20 an20:Option Addr} {sl20:Array (Option Value)} {oc20 kV20 dc20 pm20 cd20 ct20:Value} (a20:zaE K zas "_law_put" = some (some (.ref f20))) (l20:K.lookup f20=some ⟨oc20,od20,.func (zaG "_law_put" "_law_put" (qN s_law_put) (qH s_law_put) (qi s_law_put) .none kV20 dc20 pm20 an20 cd20 ct20),sl20⟩) (c20:zaM K cd20 "_law_put" = true) (k20:zaH K (.ref f20)=true)
  {f21:Addr} {od21 an21:Option Addr} {sl21:Array (Option Value)} {oc21 kV21 dc21 pm21 cd21 ct21:Value} (a21:zaE K zas "_law_alone" = some (some (.ref f21))) (l21:K.lookup f21=some ⟨oc21,od21,.func (zaG "_law_alone" "_law_alone" (qN s_law_alone) (qH s_law_alone) (qi s_law_alone) .none kV21 dc21 pm21 an21 cd21 ct21),sl21⟩) (c21:zaM K cd21 "_law_alone" = true) (k21:zaH K (.ref f21)=true)
  {f22:Addr} {od22 an22:Option Addr} {sl22:Array (Option Value)} {oc22 kV22 dc22 pm22 cd22 ct22:Value} (a22:zaE K zas "law" = some (some (.ref f22))) (l22:K.lookup f22=some ⟨oc22,od22,.func (zaG "law" "law" (qN s_law) (qH s_law) (qi s_law) .none kV22 dc22 pm22 an22 cd22 ct22),sl22⟩) (c22:zaM K cd22 "law" = true) (k22:zaH K (.ref f22)=true)
  (z_bool:zaE K zas "bool" = some none)
  (z_dict:zaE K zas "dict" = some none)
  (z_int:zaE K zas "int" = some none)
  (z_isinstance:zaE K zas "isinstance" = some none)
  (z_len:zaE K zas "len" = some none)
  (z_list:zaE K zas "list" = some none)
  (z_max:zaE K zas "max" = some none)
  (z_range:zaE K zas "range" = some none)
  (z_sorted:zaE K zas "sorted" = some none)
  (z_tuple:zaE K zas "tuple" = some none)
  (z_zip:zaE K zas "zip" = some none)
  (ok:∀ base:Heap,K.In base->base.Ns zas mg->Txt K mg->My.BodyOk l.prog w K mg base "law" s_law ["script", "M", "n", "m", "values", "outer", "inners", "handed", "found", "worths"] k (My.qiO K)) :
  ∃ fd:FuncData,(∀ (s:Shared) (v:Value),BindsTo s fd ⟨[v],[]⟩ [("script",v)])/\∀ base:Heap,K.In base->base.Ns zas mg->FnOk l.prog w K mg base CX0 (k + 1) fa fd ["script"] (My.qiO K):=by
 have e:=hfa.symm.trans (zaS X G a22)
 cases e
 have F0:=qaq (st:=s_law_wheel) l0 c0 k0
 have F1:=qaq (st:=s_law_cell) l1 c1 k1
 have F2:=qaq (st:=s_law_form) l2 c2 k2
 have F3:=qaq (st:=s_on) l3 c3 k3
 have F4:=qaq (st:=s_form_of) l4 c4 k4
 have F5:=qaq (st:=s_constant) l5 c5 k5
 have F6:=qaq (st:=s_added) l6 c6 k6
 have F7:=qaq (st:=s_times) l7 c7 k7
 have F8:=qaq (st:=s_powers_of) l8 c8 k8
 have F9:=qaq (st:=s_plus) l9 c9 k9
 have F10:=qaq (st:=s_by_powers) l10 c10 k10
 have F11:=qaq (st:=s_greatest) l11 c11 k11
 have F12:=qaq (st:=s_turned_form) l12 c12 k12
 have F13:=qaq (st:=s_put) l13 c13 k13
 have F14:=qaq (st:=s_law_at) l14 c14 k14
 have F15:=qaq (st:=s_law_number) l15 c15 k15
 have F16:=qaq (st:=s_law_whole) l16 c16 k16
 have F17:=qaq (st:=s_law_exponents) l17 c17 k17
 have F18:=qaq (st:=s_law_is) l18 c18 k18
 have F19:=qaq (st:=s_law_product) l19 c19 k19
 have F20:=qaq (st:=s_law_put) l20 c20 k20
 have F21:=qaq (st:=s_law_alone) l21 c21 k21
 have F22:=qaq (st:=s_law) l22 c22 k22
 have B0:=F0.binds (ps:=["cell"]) fun _ _ _ _ _ _=>us1 (fun _=>rfl)
 have B1:=F1.binds (ps:=["script", "k"]) fun _ _ _ _ _ _=>us2 (fun _ _=>rfl)
 have B2:=F2.binds (ps:=["script", "M", "n", "at"]) fun _ _ _ _ _ _=>us4 (fun _ _ _ _=>rfl)
 have B3:=F3.binds (ps:=["M", "n"]) fun _ _ _ _ _ _=>us2 (fun _ _=>rfl)
 have B4:=F4.binds (ps:=["M", "sums"]) fun _ _ _ _ _ _=>us2 (fun _ _=>rfl)
 have B5:=F5.binds (ps:=["M", "n", "c"]) fun _ _ _ _ _ _=>us3 (fun _ _ _=>rfl)
 have B6:=F6.binds (ps:=["exponents", "others"]) fun _ _ _ _ _ _=>us2 (fun _ _=>rfl)
 have B7:=F7.binds (ps:=["M", "one", "other"]) fun _ _ _ _ _ _=>us3 (fun _ _ _=>rfl)
 have B8:=F8.binds (ps:=["M", "n", "one", "most"]) fun _ _ _ _ _ _=>us4 (fun _ _ _ _=>rfl)
 have B9:=F9.binds (ps:=["M", "one", "other"]) fun _ _ _ _ _ _=>us3 (fun _ _ _=>rfl)
 have B10:=F10.binds (ps:=["M", "inner", "most", "factors"]) fun _ _ _ _ _ _=>us4 (fun _ _ _ _=>rfl)
 have B11:=F11.binds (ps:=["one", "place"]) fun _ _ _ _ _ _=>us2 (fun _ _=>rfl)
 have B12:=F12.binds (ps:=["M", "n", "turn", "one"]) fun _ _ _ _ _ _=>us4 (fun _ _ _ _=>rfl)
 have B13:=F13.binds (ps:=["M", "n", "outer", "inners"]) fun _ _ _ _ _ _=>us4 (fun _ _ _ _=>rfl)
 have B14:=F14.binds (ps:=["M", "one", "values"]) fun _ _ _ _ _ _=>us3 (fun _ _ _=>rfl)
 have B15:=F15.binds (ps:=["cell"]) fun _ _ _ _ _ _=>us1 (fun _=>rfl)
 have B16:=F16.binds (ps:=["found"]) fun _ _ _ _ _ _=>us1 (fun _=>rfl)
 have B17:=F17.binds (ps:=["found", "n"]) fun _ _ _ _ _ _=>us2 (fun _ _=>rfl)
 have B18:=F18.binds (ps:=["M", "n", "found", "sums"]) fun _ _ _ _ _ _=>us4 (fun _ _ _ _=>rfl)
 have B19:=F19.binds (ps:=["one", "other"]) fun _ _ _ _ _ _=>us2 (fun _ _=>rfl)
 have B20:=F20.binds (ps:=["n", "outer", "inners"]) fun _ _ _ _ _ _=>us3 (fun _ _ _=>rfl)
 have B21:=F21.binds (ps:=["m"]) fun _ _ _ _ _ _=>us1 (fun _=>rfl)
 have T:Txt K mg:=⟨⟨⟨_,_,F0,B0,zaS X G a0⟩⟩,⟨⟨_,_,F1,B1,zaS X G a1⟩⟩,⟨⟨_,_,F2,B2,zaS X G a2⟩⟩,⟨⟨_,_,F3,B3,zaS X G a3⟩⟩,⟨⟨_,_,F4,B4,zaS X G a4⟩⟩,⟨⟨_,_,F5,B5,zaS X G a5⟩⟩,⟨⟨_,_,F6,B6,zaS X G a6⟩⟩,⟨⟨_,_,F7,B7,zaS X G a7⟩⟩,⟨⟨_,_,F8,B8,zaS X G a8⟩⟩,⟨⟨_,_,F9,B9,zaS X G a9⟩⟩,⟨⟨_,_,F10,B10,zaS X G a10⟩⟩,⟨⟨_,_,F11,B11,zaS X G a11⟩⟩,⟨⟨_,_,F12,B12,zaS X G a12⟩⟩,⟨⟨_,_,F13,B13,zaS X G a13⟩⟩,⟨⟨_,_,F14,B14,zaS X G a14⟩⟩,⟨⟨_,_,F15,B15,zaS X G a15⟩⟩,⟨⟨_,_,F16,B16,zaS X G a16⟩⟩,⟨⟨_,_,F17,B17,zaS X G a17⟩⟩,⟨⟨_,_,F18,B18,zaS X G a18⟩⟩,⟨⟨_,_,F19,B19,zaS X G a19⟩⟩,⟨⟨_,_,F20,B20,zaS X G a20⟩⟩,⟨⟨_,_,F21,B21,zaS X G a21⟩⟩,zbH X G z_bool,zbH X G z_dict,zbH X G z_int,zbH X G z_isinstance,zbH X G z_len,zbH X G z_list,zbH X G z_max,zbH X G z_range,zbH X G z_sorted,zbH X G z_tuple,zbH X G z_zip⟩
 refine⟨zaG "law" "law" (qN s_law) (qH s_law) (qi s_law) .none kV22 dc22 pm22 an22 cd22 ct22,fun s v=>.of_eq rfl,fun base kb nb=>?_⟩
 exact(ok base kb nb T).fn F22 sc_law (fun vs H Q E h=>by obtain⟨a,ns,e,_⟩:=h; rw[e]; rfl)
end Law
open PySem PySem.W PyProof.Rows
set_option maxRecDepth 100000 in
set_option maxHeartbeats 0 in
theorem PySem.W.Fast.tw12851066325049137282:True:=trivial
theorem PySem.W.Fast.tw3261570749553229131:True:=trivial
theorem PySem.W.Fast.tw15517043678818230969:True:=trivial
theorem PySem.W.Fast.tw2342064591458376709:True:=trivial
theorem PySem.W.Fast.tw7171562009770590582:True:=trivial
theorem PySem.W.Fast.tw2540281154043084615:True:=trivial
theorem PySem.W.Fast.tw10568445254606803506:True:=trivial
theorem PySem.W.Fast.tw9509794202226038089:True:=trivial
theorem PySem.W.Fast.tw11554325270328965059:True:=trivial
theorem PySem.W.Fast.tw10235401761337566880:True:=trivial
theorem PySem.W.Fast.tw10205935228118325406:True:=trivial
theorem PySem.W.Fast.tw15906302860208179093:True:=trivial
theorem PySem.W.Fast.tw15657149916575310650:True:=trivial
theorem PySem.W.Fast.tw17901995004977789144:True:=trivial
theorem PySem.W.Fast.tw4848914761187362032:True:=trivial
theorem PySem.W.Fast.tw13110662237432275119:True:=trivial
theorem PySem.W.Fast.tw8511929752098885620:True:=trivial
theorem PySem.W.Fast.tw9030383085924147484:True:=trivial
theorem PySem.W.Fast.tw17399485680329177009:True:=trivial
theorem PySem.W.Fast.tw1926854247551415257:True:=trivial
theorem PySem.W.Fast.tw3043276020588727732:True:=trivial
theorem PySem.W.Fast.tw13850198596983319892:True:=trivial
theorem PySem.W.Fast.tw3935402119627148834:True:=trivial
theorem PySem.W.Fast.tw14490951612748657760:True:=trivial
theorem PySem.W.Fast.tw17577531757218670617:True:=trivial
theorem PySem.W.Fast.tw2388379721325542743:True:=trivial
theorem PySem.W.Fast.tw11222245914197368020:True:=trivial
theorem PySem.W.Fast.tw7638621752879929019:True:=trivial
theorem PySem.W.Fast.tw12889064224453530625:True:=trivial
theorem PySem.W.Fast.tw12516384177279313060:True:=trivial
theorem PySem.W.Fast.tw7202097396012613503:True:=trivial
theorem PySem.W.Fast.tw9069010577433313107:True:=trivial
theorem PySem.W.Fast.tw16806439887609532868:True:=trivial
theorem PySem.W.Fast.tw7054263895799292765:True:=trivial
theorem PySem.W.Fast.tw15776293299566885516:True:=trivial
theorem PySem.W.Fast.tw16282722870248149752:True:=trivial
theorem PySem.W.Fast.tw14268421523608699877:True:=trivial
theorem PySem.W.Fast.tw16288347467853178641:True:=trivial
theorem PySem.W.Fast.tw17194641959954835447:True:=trivial
theorem PySem.W.Fast.tw3314751739565932096:True:=trivial
theorem PySem.W.Fast.tw10664442251411999319:True:=trivial
theorem PySem.W.Fast.tw10702128536521597168:True:=trivial
theorem PySem.W.Fast.tw314601628381774346:True:=trivial
theorem PySem.W.Fast.tw12388074699306450526:True:=trivial
theorem PySem.W.Fast.tw5195612197249429304:True:=trivial
theorem PySem.W.Fast.tw3893892785245595640:True:=trivial
theorem PySem.W.Fast.tw9740409046575343976:True:=trivial
theorem PySem.W.Fast.tw3830458579410456547:True:=trivial
theorem PySem.W.Fast.tw14343639542696624334:True:=trivial
theorem PySem.W.Fast.tw6279482614299104191:True:=trivial
theorem PySem.W.Fast.tw3168947141174589185:True:=trivial
theorem PySem.W.Fast.tw3176909206354359398:True:=trivial
theorem PySem.W.Fast.tw11994617300436554686:True:=trivial
theorem PySem.W.Fast.tw13353270449394974360:True:=trivial
theorem PySem.Challenge.cw_chiefway_k08_forms_put_in_holds : PySem.Challenge.rw_chiefway_k08_forms_put_in.Holds := by
 w_on; o_law; k_head; (case hw=>w_witness2)
 k_fill
 refine My.walk (l:=PySem.Challenge.rw_chiefway_k08_forms_put_in) (k:=6) (by decide) rfl rfl (fun w h Y=>PySem.W.kIn_of Y) ?F
 case F=>
  intro w mg fa h KX G hmg
  refine' Law.qnM (k:=5) KX G hmg ?a0 ?l0 ?c0 ?k0 ?a1 ?l1 ?c1 ?k1 ?a2 ?l2 ?c2 ?k2 ?a3 ?l3 ?c3 ?k3 ?a4 ?l4 ?c4 ?k4 ?a5 ?l5 ?c5 ?k5 ?a6 ?l6 ?c6 ?k6 ?a7 ?l7 ?c7 ?k7 ?a8 ?l8 ?c8 ?k8 ?a9 ?l9 ?c9 ?k9 ?a10 ?l10 ?c10 ?k10 ?a11 ?l11 ?c11 ?k11 ?a12 ?l12 ?c12 ?k12 ?a13 ?l13 ?c13 ?k13 ?a14 ?l14 ?c14 ?k14 ?a15 ?l15 ?c15 ?k15 ?a16 ?l16 ?c16 ?k16 ?a17 ?l17 ?c17 ?k17 ?a18 ?l18 ?c18 ?k18 ?a19 ?l19 ?c19 ?k19 ?a20 ?l20 ?c20 ?k20 ?a21 ?l21 ?c21 ?k21 ?a22 ?l22 ?c22 ?k22 ?z_bool ?z_dict ?z_int ?z_isinstance ?z_len ?z_list ?z_max ?z_range ?z_sorted ?z_tuple ?z_zip ?ok
  (case a0=>k_is)
  (case l0=>k_is)
  (case c0=>k_is)
  (case k0=>k_is)
  (case a1=>k_is)
  (case l1=>k_is)
  (case c1=>k_is)
  (case k1=>k_is)
  (case a2=>k_is)
  (case l2=>k_is)
  (case c2=>k_is)
  (case k2=>k_is)
  (case a3=>k_is)
  (case l3=>k_is)
  (case c3=>k_is)
  (case k3=>k_is)
  (case a4=>k_is)
  (case l4=>k_is)
  (case c4=>k_is)
  (case k4=>k_is)
  (case a5=>k_is)
  (case l5=>k_is)
  (case c5=>k_is)
  (case k5=>k_is)
  (case a6=>k_is)
  (case l6=>k_is)
  (case c6=>k_is)
  (case k6=>k_is)
  (case a7=>k_is)
  (case l7=>k_is)
  (case c7=>k_is)
  (case k7=>k_is)
  (case a8=>k_is)
  (case l8=>k_is)
  (case c8=>k_is)
  (case k8=>k_is)
  (case a9=>k_is)
  (case l9=>k_is)
  (case c9=>k_is)
  (case k9=>k_is)
  (case a10=>k_is)
  (case l10=>k_is)
  (case c10=>k_is)
  (case k10=>k_is)
  (case a11=>k_is)
  (case l11=>k_is)
  (case c11=>k_is)
  (case k11=>k_is)
  (case a12=>k_is)
  (case l12=>k_is)
  (case c12=>k_is)
  (case k12=>k_is)
  (case a13=>k_is)
  (case l13=>k_is)
  (case c13=>k_is)
  (case k13=>k_is)
  (case a14=>k_is)
  (case l14=>k_is)
  (case c14=>k_is)
  (case k14=>k_is)
  (case a15=>k_is)
  (case l15=>k_is)
  (case c15=>k_is)
  (case k15=>k_is)
  (case a16=>k_is)
  (case l16=>k_is)
  (case c16=>k_is)
  (case k16=>k_is)
  (case a17=>k_is)
  (case l17=>k_is)
  (case c17=>k_is)
  (case k17=>k_is)
  (case a18=>k_is)
  (case l18=>k_is)
  (case c18=>k_is)
  (case k18=>k_is)
  (case a19=>k_is)
  (case l19=>k_is)
  (case c19=>k_is)
  (case k19=>k_is)
  (case a20=>k_is)
  (case l20=>k_is)
  (case c20=>k_is)
  (case k20=>k_is)
  (case a21=>k_is)
  (case l21=>k_is)
  (case c21=>k_is)
  (case k21=>k_is)
  (case a22=>k_is)
  (case l22=>k_is)
  (case c22=>k_is)
  (case k22=>k_is)
  (case z_bool=>k_is)
  (case z_dict=>k_is)
  (case z_int=>k_is)
  (case z_isinstance=>k_is)
  (case z_len=>k_is)
  (case z_list=>k_is)
  (case z_max=>k_is)
  (case z_range=>k_is)
  (case z_sorted=>k_is)
  (case z_tuple=>k_is)
  (case z_zip=>k_is)
  (case ok=>exact fun base kb nb T=>P.qn6 (f:=Law.qjr) (O':=[]) rfl (fun fa cdv A outer s H E hr=>Law.qo5 T fa cdv A outer s H E hr) Law.qoZ)
