import PyProof.Rows.All
import Wide.All
import OpenK.AllK
import Wide.FinOn
import Lean
import PyProof.EqAt
import PyProof.EqKinds
import PyProof.TupleCall
import KE.KEqDict
import PySem.Challenge.RW_chiefway_k23_forms_seen_from_kinds
set_option Elab.async false
set_option linter.all false
set_option maxRecDepth 100000
open PySem renaming wpAny_bind → zaa, wpAny_pure → zab, starEach → zaf, Program → zai, sizeLine → zaj, compareOp → zap, bootBuiltins → zaE, wpAny_field → zaI, binaryOp → zaN, mainGlobals → zaR, tupleKind → zaS, swapsWith → zaV, wpAny_mono → zaZ, assignEach → za2, wpAny_setField_rec → za5, sysModules → za6, wpAny_call_entry → za9, wpAny_holding → zbb, wpAny_newObj_type → zbc, plainId_quiet → zbf, wpAny_truthy_bool → zbg, wpAny_callSpecial?_slot → zbk, wpAny_seqItems → zbn, wpAny_pyIter_tuple → zbo, foldedSetIterable → zbq, sliceBounds → zbw, wpAny_dictEntries → zbx, behindInMarks → zbC, wpAny_loadPart' → zbD, codeAny_builtin → zbF, wpAny_pyIter_list → zbK, wpAny_passesOwn → zbT, wpAny_dictEpoch → zbX, wpAny_updateSeq → zbY, tupleKind_room_in1 → zb0, wpAny_typeNameOfWhole_keyiter → zcb, wpAny_typeNameOfWhole_itemiter → zce
open Option renaming bind_some → zac, map_some → zad
open PySem.W renaming Frag → zae, kia_one → zbd, fnOf → zbj, keepIn → zbL
open PySem.Heap renaming get?_push_of_some → zag, lt_size → zah, get?_push_size → zat, SameBut → zaM, get?_update_other → zbl, get?_update_self → zbv, size_push → zbA
open List renaming map_cons → zak, length_map → zan, size_toArray → zau, range → zav, getElem?_map → zax, mem_cons_self → zay, mem_cons_of_mem → zaz, map_map → zaB, replicate → zaG, mem_of_getElem? → zaH, mem_cons → zaK, not_mem_nil → zaL, getElem?_eq_getElem → zaO, length_cons → zaT, find?_cons → za4, length_append → za8, any_cons → zbe, mem_append_right → zbi, map_append → zbm, length → zbr, take_add_one → zbs, map_nil → zbu, length_take → zbM, replicate_succ → zbN, take_length → zbS, flatten_cons → zbU, foldl_cons → zbV, all_eq_true → zbW, eq_of_mem_replicate → zb3, getElem?_append_left → zb4
open PySem.Value renaming ref → zal, none → zaD
open Nat renaming le_refl → zam, ne_of_lt → zaw, ne_of_gt → zaF, zero_le → zaX, le_trans → zaY, lt_of_lt_of_le → za0, lt_irrefl → za1, lt_succ_self → zbR
open Sum renaming inl → zao
open Bool renaming false_ne_true → zaq, and_eq_true → zaC, false_eq_true → zby
open Int renaming emod_nonneg → zar, emod_lt_of_pos → zas, ne_of_gt → zaP, dvd_add → zaQ, toNat_natCast → zbz, le_of_lt → zbB, pow_succ → zbJ
open Option.some renaming inj → zaA
open Ne renaming symm → zaJ
open PySem.Str renaming ofString → zaU
open PyProof.Rows renaming IntsAre → zaW, callWith_type1 → zbZ, slot_tuple_getitem → zb9
open True renaming intro → za3
open Array renaming length_toList → za7, getElem?_toList → zb8
open PySem.Obj renaming mapSeq → zba
open False renaming elim → zbh
open PySem.Builtin.Range renaming rangeSize → zbp, small → zbE
open PySem.Paired renaming length → zbt
open PySem.Around renaming under_plainId → zbG
open PySem.NameKind renaming free → zbH
open PySem.F renaming plain_max_loop → zbI, slot_dict_get → zb1, plain_extend_loop → zb7, slot_dict_keyiterator_next → zca, slot_dict_itemiterator_next → zcd
open PySem.Heap.SameBut renaming update → zbO
open PySem.Builtin.SmallTypes renaming nextOf → zbP, ownedTupleIsFree → zb2, ownedTupleHandOut → zcg
open Classical renaming propDecidable → zbQ
open PySem.Builtin.Dict renaming showsAll → zb5
open PySem.Builtin.Dict_items renaming ownsTuple → zb6, pairFromOwner → zcc, ownedTupleIsFree → zcf
open PySem.Builtin.Builtins renaming bindParams → zch
namespace L2
open PySem PySem.Spec PyProof.Rows
noncomputable abbrev Key:=Sum Int Str
noncomputable def qhx:Key->Value->Bool
 | .inl k,v=>Value.isInt k v
 | .inr x,v=>Value.isStrOf x v
noncomputable def keyH(w:World):Key->Int
 | .inl k=>hashInt k
 | .inr x=>hashStr w x
theorem qW:∀ {k:Key} {v:Value},qhx k v=true->(∃i t,k=zao i/\v=Value.int i t)\/(∃x t,k=Sum.inr x/\v=Value.str x t)
 | .inl i,v,h=>by
  obtain⟨t,e⟩:=Value.isInt_shape (k:=i) (v:=v) h
  exact .inl ⟨i,t,rfl,e⟩
 | .inr x,v,h=>by
  obtain⟨t,e⟩:=Value.isStrOf_shape (x:=x) (v:=v) h
  exact .inr ⟨x,t,rfl,e⟩
theorem qjC(i:Int)(t:Tok):qhx (.inl i) (.int i t)=true:=by simp[qhx,Value.isInt]
theorem qjB(x:Str)(t:Tok):qhx (.inr x) (.str x t)=true:=by simp[qhx,Value.isStrOf]
theorem qoE(a b:Int):decide ((zao a:Key)=zao b)=(a == b):=by
 by_cases e:a=b
 ·subst e;simp
 ·have h:¬ (zao a:Key)=zao b:=λq=>e (Sum.inl.inj q)
  rw[decide_eq_false h]
  exact(beq_eq_false_iff_ne.mpr e).symm
theorem qo5(a b:Str):decide ((Sum.inr a:Key)=Sum.inr b)=decide (a=b):=by
 by_cases e:a=b
 ·subst e;simp
 ·have h:¬ (Sum.inr a:Key)=Sum.inr b:=λq=>e (Sum.inr.inj q)
  rw[decide_eq_false h,decide_eq_false e]
theorem qoG(a:Int)(b:Str):decide ((zao a:Key)=Sum.inr b)=false:=decide_eq_false (λq=>nomatch q)
theorem qpx(a:Str)(b:Int):decide ((Sum.inr a:Key)=zao b)=false:=decide_eq_false (λq=>nomatch q)
noncomputable def qC(prog:zai)(w:World):PySem.KeyKind prog w Key where
 is:=qhx
 hash:=keyH w
 inj:=λv a b ha hb=>by
  rcases qW ha with⟨i,t,rfl,rfl⟩|⟨x,t,rfl,rfl⟩
  ·rcases qW hb with⟨j,u,rfl,e⟩|⟨y,u,rfl,e⟩
   ·injection e with e1 _;rw[e1]
   ·exact nomatch e
  ·rcases qW hb with⟨j,u,rfl,e⟩|⟨y,u,rfl,e⟩
   ·exact nomatch e
   ·injection e with e1 _;rw[e1]
 byValue:=λk v h=>by
  rcases qW h with⟨i,t,rfl,rfl⟩|⟨x,t,rfl,rfl⟩ <;> rfl
 pyHash:=λhv h=>by
  rcases qW hv with⟨i,t,rfl,rfl⟩|⟨x,t,rfl,rfl⟩
  ·exact wpAny_pyHash_int h
  ·exact wpAny_pyHash_str h
 eqBool:=λhu hv h=>by
  rcases qW hu with⟨i,t,rfl,rfl⟩|⟨x,t,rfl,rfl⟩
  ·rcases qW hv with⟨j,u,rfl,rfl⟩|⟨y,u,rfl,rfl⟩
   ·rw[qoE]at h;exact wpAny_eqBool_int h
   ·rw[qoG]at h;exact SeqAt.EqAt.int_str i t y u _ _ _ _ h
  ·rcases qW hv with⟨j,u,rfl,rfl⟩|⟨y,u,rfl,rfl⟩
   ·rw[qpx]at h;exact SeqAt.EqAt.str_int x t j u _ _ _ _ h
   ·rw[qo5]at h;exact wpAny_eqBool_str h
 «strs»:=λk x t v h=>by
  rcases qW h with⟨i,u,rfl,e⟩|⟨y,u,rfl,e⟩
  ·exact nomatch e
  ·injection e with e1 _
   subst e1
   cases v <;> rfl
theorem qgi(prog:zai)(w:World)(i:Int)(t:Tok):(qC prog w).is (.inl i) (.int i t)=true:=qjC i t
theorem qfT(prog:zai)(w:World)(x:Str)(t:Tok):(qC prog w).is (.inr x) (.str x t)=true:=qjB x t
inductive V where
 | non|bl (b:Bool)|int (i:Int)|str (x:Str)|byt (b:Array UInt8)|flt (b:UInt64)|ref (a:Addr)|ty (n:String)
 deriving DecidableEq
noncomputable def RelV:V->Value->Prop
 | .non,u=>u=zaD
 | .bl b,u=>u=Value.bool b
 | .int i,u=>∃t,u=Value.int i t
 | .str x,u=>∃t,u=Value.str x t
 | .byt b,u=>∃t,u=Value.bytes b t
 | .flt b,u=>∃t,u=Value.float b t
 | .ref a,u=>u=zal a
 | .ty n,u=>u=Value.type n
noncomputable abbrev Vals:List V->List Value->Prop:=Paired RelV
theorem Vals.length{xs:List V}{us:List Value}(r:Vals xs us):xs.length=us.length:=zbt r
theorem Vals.get:∀ {xs:List V} {us:List Value} {i:Nat} {x:V},Vals xs us->xs[i]?=some x->∃u,us[i]?=some u/\RelV x u
 | _,_,_,_,.nil,e=>by simp at e
 | _,_,0,_,.cons r _,e=>by simp at e;subst e;exact⟨_,rfl,r⟩
 | _,_,i+1,x,.cons _ t,e=>by
  obtain⟨u,h1,h2⟩:=Vals.get (i:=i) (x:=x) t (by simpa using e)
  exact⟨u,by simpa using h1,h2⟩
theorem Vals.set{x:V}{u:Value}(r:RelV x u):∀ {xs:List V} {us:List Value} (i:Nat),Vals xs us->Vals (xs.set i x) (us.set i u)
 | _,_,_,.nil=>.nil
 | _,_,0,.cons _ t=>.cons r t
 | _,_,i+1,.cons q t=>.cons q (Vals.set r i t)
theorem Vals.append:∀ {xs ys:List V} {us ws:List Value},Vals xs us->Vals ys ws->Vals (xs++ys) (us++ws)
 | _,_,_,_,.nil,s=>s
 | _,_,_,_,.cons r t,s=>.cons r (Vals.append t s)
theorem Vals.take:∀ {xs:List V} {us:List Value} (n:Nat),Vals xs us->Vals (xs.take n) (us.take n)
 | _,_,0,_=>.nil
 | _,_,_+1,.nil=>.nil
 | _,_,n+1,.cons r t=>.cons r (Vals.take n t)
theorem Vals.drop:∀ {xs:List V} {us:List Value} (n:Nat),Vals xs us->Vals (xs.drop n) (us.drop n)
 | _,_,0,r=>r
 | _,_,_+1,.nil=>.nil
 | _,_,n+1,.cons _ t=>Vals.drop n t
noncomputable def RelO:Option V->Option Value->Prop
 | some v,some u=>RelV v u
 | none,none=>True
 | _,_=>False
noncomputable def KV{κ:Type}:List (κ×V)->List (κ×Value)->Prop:=Paired λ(p:κ×V) (q:κ×Value)=>p.1=q.1/\RelV p.2 q.2
noncomputable def kV:Key->V
 | .inl i=>.int i
 | .inr x=>.str x
inductive HO where
 /-- a list -/
 | lst (xs:List V)
 /-- a tuple (never changes) -/
 | tup (xs:List V)
 /-- a dict whose keys are ints and texts;one whose keys are tuples of ints and texts (the empty one is both) -/
 | dK (kvs:List (Key×V))|dT (kvs:List (List Key×V))
 /-- a set of ints: its members, its size -/
 | set (S:Int->Bool) (n:Nat)
 /-- an instance of the class at C, its dict at dx, its attributes -/
 | ins (C dx:Addr) (fs:List (Str×V))
 /-- the dict of the instance at x -/
 | own (x:Addr)
 /-- the dict of an exception -/
 | xd (fs:List (Str×V))
 /-- a bound method, f of x -/
 | met (f x:Addr)
 /-- a range object lo, lo+1, .. below hi -/
 | rng (lo hi:Int)
 /-- a thing that is known to the object (the script;a dict while a loop walks it): read, never written while it is so -/
 | frz (o:Obj) (u:HO)
 /-- a code object's table -/
 | tbl (ps:Array Value)
 /-- any other thing, by what is true of its one object (a def of one's own: SetO a S n:=HO.ext λh => ..) -/
 | ext (φ:Heap->Prop)
noncomputable abbrev Hp:=Addr->Option HO
noncomputable def upd(H:Hp)(a:Addr)(o:HO):Hp:=λb=>if b=a then some o else H b
theorem ql{H:Hp}{a:Addr}{o:HO}:upd H a o a=some o:=by unfold upd;rw[if_pos rfl]
theorem qi{H:Hp}{a b:Addr}{o:HO}(h:b≠a):upd H a o b=H b:=by unfold upd;rw[if_neg h]
theorem qlx{H:Hp}{a b:Addr}{o u:HO}(h:H a=some o)(h':H b=some u)(d:o≠u):a≠b:=by
 intro e;subst e;rw[h]at h';exact d (zaA h')
theorem qy{H:Hp}{a b:Addr}{o:HO}(h:H a=some o)(h':H b=none):a≠b:=by
 intro e;subst e;rw[h]at h';cases h'
section
variable (P:zai)(w:World)
noncomputable def IsTupN(h:Heap)(a:Addr)(items:Array Value):Prop:=∃o,h.get? a=some o/\o.cls=.type "tuple" /\ ∃n,o.data=.seq items n/\o.dict=none
theorem IsTupN.tup{h:Heap}{a:Addr}{items:Array Value}(x:IsTupN h a items):IsTup h a items:=let ⟨o,e,c,n,d,_⟩:=x;⟨o,e,c,n,d⟩
theorem IsTupN.lt{h:Heap}{a:Addr}{items:Array Value}(x:IsTupN h a items):a<h.objs.size:=x.tup.lt
theorem IsTupN.new(h:Heap)(items:Array Value):IsTupN (h.push {cls:=.type "tuple",data:=.seq items}) h.objs.size items:=⟨_,zat _ rfl,rfl,_,rfl,rfl⟩
noncomputable def ObjOk(H:Hp)(h:Heap)(a:Addr):HO->Prop
 | .lst xs=>xs.length<=zaj/\∃(its:List Value) (n:Nat),Vals xs its/\h.get? a=some {cls:=.type "list",data:=.seq its.toArray n}
 | .tup xs=>xs.length<=zaj/\∃its:List Value,Vals xs its/\IsTupN h a its.toArray
 | .dK kvs=>kvs.length<=zaj/\(a == za6)=false/\∃vs,KV kvs vs/\h.DictOf (qC P w) a vs
 | .dT kvs=>kvs.length<=zaj/\(a == za6)=false/\∃xs:List (List Key×Addr×Value),
   Paired (λ(p:List Key×V) (q:List Key×Addr×Value)=>p.1=q.1/\H q.2.1=some (.tup (p.1.map kV))/\RelV p.2 q.2.2) kvs xs /\
   ∃o es ep,h.get? a=some o/\o.ExactDict/\o.data=.dict es ep/\es.toList=xs.map (entryOfKey (zaS (qC P w)))/\(xs.map (·.1)).Nodup
 | .set S n=>h.SetOf (intKind P w) a S n
 | .ins C dx fs=>H dx=some (.own a)/\fs.length<=1000/\dx≠a/\h.get? a=some (PySem.W.instObj C dx) /\
   ∃mA,h.Ns1 dx mA/\(∀f,RelO (fs.lookup f) (mA f))/\PySem.Within mA (fs.map (·.1))
 | .own _=>∃o,h.get? a=some o
 | .xd fs=>∃mA,h.Ns1 a mA/\∀f,RelO (fs.lookup f) (mA f)
 | .rng lo hi=>∃t u v,h.get? a=some {cls:=.type "range",data:=.fields #[.int lo t,.int hi u,.int 1 v]}
 | .frz o u=>h.get? a=some o/\ObjOk H h a u
 | .tbl ps=>h.get? a=some {cls:=.none,data:=.fields ps}
 | .met f x=>h.get? a=some (PySem.W.methodObj (.ref f) (.ref x))
 | .ext φ=>φ h/\(∃o,h.get? a=some o)/\∀h1 h2:Heap,φ h1->(∀o,h1.get? a=some o->h2.get? a=some o)->φ h2
noncomputable def HOk(H:Hp)(h:Heap):Prop:=∀a o,H a=some o->ObjOk P w H h a o
end
section
variable {P:zai}{w:World}{H H':Hp}{h h':Heap}{a:Addr}{o:HO}
theorem ObjOk.lt(x:ObjOk P w H h a o):a<h.objs.size:=by
 cases o with
 | lst xs=>obtain⟨_,_,_,_,e⟩:=x;exact zah e
 | tup xs=>obtain⟨_,_,_,p⟩:=x;exact p.lt
 | dK kvs=>obtain⟨_,_,_,_,o,_,_,e,_⟩:=x;exact zah e
 | dT kvs=>obtain⟨_,_,_,_,o,_,_,e,_⟩:=x;exact zah e
 | set S n=>obtain⟨o,_,_,_,e,_⟩:=x;exact zah e
 | ins C dx fs=>obtain⟨_,_,_,e,_⟩:=x;exact zah e
 | own y=>obtain⟨_,e⟩:=x;exact zah e
 | xd fs=>obtain⟨_,⟨_,_,_,e,_⟩,_⟩:=x;exact zah e
 | rng lo hi=>obtain⟨_,_,_,e⟩:=x;exact zah e
 | frz ob u=>obtain⟨e,_⟩:=x;exact zah e
 | tbl ps=>exact zah (show h.get? a=some _ from x)
 | met f y=>exact zah (show h.get? a=some _ from x)
 | ext φ=>obtain⟨_,⟨_,e⟩,_⟩:=x;exact zah e
theorem Paired.mapP{α β:Type}{F G:α->β->Prop}:∀ {l₁:List α} {l₂:List β},Paired F l₁ l₂->(∀a b,F a b->G a b)->Paired G l₁ l₂
 | _,_,.nil,_=>.nil
 | _,_,.cons r t,f=>.cons (f _ _ r) (Paired.mapP t f)
theorem ObjOk.stay(x:ObjOk P w H h a o)(k:∀b u,(b=a\/H b=some (.own a))->h.get? b=some u->h'.get? b=some u)
  (ho:∀b,H b=some (.own a)->H' b=some (.own a)) (ht:∀b xs,H b=some (.tup xs)->H' b=some (.tup xs)):ObjOk P w H' h' a o:=by
 induction o with
 | lst xs=>obtain⟨z,its,n,r,e⟩:=x;exact⟨z,its,n,r,k _ _ (.inl rfl) e⟩
 | tup xs=>obtain⟨z,its,r,ob,e,c⟩:=x;exact⟨z,its,r,ob,k _ _ (.inl rfl) e,c⟩
 | dK kvs=>obtain⟨z,y,vs,r,ob,es,ep,e,c⟩:=x;exact⟨z,y,vs,r,ob,es,ep,k _ _ (.inl rfl) e,c⟩
 | dT kvs=>
  obtain⟨z,y,xs,r,ob,es,ep,e,c⟩:=x
  exact⟨z,y,xs,Paired.mapP r λp q z=>⟨z.1,ht _ _ z.2.1,z.2.2⟩,ob,es,ep,k _ _ (.inl rfl) e,c⟩
 | set S n=>obtain⟨ob,es,ep,t,e,c⟩:=x;exact⟨ob,es,ep,t,k _ _ (.inl rfl) e,c⟩
 | ins C dx fs=>
  obtain⟨d,z,ne,e,mA,⟨od,es,ep,e2,c⟩,r⟩:=x
  exact⟨ho _ d,z,ne,k _ _ (.inl rfl) e,mA,⟨od,es,ep,k _ _ (.inr d) e2,c⟩,r⟩
 | own y=>obtain⟨ob,e⟩:=x;exact⟨ob,k _ _ (.inl rfl) e⟩
 | xd fs=>obtain⟨mA,⟨od,es,ep,e,c⟩,r⟩:=x;exact⟨mA,⟨od,es,ep,k _ _ (.inl rfl) e,c⟩,r⟩
 | rng lo hi=>obtain⟨t,u,v,e⟩:=x;exact⟨t,u,v,k _ _ (.inl rfl) e⟩
 | frz ob u ih=>obtain⟨e,q⟩:=x;exact⟨k _ _ (.inl rfl) e,ih q⟩
 | tbl ps=>
  have e:h.get? a=some {cls:=.none,data:=.fields ps}:=x
  show h'.get? a=some {cls:=.none,data:=.fields ps}
  exact k a _ (.inl rfl) e
 | met f y=>
  have e:h.get? a=some (PySem.W.methodObj (.ref f) (.ref y)):=x
  show h'.get? a=some (PySem.W.methodObj (.ref f) (.ref y))
  exact k a _ (.inl rfl) e
 | ext φ=>obtain⟨p,⟨o,e⟩,st⟩:=x;exact⟨st _ _ p λo q=>k _ _ (.inl rfl) q,⟨o,k _ _ (.inl rfl) e⟩,st⟩
theorem HOk.lt(x:HOk P w H h)(e:H a=some o):a<h.objs.size:=(x a o e).lt
theorem HOk.fresh(x:HOk P w H h)(e:h.objs.size<=a):H a=none:=by
 cases q:H a with
 | none=>rfl
 | some u=>exact absurd (za0 (x.lt q) e) (za1 _)
theorem HOk.kept(x:HOk P w H h)(k:∀b u,h.get? b=some u->h'.get? b=some u):HOk P w H h':=λa o e=>
 (x a o e).stay (λb u _ q=>k b u q) (λ_ q=>q) λ_ _ q=>q
theorem HOk.laid(x:HOk P w H h)(k:∀b u,h.get? b=some u->h'.get? b=some u)(hp:h.objs.size<=a)(new:ObjOk P w (upd H a o) h' a o):HOk P w (upd H a o) h':=λb u e=>by
 have hn:=x.fresh hp
 by_cases hb:b=a
 ·subst hb;rw[ql]at e;cases e;exact new
 ·rw[qi hb]at e
  exact(x b u e).stay (λc v _ q=>k c v q) (λc q=>by rw[qi (qy q hn)];exact q) λc xs q=>by rw[qi (qy q hn)];exact q
end
noncomputable def Rd(H:Hp)(a:Addr)(u:HO):Prop:=H a=some u\/∃o,H a=some (.frz o u)
theorem Rd.ok{P:zai}{w:World}{H:Hp}{h:Heap}{a:Addr}{u:HO}(r:Rd H a u)(x:HOk P w H h):ObjOk P w H h a u:=by
 rcases r with r|⟨o,r⟩
 ·exact x a u r
 ·obtain⟨_,q⟩:=x a _ r
  exact q
noncomputable def Mut:Option HO->Prop
 | some (.lst _)=>True
 | some (.dK _)=>True
 | some (.dT _)=>True
 | some (.set _ _)=>True
 | some (.ins _ _ _)=>True
 | some (.ext _)=>True
 | _=>False
section
variable {P:zai}{w:World}{H:Hp}{h h':Heap}{x e:Addr}{o':HO}
theorem HOk.write(ok:HOk P w H h)(mu:Mut (H x))(he:e=x\/H e=some (.own x))(k:∀b u,b≠e->h.get? b=some u->h'.get? b=some u)(heo:∃u,h'.get? e=some u)
  (new:ObjOk P w (upd H x o') h' x o'):HOk P w (upd H x o') h':=λb u q=>by
 have nown:∀c y,H c=some (.own y)->c≠x:=λc y r z=>by subst z;rw[r]at mu;exact mu
 have ntup:∀c xs,H c=some (.tup xs)->c≠x:=λc xs r z=>by subst z;rw[r]at mu;exact mu
 by_cases hb:b=x
 ·subst hb;rw[ql]at q;cases q;exact new
 ·rw[qi hb]at q
  by_cases hbe:b=e
  ·have q':H b=some (.own x):=by
    rcases he with z|z
    ·exact absurd (hbe.trans z) hb
    ·rw[hbe];exact z
   rw[q]at q';cases q'
   obtain⟨v,hv⟩:=heo
   exact⟨v,by rw[hbe];exact hv⟩
  ·refine(ok b u q).stay (λc v hc r=>k c v ?_ r) (λc r=>by rw[qi (nown c b r)];exact r) λc xs r=>by rw[qi (ntup c xs r)];exact r
   rcases hc with rfl|hc
   ·exact hbe
   ·rintro rfl
    rcases he with z|z
    ·exact nown c b hc z
    ·rw[hc]at z;cases z;exact hb rfl
end
structure Un(fs ex:List Addr)(H H':Hp)(h h':Heap):Prop where
 keep:∀b o,h.get? b=some o->H b=none->b∉fs->b∉ex->h'.get? b=some o
 slot:∀b o,h.get? b=some o->H b=none->b∈fs->b∉ex->∃sl,h'.get? b=some {o with slots:=sl}
 free:∀b o,h.get? b=some o->H b=none->b∉ex->H' b=none
 there:∀b o,h.get? b=some o->b∉ex->∃o',h'.get? b=some o'
 tups:∀b xs,H b=some (.tup xs)->H' b=some (.tup xs)
 frzs:∀b o u,H b=some (.frz o u)->H' b=some (.frz o u)
 tbls:∀b ps,H b=some (.tbl ps)->∃more,H' b=some (.tbl (ps++more))
section
variable {fs fs' ex ex':List Addr}{H H1 H2:Hp}{h h1 h2 h':Heap}{a x e:Addr}{o:HO}
theorem Un.any(u:Un fs ex H H1 h h1){b:Addr}{ob:Obj}(q:h.get? b=some ob)(n:H b=none)(hx:b∉ex):∃sl,h1.get? b=some {ob with slots:=sl}:=by
 by_cases hb:b∈fs
 ·exact u.slot b ob q n hb hx
 ·exact⟨ob.slots,u.keep b ob q n hb hx⟩
theorem Un.trans(a:Un fs ex H H1 h h1)(b:Un fs ex H1 H2 h1 h2):Un fs ex H H2 h h2 where
 keep:=λc ob q n hc hx=>b.keep c ob (a.keep c ob q n hc hx) (a.free c ob q n hx) hc hx
 slot:=λc ob q n hc hx=>by
  obtain⟨sl,e1⟩:=a.slot c ob q n hc hx
  obtain⟨sl',e2⟩:=b.slot c _ e1 (a.free c ob q n hx) hc hx
  exact⟨sl',e2⟩
 free:=λc ob q n hx=>by
  obtain⟨o',e1⟩:=a.there c ob q hx
  exact b.free c o' e1 (a.free c ob q n hx) hx
 there:=λc ob q hx=>by
  obtain⟨o',e1⟩:=a.there c ob q hx
  exact b.there c o' e1 hx
 tups:=λc xs q=>b.tups c xs (a.tups c xs q)
 frzs:=λc ob xs q=>b.frzs c ob xs (a.frzs c ob xs q)
 tbls:=λc ps q=>by
  obtain⟨m1,e1⟩:=a.tbls c ps q
  obtain⟨m2,e2⟩:=b.tbls c _ e1
  exact⟨m1++m2,by rw[e2,Array.append_assoc]⟩
theorem Un.kept(k:∀b u,h.get? b=some u->h'.get? b=some u):Un fs ex H H h h':=
 ⟨λb ob q _ _ _=>k b ob q,λb ob q _ _ _=>⟨ob.slots,k b ob q⟩,λ_ _ _ n _=>n,λb ob q _=>⟨ob,k b ob q⟩,λ_ _ q=>q,λ_ _ _ q=>q,λ_ ps q=>⟨#[],by rw[q];simp⟩⟩
theorem Un.refl:Un fs ex H H h h:=Un.kept λ_ _ q=>q
theorem Un.laid(k:∀b u,h.get? b=some u->h'.get? b=some u)(hp:h.objs.size<=a)(hn:H a=none):Un fs ex H (upd H a o) h h' where
 keep:=λb u q _ _ _=>k b u q
 slot:=λb u q _ _ _=>⟨u.slots,k b u q⟩
 free:=λb u q n _=>by rw[qi (zaw (za0 (zah q) hp))];exact n
 there:=λb u q _=>⟨u,k b u q⟩
 tups:=λb xs q=>by rw[qi (qy q hn)];exact q
 frzs:=λb u xs q=>by rw[qi (qy q hn)];exact q
 tbls:=λb ps q=>⟨#[],by rw[qi (qy q hn),q];simp⟩
theorem Un.write(mu:Mut (H x))(he:e=x\/H e=some (.own x))(k:∀b u,b≠e->h.get? b=some u->h'.get? b=some u)(heo:∃u,h'.get? e=some u):Un fs ex H (upd H x o) h h':=by
 have hx:∀b,H b=none->b≠x:=λb n z=>by subst z;rw[n]at mu;exact mu
 have hb:∀b,H b=none->b≠e:=λb n z=>by
  subst z
  rcases he with r|r
  ·exact hx b n r
  ·rw[n]at r;cases r
 have hm:∀b u,H b=some u->¬ Mut (some u)->b≠x:=λb u q nm z=>by subst z;rw[q]at mu;exact nm mu
 refine⟨λb u q n _ _=>k b u (hb b n) q,λb u q n _ _=>⟨u.slots,k b u (hb b n) q⟩,λb u q n _=>by rw[qi (hx b n)];exact n,λb u q _=>?_,
  λb xs q=>by rw[qi (hm b _ q λz=>z)];exact q,λb u xs q=>by rw[qi (hm b _ q λz=>z)];exact q,λb ps q=>⟨#[],by rw[qi (hm b _ q λz=>z),q];simp⟩⟩
 by_cases hbe:b=e
 ·subst hbe;exact heo
 ·exact⟨u,k b u hbe q⟩
theorem Un.mono(u:Un fs ex H H1 h h1)(hs:∀b∈fs,b∈fs')(hx:∀b∈ex,b∈ex'):Un fs' ex' H H1 h h1:=
 ⟨λb ob q n hb he=>u.keep b ob q n (λz=>hb (hs b z)) λz=>he (hx b z),λ_ _ q n _ he=>u.any q n λz=>he (hx _ z),λb ob q n he=>u.free b ob q n λz=>he (hx b z),λb ob q he=>u.there b ob q λz=>he (hx b z),u.tups,u.frzs,u.tbls⟩
end
noncomputable def trk(h:Heap)(H:Hp):List Addr:=(zav h.objs.size).filter λa=>(H a).isSome
noncomputable def hidT(h:Heap)(H:Hp):Heap:=PySem.W.hideAll h (trk h H)
theorem qik(h:Heap)(H:Hp):(hidT h H).objs.size=h.objs.size:=PySem.W.hideAll_size _ _
theorem qkh{h:Heap}{H:Hp}{b:Addr}{o:Obj}(e:h.get? b=some o)(n:H b=none):(hidT h H).get? b=some o:=
 PySem.W.hideAll_get _ e λhm=>by
  have q:(H b).isSome=true:=(List.mem_filter.mp hm).2
  rw[n]at q;simp at q
theorem qnK{h:Heap}{H:Hp}{b:Addr}{o:Obj}(e:(hidT h H).get? b=some o):h.get? b=some o/\H b=none:=by
 have e':h.get? b=some o:=PySem.W.of_hideAll (trk h H) e
 refine⟨e',?_⟩
 cases q:H b with
 | none=>rfl
 | some x=>
  have hm:b∈trk h H:=List.mem_filter.mpr ⟨List.mem_range.mpr (zah e'),by simp[q]⟩
  have z:(hidT h H).get? b=none:=PySem.W.hideAll_none (trk h H) hm
  rw[z]at e;cases e
noncomputable def qnG(g h:Heap)(L:Addr):List (Addr×Obj):=(zav h.objs.size).filterMap λa=>if a=L\/(g.get? a).isSome=true then none else(h.get? a).map λo=>(a,o)
noncomputable def rest(g h:Heap)(L d:Addr):List (Addr×Obj):=(qnG g h L).filter λp=>decide (p.1≠d)
structure Mod(K:zae)(mg:Str->Option Value)(base:Heap):Prop where
 kin:K.In base
 glob:base.Ns zaR mg
 blt:∃mb,base.Ns builtinsNs mb/\∀x:Str,x ≠ "__name__" -> mb x=zaE x
 nolimit:base.NoLimit
structure Cx where
 prog:zai
 w:World
 K:zae
 mg:Str->Option Value
 base:Heap
 A:Around
 N:List Str
 s₀:Shared
 H₀:Hp
 env:Env
 outer:List Env
 stack:List Env
 ex:List Addr
 fn:Str->Bool
 calm:Bool
 pn:List (Addr×Obj)
 xe:Value->Shared->Prop
noncomputable def frs(l:List Env):List Addr:=l.filterMap (·.frame)
noncomputable abbrev Cx.fs(X:Cx):List Addr:=frs X.outer
noncomputable def Vis(sc:Scope)(x:Str):Prop:=sc.names.lookup x=some .local\/sc.names.lookup x=some .cell\/sc.names.lookup x=some .free
noncomputable def Loc(sc:Scope)(x:Str):Prop:=sc.names.lookup x=some .local\/sc.names.lookup x=some .cell
noncomputable def Look(env:Env)(h:Heap)(m:Str->Option Value)(x:Str)(u:Value):Prop:=
 (env.kindOf x=some .local/\m x=some u)\/((env.kindOf x=some .cell\/env.kindOf x=some .free)/\∃c,env.cells.lookup x=some c/\h.IsCell c (some u))
structure Cx.Ok(X:Cx):Prop where
 mod:Mod X.K X.mg X.base
 kind:X.env.scope.kind=.function
 glob:X.env.globals=zaR
 blt:X.env.builtins=builtinsNs
 above:X.s₀.heap.objs.size<=X.env.locals
 inj:∀x y c,X.env.cells.lookup x=some c->X.env.cells.lookup y=some c->x=y
 has:∀x,(X.env.kindOf x=some .cell\/X.env.kindOf x=some .free)->∃c,X.env.cells.lookup x=some c
 cab:∀x c,X.fn x=true->X.env.cells.lookup x=some c->X.s₀.heap.objs.size<=c
 hd:X.calm=true->X.A.handled=none
 frames:X.A.frames=some X.stack
 stk:X.stack=X.outer\/(X.stack=X.env::X.outer/\X.env.frame=some X.env.locals)
 exf:∀b∈X.ex,b≠X.env.locals/\∀x c,X.env.cells.lookup x=some c->c≠b
 bs:∀b o,X.base.get? b=some o->X.s₀.heap.get? b=some o/\X.H₀ b=none
 bsz:X.base.objs.size<=X.s₀.heap.objs.size
 noex:∀b o,X.base.get? b=some o->b∉X.ex
 exfs:∀b∈X.ex,b∉X.fs
 funs:X.s₀.heap.FunFrames X.base X.outer
 frf:∀b∈X.fs,X.H₀ b=none
structure Inv(X:Cx)(pins:List (Addr×Obj))(σ:List (Option V))(H:Hp)(s:Shared):Prop where
 ok:X.Ok
 os:s.os=X.s₀.os
 bare:AllBare s.gens
 base:Un X.fs X.ex X.H₀ H X.s₀.heap s.heap
 loc:∃m,s.heap.Ns X.env.locals m/\∀(i:Nat) (x:Str) (v:V),X.N[i]?=some x->σ[i]?=some (some v)->Vis X.env.scope x->∃u,RelV v u/\Look X.env s.heap m x u
 cell:∀x c,X.env.cells.lookup x=some c->∃v,s.heap.IsCell c v
 free:H X.env.locals=none
 freeC:∀x c,X.env.cells.lookup x=some c->H c=none
 pin:∀p∈X.pn++pins,s.heap.get? p.1=some p.2/\H p.1=none/\p.1≠X.env.locals/\p.1∉X.fs/\∀v,p.2.data≠.cell v
 hok:HOk X.prog X.w H s.heap
 len:σ.length=X.N.length
section
variable {X:Cx}{pins:List (Addr×Obj)}{σ:List (Option V)}{H H':Hp}{s:Shared}{h':Heap}
theorem Cx.Ok.nofr(ok:X.Ok){b:Addr}{o:Obj}(e:X.base.get? b=some o):b∉X.fs:=λhb=>by
 have:=(ok.funs.mem hb).1
 rw[e]at this;cases this
theorem Inv.bs(I:Inv X pins σ H s):∀b o,X.base.get? b=some o->s.heap.get? b=some o/\H b=none:=λb o e=>
 ⟨I.base.keep b o (I.ok.bs b o e).1 (I.ok.bs b o e).2 (I.ok.nofr e) (I.ok.noex b o e),I.base.free b o (I.ok.bs b o e).1 (I.ok.bs b o e).2 (I.ok.noex b o e)⟩
theorem Inv.bk(I:Inv X pins σ H s):∀b o,X.base.get? b=some o->s.heap.get? b=some o:=λb o e=>(I.bs b o e).1
theorem Inv.mod(I:Inv X pins σ H s):Mod X.K X.mg X.base:=I.ok.mod
theorem Inv.kIn(I:Inv X pins σ H s):X.K.In s.heap:=I.ok.mod.kin.keeps I.bk
theorem Inv.lt(I:Inv X pins σ H s):X.env.locals<s.heap.objs.size:=let ⟨_,hn,_⟩:=I.loc;hn.lt
theorem Inv.sz(I:Inv X pins σ H s):X.s₀.heap.objs.size<=s.heap.objs.size:=zaY I.ok.above (Nat.le_of_lt I.lt)
theorem Inv.nofs(I:Inv X pins σ H s){a:Addr}(h:s.heap.objs.size<=a):a∉X.fs:=λhb=>by
 obtain⟨_,o,ho,_⟩:=I.ok.funs.mem hb
 exact absurd (za0 (zah ho) (zaY I.sz h)) (za1 _)
theorem Inv.cne(I:Inv X pins σ H s):∀x c,X.env.cells.lookup x=some c->c≠X.env.locals:=λx c e z=>by
 obtain⟨v,o,ho,hd⟩:=I.cell x c e
 obtain⟨m,⟨o',es,ep,ho',hd',_⟩,_⟩:=I.loc
 rw[z,ho']at ho;cases ho;rw[hd']at hd;cases hd
theorem Inv.funs(I:Inv X pins σ H s):s.heap.FunFrames X.base X.outer:=by
 have all:∀(l:List Env),(∀b∈frs l,b∈X.fs)->X.s₀.heap.FunFrames X.base l->s.heap.FunFrames X.base l:=by
  intro l
  induction l with
  | nil=>intro _ _;trivial
  | cons env r ih=>
   intro hs hl
   obtain⟨hk,⟨L,o,hf,hn,ho,hd⟩,hr⟩:=hl
   have hL:L∈X.fs:=hs L (by unfold frs;rw[List.filterMap_cons,hf];exact zay)
   obtain⟨sl,e⟩:=I.base.slot L o ho (I.ok.frf L hL) hL λz=>I.ok.exfs L z hL
   exact⟨hk,⟨L,_,hf,hn,e,hd⟩,ih (λb hb=>hs b (by unfold frs;rw[List.filterMap_cons,hf];exact zaz _ hb)) hr⟩
 exact all X.outer (λ_ hb=>hb) I.ok.funs
theorem Inv.stack(I:Inv X pins σ H s):s.heap.FunFrames X.base X.stack:=by
 rcases I.ok.stk with e|⟨e,hf⟩
 ·rw[e];exact I.funs
 ·rw[e]
  obtain⟨m,hn,_⟩:=I.loc
  refine .cons (by rw[I.ok.kind];decide) hf hn ?_ I.funs
  exact Heap.get?_none_of_le (zaY I.ok.bsz I.ok.above)
theorem Inv.stkSub(I:Inv X pins σ H s):∀b∈frs X.stack,b∈X.env.locals::X.fs:=λb hb=>by
 rcases I.ok.stk with e|⟨e,hf⟩
 ·rw[e]at hb;exact zaz _ hb
 ·rw[e]at hb
  unfold frs at hb
  rw[List.filterMap_cons,hf]at hb
  exact hb
theorem Inv.stkFree(I:Inv X pins σ H s):∀b∈frs X.stack,H b=none:=λb hb=>by
 rcases List.mem_cons.mp (I.stkSub b hb)with e|hb
 ·rw[e];exact I.free
 ·obtain⟨_,o,ho,_⟩:=I.ok.funs.mem hb
  exact I.base.free b o ho (I.ok.frf b hb) λz=>I.ok.exfs b z hb
theorem Inv.step{g':Array GenState}{t':Nat}{d':Drawn}{ch:List Addr}(I:Inv X pins σ H s)
  (hch:∀b∈ch,(b∈X.ex\/X.s₀.heap.objs.size<=b)/\b≠X.env.locals/\(∀x c,X.env.cells.lookup x=some c->c≠b)/\∀p∈X.pn++pins,p.1≠b)
  (keep:∀b o,b≠X.env.locals->b∉X.fs->b∉ch->s.heap.get? b=some o->H b=none->h'.get? b=some o)
  (slot:∀b o,b≠X.env.locals->b∈X.fs->b∉ch->s.heap.get? b=some o->H b=none->∃sl,h'.get? b=some {o with slots:=sl}) (free:∀b o,b∉ch->s.heap.get? b=some o->H b=none->H' b=none)
  (there:∀b o,b∉ch->s.heap.get? b=some o->∃o',h'.get? b=some o')
  (tups:∀b xs,H b=some (.tup xs)->H' b=some (.tup xs)) (frzs:∀b o u,H b=some (.frz o u)->H' b=some (.frz o u)) (tbls:∀b ps,H b=some (.tbl ps)->∃more,H' b=some (.tbl (ps++more)))
  (ns:∀m,s.heap.Ns X.env.locals m->h'.Ns X.env.locals m) (hok:HOk X.prog X.w H' h') (hg:AllBare g') :
  Inv X pins σ H' {s with heap:=h',gens:=g',drawn:=d',toks:=t'}:=by
 have neL:∀b o,X.s₀.heap.get? b=some o->b≠X.env.locals:=λb o e=>zaw (za0 (zah e) I.ok.above)
 have neC:∀b o,X.s₀.heap.get? b=some o->b∉X.ex->b∉ch:=λb o e hx hb=>by
  rcases(hch b hb).1 with z|z
  ·exact hx z
  ·exact absurd (za0 (zah e) z) (za1 _)
 have cellK:∀x c,X.env.cells.lookup x=some c->∀v,s.heap.IsCell c v->h'.IsCell c v:=by
  rintro x c e v ⟨o,ho,hd⟩
  have nch:c∉ch:=λz=>(hch c z).2.2.1 x c e rfl
  by_cases hc:c∈X.fs
  ·obtain⟨sl,q⟩:=slot c o (I.cne x c e) hc nch ho (I.freeC x c e)
   exact⟨_,q,hd⟩
  ·exact⟨o,keep c o (I.cne x c e) hc nch ho (I.freeC x c e),hd⟩
 refine⟨I.ok,I.os,hg,⟨λb o e n hb hx=>?_,λb o e n hb hx=>?_,λb o e n hx=>?_,λb o e hx=>?_,λb xs e=>tups b xs (I.base.tups b xs e),λb o xs e=>frzs b o xs (I.base.frzs b o xs e),λb ps e=>?_⟩,?_,λx c e=>?_,?_,λx c e=>?_,λp hp=>?_,hok,I.len⟩
 ·exact keep b o (neL b o e) hb (neC b o e hx) (I.base.keep b o e n hb hx) (I.base.free b o e n hx)
 ·obtain⟨sl,e1⟩:=I.base.slot b o e n hb hx
  obtain⟨sl',e2⟩:=slot b _ (neL b o e) hb (neC b o e hx) e1 (I.base.free b o e n hx)
  exact⟨sl',e2⟩
 ·obtain⟨o',e1⟩:=I.base.there b o e hx
  exact free b o' (neC b o e hx) e1 (I.base.free b o e n hx)
 ·obtain⟨o',e1⟩:=I.base.there b o e hx
  exact there b o' (neC b o e hx) e1
 ·obtain⟨m1,e1⟩:=I.base.tbls b ps e
  obtain⟨m2,e2⟩:=tbls b _ e1
  exact⟨m1++m2,by rw[e2,Array.append_assoc]⟩
 ·obtain⟨m,hn,hl⟩:=I.loc
  refine⟨m,ns m hn,λi x v e1 e2 e3=>?_⟩
  obtain⟨u,r,l⟩:=hl i x v e1 e2 e3
  refine⟨u,r,?_⟩
  rcases l with l|⟨k,c,e,z⟩
  ·exact .inl l
  ·exact .inr ⟨k,c,e,cellK x c e _ z⟩
 ·obtain⟨v,z⟩:=I.cell x c e
  exact⟨v,cellK x c e v z⟩
 ·obtain⟨m,⟨o,_,_,ho,_⟩,_⟩:=I.loc
  exact free _ o (λz=>(hch _ z).2.1 rfl) ho I.free
 ·obtain⟨v,o,ho,hd⟩:=I.cell x c e
  exact free c o (λz=>(hch c z).2.2.1 x c e rfl) ho (I.freeC x c e)
 ·obtain⟨e,n,ne,nf,d⟩:=I.pin p hp
  have nch:p.1∉ch:=λz=>(hch p.1 z).2.2.2 p hp rfl
  exact⟨keep p.1 p.2 ne nf nch e n,free p.1 p.2 nch e n,ne,nf,d⟩
theorem Inv.un{t':Nat}(I:Inv X pins σ H s)(u:Un X.fs [] H H' s.heap h')(hok:HOk X.prog X.w H' h'):Inv X pins σ H' {s with heap:=h',toks:=t'}:=by
 obtain⟨m,⟨o,es,ep,ho,r⟩,_⟩:=id I.loc
 obtain⟨sl,hL⟩:=u.any ho I.free (by simp)
 exact I.step (g':=s.gens) (d':=s.drawn) (ch:=[]) (λ_ z=>nomatch z) (λb o _ hb _ e n=>u.keep b o e n hb (by simp)) (λb o _ hb _ e n=>u.slot b o e n hb (by simp)) (λb o _ e n=>u.free b o e n (by simp)) (λb o _ e=>u.there b o e (by simp)) u.tups u.frzs u.tbls (λm' hm=>by
  obtain⟨o',es',ep',ho',r'⟩:=hm
  rw[ho]at ho';cases ho'
  exact⟨_,es',ep',hL,r'⟩) hok I.bare
theorem Inv.call{g':Array GenState}{t':Nat}{d':Drawn}{ch:List Addr}(I:Inv X pins σ H s)(u:Un (frs X.stack) ch H H' s.heap h')(hok:HOk X.prog X.w H' h')(hg:AllBare g')
  (hch:∀b∈ch,(b∈X.ex\/X.s₀.heap.objs.size<=b)/\b≠X.env.locals/\(∀x c,X.env.cells.lookup x=some c->c≠b)/\∀p∈X.pn++pins,p.1≠b) :
  Inv X pins σ H' {s with heap:=h',gens:=g',drawn:=d',toks:=t'}:=by
 obtain⟨m,⟨o,es,ep,ho,r⟩,_⟩:=id I.loc
 obtain⟨sl,hL⟩:=u.any ho I.free λz=>(hch _ z).2.1 rfl
 exact I.step (ch:=ch) hch (λb o hL hb hc e n=>u.keep b o e n (λz=>(List.mem_cons.mp (I.stkSub b z)).elim hL hb) hc) (λb o _ _ hc e n=>u.any e n hc) (λb o hc e n=>u.free b o e n hc) (λb o hc e=>u.there b o e hc) u.tups u.frzs u.tbls (λm' hm=>by
  obtain⟨o',es',ep',ho',r'⟩:=hm
  rw[ho]at ho';cases ho'
  exact⟨_,es',ep',hL,r'⟩) hok hg
theorem Inv.turned{t':Nat}{it:Addr}(I:Inv X pins σ H s)(k:∀b o,b≠it->s.heap.get? b=some o->h'.get? b=some o)(hn:H it=none)(hL:it≠X.env.locals)
  (h1:it∈X.ex\/X.s₀.heap.objs.size<=it) (h2:∀x c,X.env.cells.lookup x=some c->c≠it) (h3:∀p∈X.pn++pins,p.1≠it):Inv X pins σ H {s with heap:=h',toks:=t'}:=by
 have nit:∀b u,H b=some u->b≠it:=λb u e z=>by rw[z,hn]at e;cases e
 refine I.step (g':=s.gens) (d':=s.drawn) (ch:=[it]) (λb hb=>?_) (λb o _ _ hc e _=>k b o (λz=>hc (by simp[z])) e) (λb o _ _ hc e _=>⟨o.slots,k b o (λz=>hc (by simp[z])) e⟩) (λ_ _ _ _ n=>n)
  (λb o hc e=>⟨o,k b o (λz=>hc (by simp[z])) e⟩) (λ_ _ e=>e) (λ_ _ _ e=>e) (λb ps e=>⟨#[],by rw[e];simp⟩) (λm hm=>?_) (λb u e=>?_) I.bare
 ·have e:b=it:=by simpa using hb
  subst e
  exact⟨h1,hL,h2,h3⟩
 ·obtain⟨o,es,ep,ho,r⟩:=hm
  exact⟨o,es,ep,k _ o (zaJ hL) ho,r⟩
 ·refine(I.hok b u e).stay (λc v hc q=>k c v ?_ q) (λ_ q=>q) λ_ _ q=>q
  rcases hc with z|z
  ·rw[z];exact nit b u e
  ·exact nit c _ z
theorem Inv.tok(I:Inv X pins σ H s)(t:Nat):Inv X pins σ H {s with toks:=t}:=I.un (h':=s.heap) (t':=t) Un.refl I.hok
theorem Inv.kept{t':Nat}(I:Inv X pins σ H s)(k:∀b u,s.heap.get? b=some u->h'.get? b=some u):Inv X pins σ H {s with heap:=h',toks:=t'}:=I.un (Un.kept k) (I.hok.kept k)
theorem Inv.laid{a:Addr}{o:HO}{t':Nat}(I:Inv X pins σ H s)(k:∀b u,s.heap.get? b=some u->h'.get? b=some u)(hp:s.heap.objs.size<=a)(new:ObjOk X.prog X.w (upd H a o) h' a o) :
  Inv X pins σ (upd H a o) {s with heap:=h',toks:=t'}:=I.un (Un.laid k hp (I.hok.fresh hp)) (I.hok.laid k hp new)
theorem Inv.write{x e:Addr}{o:HO}{t':Nat}(I:Inv X pins σ H s)(mu:Mut (H x))(he:e=x\/H e=some (.own x))(k:∀b u,b≠e->s.heap.get? b=some u->h'.get? b=some u)(heo:∃u,h'.get? e=some u)
  (new:ObjOk X.prog X.w (upd H x o) h' x o):Inv X pins σ (upd H x o) {s with heap:=h',toks:=t'}:=I.un (Un.write mu he k heo) (I.hok.write mu he k heo new)
theorem Inv.pins_of{pins':List (Addr×Obj)}(I:Inv X pins σ H s)(h:∀p∈pins',s.heap.get? p.1=some p.2/\H p.1=none/\p.1≠X.env.locals/\p.1∉X.fs/\∀v,p.2.data≠.cell v):Inv X pins' σ H s:=
 ⟨I.ok,I.os,I.bare,I.base,I.loc,I.cell,I.free,I.freeC,λp hp=>(List.mem_append.mp hp).elim (λz=>I.pin p (List.mem_append_left _ z)) (h p),I.hok,I.len⟩
theorem qhi{N:List Str}(hN:N.Nodup){i j:Nat}{x:Str}(a:N[i]?=some x)(b:N[j]?=some x):i=j:=by
 obtain⟨h1,e1⟩:=List.getElem?_eq_some_iff.mp a
 obtain⟨h2,e2⟩:=List.getElem?_eq_some_iff.mp b
 exact(List.getElem_inj hN).mp (e1.trans e2.symm)
theorem qfh{M:Model}{A:Around}{E:Value->Shared->Prop}{i:Nat}{x:Str}{v:V}{u:Value}{Q:Unit->Shared->Prop}(I:Inv X pins σ H s)(hN:X.N.Nodup)(hi:X.N[i]?=some x)(hx:Loc X.env.scope x)(r:RelV v u)
  (h:∀s',Inv X pins (σ.set i (some v)) H s'->(∃a,zaM a s.heap s'.heap/\(a=X.env.locals\/X.env.cells.lookup x=some a))->Q () s') (hf:X.fn x=true\/X.env.scope.names.lookup x=some .local:=by first|exact .inl rfl|exact .inr rfl|assumption):wpAny M A (storeName X.env x u) Q E s:=by
 obtain⟨m,hn,hl⟩:=id I.loc
 have hcls:(X.env.scope.kind == .class || (X.env.scope.kind == .module && X.env.locals != X.env.globals))=false:=by rw[I.ok.kind];rfl
 have hiσ:i<σ.length:=by rw[I.len];exact(List.getElem?_eq_some_iff.mp hi).1
 have cne:=I.cne
 have tracked:∀ {a:Addr} {h':Heap},(∃o,s.heap.get? a=some o/\H a=none)->zaM a s.heap h'->HOk X.prog X.w H h':=λ{a h'} ha hs b ob e=>by
  obtain⟨_,_,hfree⟩:=ha
  refine(I.hok b ob e).stay (λc w' hc q=>(hs.2 c ?_).trans q) (λ_ q=>q) λ_ _ q=>q
  rintro rfl
  rcases hc with rfl|hc
  ·rw[hfree]at e;cases e
  ·rw[hfree]at hc;cases hc
 rcases hx with hk|hk
 ·refine wpAny_storeName_local hk hn (λh' hn' hs=>?_) hcls
  obtain⟨oL,_,_,hoL,_⟩:=id hn
  refine h _ ⟨I.ok,I.os,I.bare,⟨λb o e n hb hx=>?_,λb o e n hb hx=>?_,I.base.free,λb o e hx=>?_,I.base.tups,I.base.frzs,I.base.tbls⟩,⟨_,hn',λj y v' e1 e2 e3=>?_⟩,λy c e=>?_,I.free,I.freeC,λp hp=>?_,tracked ⟨oL,hoL,I.free⟩ hs,by simpa using I.len⟩ ⟨_,hs,.inl rfl⟩
  ·exact(hs.2 b (zaw (za0 (zah e) I.ok.above))).trans (I.base.keep b o e n hb hx)
  ·obtain⟨sl,e1⟩:=I.base.slot b o e n hb hx
   exact⟨sl,(hs.2 b (zaw (za0 (zah e) I.ok.above))).trans e1⟩
  ·obtain⟨o',e1⟩:=I.base.there b o e hx
   exact⟨o',(hs.2 b (zaw (za0 (zah e) I.ok.above))).trans e1⟩
  ·by_cases hj:j=i
   ·subst hj
    rw[hi]at e1;cases e1
    rw[List.getElem?_set_self hiσ]at e2
    cases e2
    exact⟨u,r,.inl ⟨hk,by simp⟩⟩
   ·rw[List.getElem?_set_ne (zaJ hj)]at e2
    obtain⟨u',r',q⟩:=hl j y v' e1 e2 e3
    refine⟨u',r',?_⟩
    rcases q with⟨k,e⟩|⟨k,c,e,z⟩
    ·refine .inl ⟨k,?_⟩
     have:y≠x:=λe=>hj (qhi hN e1 (e ▸ hi))
     simp[this,e]
    ·exact .inr ⟨k,c,e,z.sameBut hs (cne y c e)⟩
  ·obtain⟨w',z⟩:=I.cell y c e
   exact⟨w',z.sameBut hs (cne y c e)⟩
  ·obtain⟨e,n,ne,nf,d⟩:=I.pin p hp
   exact⟨(hs.2 p.1 ne).trans e,n,ne,nf,d⟩
 ·have hfn:X.fn x=true:=by
   rcases hf with z|z
   ·exact z
   ·rw[z]at hk;cases hk
  obtain⟨c,hc⟩:=I.ok.has x (.inl hk)
  obtain⟨w',z⟩:=I.cell x c hc
  refine wpAny_storeName_cell I.ok.kind hk hc z (λh' hc' hs=>?_)
  obtain⟨oc,hoc,hocd⟩:=id z
  refine h {s with heap:=h'} ⟨I.ok,I.os,I.bare,⟨λb o e n hb hx=>?_,λb o e n hb hx=>?_,I.base.free,λb o e hx=>?_,I.base.tups,I.base.frzs,I.base.tbls⟩,⟨m,hn.sameBut hs (zaJ (cne x c hc)),λj y v' e1 e2 e3=>?_⟩,λy c' e=>?_,I.free,I.freeC,λp hp=>?_,tracked ⟨oc,hoc,I.freeC x c hc⟩ hs,by simpa using I.len⟩ ⟨c,hs,.inr hc⟩
  ·exact(hs.2 b (zaw (za0 (zah e) (I.ok.cab x c hfn hc)))).trans (I.base.keep b o e n hb hx)
  ·obtain⟨sl,e1⟩:=I.base.slot b o e n hb hx
   exact⟨sl,(hs.2 b (zaw (za0 (zah e) (I.ok.cab x c hfn hc)))).trans e1⟩
  ·obtain⟨o',e1⟩:=I.base.there b o e hx
   exact⟨o',(hs.2 b (zaw (za0 (zah e) (I.ok.cab x c hfn hc)))).trans e1⟩
  ·by_cases hj:j=i
   ·subst hj
    rw[hi]at e1;cases e1
    rw[List.getElem?_set_self hiσ]at e2
    cases e2
    exact⟨u,r,.inr ⟨.inl hk,c,hc,hc'⟩⟩
   ·rw[List.getElem?_set_ne (zaJ hj)]at e2
    obtain⟨u',r',q⟩:=hl j y v' e1 e2 e3
    refine⟨u',r',?_⟩
    rcases q with q|⟨k,c',e,z'⟩
    ·exact .inl q
    ·refine .inr ⟨k,c',e,z'.sameBut hs ?_⟩
     rintro rfl
     exact hj (qhi hN e1 (I.ok.inj _ _ _ e hc ▸ hi))
  ·by_cases hcc:c'=c
   ·subst hcc;exact⟨_,hc'⟩
   ·obtain⟨w2,z2⟩:=I.cell y c' e
    exact⟨w2,z2.sameBut hs hcc⟩
  ·obtain⟨e,n,ne,nf,d⟩:=I.pin p hp
   refine⟨(hs.2 p.1 ?_).trans e,n,ne,nf,d⟩
   intro q
   rw[q,hoc]at e
   have q':oc=p.2:=zaA e
   exact d w' (by rw[<- q'];exact hocd)
theorem qhq{M:Model}{A:Around}{E:Value->Shared->Prop}{i:Nat}{x:Str}{v:V}{u:Value}{Q:Unit->Shared->Prop}(I:Inv X pins σ H s)(hN:X.N.Nodup)(hi:X.N[i]?=some x)(hx:Loc X.env.scope x)(r:RelV v u)
  (h:∀s',Inv X pins (σ.set i (some v)) H s'->Q () s') (hf:X.fn x=true\/X.env.scope.names.lookup x=some .local:=by first|exact .inl rfl|exact .inr rfl|assumption):wpAny M A (storeName X.env x u) Q E s:=
 qfh I hN hi hx r (λs' I' _=>h s' I') hf
theorem Inv.call'{s':Shared}{ch:List Addr}(I:Inv X pins σ H s)(ho:s'.os=s.os)(u:Un (frs X.stack) ch H H' s.heap s'.heap)(hok:HOk X.prog X.w H' s'.heap)(hg:AllBare s'.gens)
  (hch:∀b∈ch,(b∈X.ex\/X.s₀.heap.objs.size<=b)/\b≠X.env.locals/\(∀x c,X.env.cells.lookup x=some c->c≠b)/\∀p∈X.pn++pins,p.1≠b):Inv X pins σ H' s':=by
 obtain⟨h',g',d',t',o'⟩:=s'
 have e:o'=s.os:=ho
 subst e
 exact I.call (g':=g') (t':=t') (d':=d') u hok hg hch
end
noncomputable abbrev XK:=Value->Option Addr->Hp->Prop
noncomputable abbrev St:=List (Option V)
noncomputable abbrev VK:=V->Hp->Prop
noncomputable abbrev TE:=St->Hp->VK->Prop
noncomputable abbrev TT:=St->Hp->(Bool->Hp->Prop)->Prop
noncomputable abbrev TA:=St->Hp->(List V->Hp->Prop)->Prop
structure Ends where
 nx:St->Hp->Prop
 rt:VK
 bk:St->Hp->Prop:=λ_ _=>False
 ct:St->Hp->Prop:=λ_ _=>False
noncomputable abbrev TS:=Ends->St->Hp->Prop
inductive EP(X:Cx)(pins:List (Addr×Obj))(σ:St)(Q:VK)(u:Value)(s':Shared):Prop
 | mk (v:V) (H':Hp) (i:Inv X pins σ H' s') (r:RelV v u) (q:Q v H'):EP X pins σ Q u s'
inductive TP(X:Cx)(pins:List (Addr×Obj))(σ:St)(Q:Bool->Hp->Prop)(b:Bool)(s':Shared):Prop
 | mk (H':Hp) (i:Inv X pins σ H' s') (q:Q b H'):TP X pins σ Q b s'
inductive AP(X:Cx)(pins:List (Addr×Obj))(σ:St)(Q:List V->Hp->Prop)(us:List Value)(s':Shared):Prop
 | mk (vs:List V) (H':Hp) (i:Inv X pins σ H' s') (r:Vals vs us) (q:Q vs H'):AP X pins σ Q us s'
noncomputable def SP(X:Cx)(pins:List (Addr×Obj))(D:Ends)(f:Flow)(s':Shared):Prop:=
 match f with
 | .next=>∃σ' H',Inv X pins σ' H' s'/\D.nx σ' H'
 | .brk=>∃σ' H',Inv X pins σ' H' s'/\D.bk σ' H'
 | .cont=>∃σ' H',Inv X pins σ' H' s'/\D.ct σ' H'
 | .ret u=>∃v σ' H',Inv X pins σ' H' s'/\RelV v u/\D.rt v H'
noncomputable def PE(X:Cx)(e:Expr)(t:TE):Prop:=
 ∀(pins:List (Addr×Obj)) (s:Shared) (σ:St) (H:Hp) (Q:VK),Inv X pins σ H s->t σ H Q->wpAny (model X.prog X.w) X.A (eval e X.env) (EP X pins σ Q) X.xe s
noncomputable def PT(X:Cx)(e:Expr)(t:TT):Prop:=
 ∀(pins:List (Addr×Obj)) (s:Shared) (σ:St) (H:Hp) (Q:Bool->Hp->Prop),Inv X pins σ H s->t σ H Q->wpAny (model X.prog X.w) X.A (isTrue e X.env (eval e X.env)) (TP X pins σ Q) X.xe s
noncomputable def PW(X:Cx)(e:Expr)(t:TT):Prop:=
 ∀(whole:Sem Value) (pins:List (Addr×Obj)) (s:Shared) (σ:St) (H:Hp) (Q:Bool->Hp->Prop),Inv X pins σ H s->t σ H Q->wpAny (model X.prog X.w) X.A (isTrue e X.env whole) (TP X pins σ Q) X.xe s
theorem PW.pt{X:Cx}{e:Expr}{t:TT}(h:PW X e t):PT X e t:=h _
noncomputable def PA(X:Cx)(es:List Expr)(t:TA):Prop:=
 ∀(pos:Pos) (pins:List (Addr×Obj)) (s:Shared) (σ:St) (H:Hp) (Q:List V->Hp->Prop),Inv X pins σ H s->t σ H Q->wpAny (model X.prog X.w) X.A (spliced (backTo pos (zaf es X.env))) (AP X pins σ Q) X.xe s
noncomputable def PS(X:Cx)(st:Stmt)(t:TS):Prop:=
 ∀(pins:List (Addr×Obj)) (s:Shared) (σ:St) (H:Hp) (D:Ends),Inv X pins σ H s->t D σ H->wpAny (model X.prog X.w) X.A (exec st X.env) (SP X pins D) X.xe s
noncomputable def PSs(X:Cx)(st:List Stmt)(t:TS):Prop:=
 ∀(pins:List (Addr×Obj)) (s:Shared) (σ:St) (H:Hp) (D:Ends),Inv X pins σ H s->t D σ H->wpAny (model X.prog X.w) X.A (execs st X.env) (SP X pins D) X.xe s
theorem thn{α:Type}{t:Sem α}{Q Q':α->Shared->Prop}{M:Model}{A:Around}{E:Value->Shared->Prop}{s:Shared}(h:wpAny M A t Q E s)(hQ:∀a s,Q a s->Q' a s):wpAny M A t Q' E s:=zaZ h hQ λ_ _ x=>x
section
variable {X:Cx}
noncomputable def tVar(i:Nat):TE:=λσ H Q=>∃v,σ[i]?=some (some v)/\Q v H
noncomputable def tC(v:V):TE:=λ_ H Q=>Q v H
theorem qoL{i:Nat}{x:Str}{pos:Pos}(hN:X.N[i]?=some x)(hv:Vis X.env.scope x)(hd:(x == ("__debug__" : Str))=false:=by decide)(hcd:(x == ("__classdict__" : Str))=false:=by decide):PE X (.Name x pos) (tVar i):=by
 intro pins s σ H Q I h
 obtain⟨v,e,h⟩:=h
 obtain⟨m,hn,hl⟩:=I.loc
 obtain⟨u,r,l⟩:=hl i x v hN e hv
 have fin:EP X pins σ Q u s:=⟨v,H,I,r,h⟩
 rcases l with⟨hk,hm⟩|⟨hk,c,hc,hcell⟩
 ·exact wpAny_Name (wpAny_loadName_local I.ok.kind hk hn hm fin) hd
 ·rcases hk with hk|hk
  ·exact wpAny_Name (wpAny_loadName_cell I.ok.kind hk hc hcell fin) hd
  ·exact wpAny_Name (wpAny_loadName_free I.ok.kind hk hc hcell fin hcd) hd
theorem qpZ{i j pos}:PE X (.Constant (.int i) j pos) (tC (.int i)):=λ_ _ _ H _ I h=>wpAny_Constant_int ⟨.int i,H,I.tok _,⟨_,rfl⟩,h⟩
theorem qqP{b j pos}:PE X (.Constant (.bool b) j pos) (tC (.bl b)):=λ_ _ _ H _ I h=>Constant_bool ⟨.bl b,H,I,rfl,h⟩
theorem qpk{x j pos}:PE X (.Constant (.str x) j pos) (tC (.str x)):=λ_ _ _ H _ I h=>Calls.Constant_str ⟨.str x,H,I.tok _,⟨_,rfl⟩,h⟩
noncomputable def Gl(X:Cx)(x:Str):Prop:=X.env.kindOf x=some .globalImplicit
theorem qiE{E:Value->Shared->Prop}{pins:List (Addr×Obj)}{s:Shared}{σ:St}{H:Hp}{x:Str}{u:Value}{pos:Pos}{Q:Value->Shared->Prop}(I:Inv X pins σ H s)(hg:Gl X x)(hm:X.mg x=some u)(h:Q u s)
  (hd:(x == ("__debug__" : Str))=false:=by decide):wpAny (model X.prog X.w) X.A (eval (.Name x pos) X.env) Q E s:=
 Calls.Name_function_global I.ok.kind hg (Calls.loadGlobal_global (by rw[I.ok.glob];exact I.mod.glob.keeps I.bk) hm h) hd
theorem qbs{E:Value->Shared->Prop}{pins:List (Addr×Obj)}{s:Shared}{σ:St}{H:Hp}{x:Str}{u:Value}{pos:Pos}{Q:Value->Shared->Prop}(I:Inv X pins σ H s)(hg:Gl X x)(hm:X.mg x=none)(hv:zaE x=some u)(h:Q u s)
  (hn:x ≠ "__name__" := by decide) (hd:(x == ("__debug__" : Str))=false:=by decide):wpAny (model X.prog X.w) X.A (eval (.Name x pos) X.env) Q E s:=by
 obtain⟨mb,h1,h2⟩:=I.mod.blt
 exact Calls.Name_function_global I.ok.kind hg (Calls.loadGlobal_builtin (by rw[I.ok.glob];exact I.mod.glob.keeps I.bk) hm (by rw[I.ok.blt];exact h1.keeps I.bk) ((h2 x hn).trans hv) h) hd
theorem qiQ{x:Str}{v:V}{u:Value}{pos:Pos}(hg:Gl X x)(hm:X.mg x=some u)(r:RelV v u)(hd:(x == ("__debug__" : Str))=false:=by decide):PE X (.Name x pos) (tC v):=
 λ_ _ _ H _ I h=>qiE I hg hm ⟨v,H,I,r,h⟩ hd
theorem qmF{x:Str}{v:V}{u:Value}{pos:Pos}(hg:Gl X x)(hm:X.mg x=none)(hv:zaE x=some u)(r:RelV v u)(hn:x ≠ "__name__" := by decide)(hd:(x == ("__debug__" : Str))=false:=by decide):PE X (.Name x pos) (tC v):=
 λ_ _ _ H _ I h=>qbs I hg hm hv ⟨v,H,I,r,h⟩ hn hd
variable {a b:Expr}{ta tb:TE}{pos:Pos}
noncomputable def tB(t:TE):TT:=λσ H Q=>t σ H λx H1=>∃c,x=.bl c/\Q c H1
theorem qpj{e:Expr}{t:TE}(h:PE X e t)(he:∀whole,isTrue e X.env whole=(do let v <- whole;standAt e.pos;holding [v] (truthy v)):=by intro _;rfl):PT X e (tB t):=by
 intro pins s σ H Q I hw
 refine isTrue_plain (thn (h pins s σ H _ I hw) λv s1 ⟨x,H1,I1,r1,q1⟩=>?_) (he _)
 obtain⟨d,rfl,q⟩:=q1
 cases r1
 exact zbg ⟨H1,I1,q⟩
variable {tA tB':TT}{rest:List Expr}
noncomputable def tAnd(t u:TT):TT:=λσ H Q=>t σ H λc H1=>if c=true then u σ H1 Q else Q false H1
noncomputable def tOr(t u:TT):TT:=λσ H Q=>t σ H λc H1=>if c=true then Q true H1 else u σ H1 Q
noncomputable def tNot(t:TT):TT:=λσ H Q=>t σ H λc H1=>Q (!c) H1
theorem qmX(ha:PT X a tA):PW X (.BoolOp .And [a] pos) tA:=by
 intro wh pins s σ H Q I h
 refine isTrue_and (thn (ha pins s σ H Q I h) λc s1 e=>?_)
 cases c with
 | true=>exact isTrue_and_nil e
 | false=>exact e
theorem qpL(ha:PT X a tA):PW X (.BoolOp .Or [a] pos) tA:=by
 intro wh pins s σ H Q I h
 refine isTrue_or (thn (ha pins s σ H Q I h) λc s1 e=>?_)
 cases c with
 | false=>exact isTrue_or_nil e
 | true=>exact e
theorem qoe(ha:PT X a tA)(hb:PW X (.BoolOp .And (b::rest) pos) tB'):PW X (.BoolOp .And (a::b::rest) pos) (tAnd tA tB'):=by
 intro wh pins s σ H Q I h
 refine isTrue_and (thn (ha pins s σ H _ I h) λc s1 ⟨H1,I1,q1⟩=>?_)
 cases c with
 | true=>exact hb wh pins s1 σ H1 Q I1 q1
 | false=>exact⟨H1,I1,q1⟩
theorem qqs(ha:PT X a tA)(hb:PW X (.BoolOp .Or (b::rest) pos) tB'):PW X (.BoolOp .Or (a::b::rest) pos) (tOr tA tB'):=by
 intro wh pins s σ H Q I h
 refine isTrue_or (thn (ha pins s σ H _ I h) λc s1 ⟨H1,I1,q1⟩=>?_)
 cases c with
 | true=>exact⟨H1,I1,q1⟩
 | false=>exact hb wh pins s1 σ H1 Q I1 q1
theorem qog(ha:PT X a tA):PT X (.UnaryOp .Not a pos) (tNot tA):=by
 intro pins s σ H Q I h
 exact isTrue_not (thn (ha pins s σ H (λc H1=>Q (!c) H1) I h) λ_ _ ⟨H',i,q⟩=>⟨H',i,q⟩)
noncomputable def qqm(ta tb:TE):TE:=λσ H Q=>ta σ H λx H1=>∃c,x=.bl c/\if c=true then tb σ H1 Q else Q (.bl false) H1
noncomputable def qqG(ta:TE):TE:=λσ H Q=>ta σ H λx H1=>∃c,x=.bl c/\Q (.bl (!c)) H1
theorem qqf{op}{t:TE}(h:PE X a t):PE X (.BoolOp op [a] pos) t:=λpins s σ H Q I hw=>BoolOp_one (h pins s σ H Q I hw)
theorem qoS(ha:PE X a ta)(hb:PE X (.BoolOp .And (b::rest) pos) tb):PE X (.BoolOp .And (a::b::rest) pos) (qqm ta tb):=by
 intro pins s σ H Q I h
 refine BoolOp_and (thn (ha pins s σ H _ I h) λv s1 ⟨x,H1,I1,r1,q1⟩=>?_)
 obtain⟨c,rfl,q1⟩:=q1
 cases r1
 refine zbg ?_
 cases c with
 | true=>exact hb pins s1 σ H1 Q I1 q1
 | false=>exact⟨.bl false,H1,I1,rfl,q1⟩
theorem qoq(ha:PE X a ta):PE X (.UnaryOp .Not a pos) (qqG ta):=by
 intro pins s σ H Q I h
 refine UnaryOp_ (thn (ha pins s σ H _ I h) λv s1 ⟨x,H1,I1,r1,q1⟩=>?_)
 obtain⟨c,rfl,q1⟩:=q1
 cases r1
 exact not_of (zbg ⟨.bl (!c),H1,I1,rfl,q1⟩)
noncomputable def tIf(t:TT)(ta tb:TE):TE:=λσ H Q=>t σ H λc H1=>if c=true then ta σ H1 Q else tb σ H1 Q
theorem qlv{c:Expr}(hc:PT X c tA)(ha:PE X a ta)(hb:PE X b tb):PE X (.IfExp c a b pos) (tIf tA ta tb):=by
 intro pins s σ H Q I h
 refine wpAny_IfExp (thn (hc pins s σ H _ I h) λd s1 ⟨H1,I1,q1⟩=>?_)
 cases d with
 | true=>exact ha pins s1 σ H1 Q I1 q1
 | false=>exact hb pins s1 σ H1 Q I1 q1
end
noncomputable def SqL(K:zae)(H:Hp)(a:Addr)(xs:List V):Prop:=
 Rd H a (.lst xs) \/
  ∃(o:Obj) (its:Array Value) (n:Nat),K.lookup a=some o/\o.cls=.type "list" /\ o.dict=none/\o.data=.seq its n/\its.size<=zaj/\Vals xs its.toList
noncomputable def SqT(K:zae)(H:Hp)(a:Addr)(xs:List V):Prop:=
 Rd H a (.tup xs) \/
  ∃(o:Obj) (its:Array Value) (n:Nat),K.lookup a=some o/\o.cls=.type "tuple" /\ o.data=.seq its n/\its.size<=zaj/\Vals xs its.toList
noncomputable def absV:Value->Option V
 | .none=>some .non
 | .bool b=>some (.bl b)
 | .int i _=>some (.int i)
 | .str x _=>some (.str x)
 | .bytes b _=>some (.byt b)
 | .float b _=>some (.flt b)
 | .ref a=>some (.ref a)
 | .type n=>some (.ty n)
 | _=>none
theorem RelV.abs{x:V}{u:Value}(r:RelV x u):absV u=some x:=by
 cases x with
 | non=>cases r;rfl
 | bl _=>cases r;rfl
 | int _=>obtain⟨t,rfl⟩:=r;rfl
 | str _=>obtain⟨t,rfl⟩:=r;rfl
 | byt _=>obtain⟨t,rfl⟩:=r;rfl
 | flt _=>obtain⟨t,rfl⟩:=r;rfl
 | ref _=>cases r;rfl
 | ty _=>cases r;rfl
theorem RelV.inj{x y:V}{u:Value}(r:RelV x u)(q:RelV y u):x=y:=zaA (r.abs.symm.trans q.abs)
theorem Vals.inj:∀ {xs ys:List V} {us:List Value},Vals xs us->Vals ys us->xs=ys
 | _,_,_,.nil,.nil=>rfl
 | _,_,_,.cons r t,.cons r' t'=>by rw[r.inj r',Vals.inj t t']
section
variable {X:Cx}{pins:List (Addr×Obj)}{σ:St}{H:Hp}{s:Shared}{a:Addr}{xs ys:List V}
theorem SqL.of{K:zae}(h:H a=some (.lst xs)):SqL K H a xs:=.inl (.inl h)
theorem SqT.of{K:zae}(h:H a=some (.tup xs)):SqT K H a xs:=.inl (.inl h)
theorem Inv.list(I:Inv X pins σ H s)(h:SqL X.K H a xs):∃its:List Value,Vals xs its/\PlainL s.heap a its.toArray/\xs.length<=zaj:=by
 rcases h with h|⟨o,its,n,hk,hc,hd,hs,hz,r⟩
 ·obtain⟨z,its,n,r,e⟩:=h.ok I.hok
  exact⟨its,r,⟨_,n,e,rfl,rfl,rfl⟩,z⟩
 ·refine⟨its.toList,r,⟨o,n,I.kIn a o hk,hc,hd,by simpa using hs⟩,?_⟩
  have e:=r.length
  simp only[za7]at e
  omega
theorem Inv.tuple(I:Inv X pins σ H s)(h:SqT X.K H a xs):∃its:List Value,Vals xs its/\IsTup s.heap a its.toArray/\xs.length<=zaj:=by
 rcases h with h|⟨o,its,n,hk,hc,hs,hz,r⟩
 ·obtain⟨z,its,r,p⟩:=h.ok I.hok
  exact⟨its,r,p.tup,z⟩
 ·refine⟨its.toList,r,⟨o,I.kIn a o hk,hc,n,by simpa using hs⟩,?_⟩
  have e:=r.length
  simp only[za7]at e
  omega
theorem Inv.list_inj(I:Inv X pins σ H s)(h:SqL X.K H a xs)(h':SqL X.K H a ys):xs=ys:=by
 obtain⟨its,r,⟨o,n,e,_,_,d⟩,_⟩:=I.list h
 obtain⟨its',r',⟨o',n',e',_,_,d'⟩,_⟩:=I.list h'
 rw[e]at e';cases e'
 rw[d]at d'
 injection d' with d1 _
 have:its=its':=by simpa using congrArg Array.toList d1
 subst this
 exact r.inj r'
theorem Inv.tuple_inj(I:Inv X pins σ H s)(h:SqT X.K H a xs)(h':SqT X.K H a ys):xs=ys:=by
 obtain⟨its,r,⟨o,e,_,n,d⟩,_⟩:=I.tuple h
 obtain⟨its',r',⟨o',e',_,n',d'⟩,_⟩:=I.tuple h'
 rw[e]at e';cases e'
 rw[d]at d'
 injection d' with d1 _
 have:its=its':=by simpa using congrArg Array.toList d1
 subst this
 exact r.inj r'
end
noncomputable abbrev Cx.wish(X:Cx)(E:Value->Shared->Prop):Cx:={X with xe:=E}
noncomputable abbrev Cx.nox(X:Cx):Cx:=X.wish λ_ _=>False
theorem Cx.Ok.wish{X:Cx}(ok:X.Ok)(E:Value->Shared->Prop):(X.wish E).Ok:=
 ⟨ok.mod,ok.kind,ok.glob,ok.blt,ok.above,ok.inj,ok.has,ok.cab,ok.hd,ok.frames,ok.stk,ok.exf,ok.bs,ok.bsz,ok.noex,ok.exfs,ok.funs,ok.frf⟩
theorem Cx.Ok.unwish{X:Cx}{E:Value->Shared->Prop}(ok:(X.wish E).Ok):X.Ok:=
 ⟨ok.mod,ok.kind,ok.glob,ok.blt,ok.above,ok.inj,ok.has,ok.cab,ok.hd,ok.frames,ok.stk,ok.exf,ok.bs,ok.bsz,ok.noex,ok.exfs,ok.funs,ok.frf⟩
section
variable {X:Cx}{pins:List (Addr×Obj)}{σ:St}{H:Hp}{s:Shared}{E:Value->Shared->Prop}
theorem Inv.wish(I:Inv X pins σ H s)(E:Value->Shared->Prop):Inv (X.wish E) pins σ H s:=⟨I.ok.wish E,I.os,I.bare,I.base,I.loc,I.cell,I.free,I.freeC,I.pin,I.hok,I.len⟩
theorem Inv.unwish(I:Inv (X.wish E) pins σ H s):Inv X pins σ H s:=⟨I.ok.unwish,I.os,I.bare,I.base,I.loc,I.cell,I.free,I.freeC,I.pin,I.hok,I.len⟩
theorem SP.unwish{D:Ends}{f:Flow}{s':Shared}(h:SP (X.wish E) pins D f s'):SP X pins D f s':=by
 cases f with
 | next=>obtain⟨σ',H',I,q⟩:=h;exact⟨σ',H',I.unwish,q⟩
 | brk=>obtain⟨σ',H',I,q⟩:=h;exact⟨σ',H',I.unwish,q⟩
 | cont=>obtain⟨σ',H',I,q⟩:=h;exact⟨σ',H',I.unwish,q⟩
 | ret u=>obtain⟨v,σ',H',I,r,q⟩:=h;exact⟨v,σ',H',I.unwish,r,q⟩
theorem PE.nox{e:Expr}{t:TE}(h:PE X.nox e t):PE X e t:=λpins s σ H Q I hw=>
 zaZ (h pins s σ H Q (I.wish _) hw) (λ_ _ ⟨v,H',I',r,q⟩=>⟨v,H',I'.unwish,r,q⟩) λ_ _ z=>zbh z
theorem PT.nox{e:Expr}{t:TT}(h:PT X.nox e t):PT X e t:=λpins s σ H Q I hw=>
 zaZ (h pins s σ H Q (I.wish _) hw) (λ_ _ ⟨H',I',q⟩=>⟨H',I'.unwish,q⟩) λ_ _ z=>zbh z
theorem PSs.nox{st:List Stmt}{t:TS}(h:PSs X.nox st t):PSs X st t:=λpins s σ H D I hw=>
 zaZ (h pins s σ H D (I.wish _) hw) (λ_ _ q=>q.unwish) λ_ _ z=>zbh z
end
section
variable {X:Cx}{st:Stmt}{rest:List Stmt}{t u:TS}{e:Expr}{te:TE}{pos:Pos}
noncomputable def qqT:TS:=λD σ H=>D.nx σ H
noncomputable def tSeq(t u:TS):TS:=λD σ H=>t {D with nx:=u D} σ H
theorem qmr:PSs X [] qqT:=λ_ _ σ H _ I h=>wpAny_execs_nil ⟨σ,H,I,h⟩
theorem qlj(h1:PS X st t)(h2:PSs X rest u):PSs X (st::rest) (tSeq t u):=by
 intro pins s σ H D I h
 refine wpAny_execs_cons (thn (h1 pins s σ H {D with nx:=u D} I h) λf s1 q=>?_)
 cases f with
 | next=>
  obtain⟨σ',H',I',q⟩:=q
  exact h2 pins s1 σ' H' D I' q
 | ret v=>exact q
 | brk=>exact q
 | cont=>exact q
theorem qnW(h1:PS X st t):PSs X [st] t:=by
 intro pins s σ H D I h
 refine wpAny_execs_cons (thn (h1 pins s σ H D I h) λf s1 q=>?_)
 cases f with
 | next=>exact wpAny_execs_nil q
 | ret v=>exact q
 | brk=>exact q
 | cont=>exact q
theorem Inv.quiet{pins:List (Addr×Obj)}{σ:St}{H:Hp}{s:Shared}(I:Inv X pins σ H s):interactive X.env=false:=by simp[interactive,I.ok.kind]
noncomputable def qqL(te:TE):TS:=λD σ H=>te σ H λ_ H1=>D.nx σ H1
theorem qiz(he:PE X e te)(hs:zaV e none pos.line X.env=pure false:=by rfl):PS X (.Expr e pos) (qqL te):=by
 intro pins s σ H D I h
 exact wpAny_Expr_any (thn (he pins s σ H _ I h) λv s1 ⟨x,H1,I1,r1,q1⟩=>⟨σ,H1,I1,q1⟩) I.quiet hs
noncomputable def tRet(te:TE):TS:=λD σ H=>te σ H D.rt
theorem qpA(he:PE X e te):PS X (.Return (some e) pos) (tRet te):=by
 intro pins s σ H D I h
 exact wpAny_Return_some (thn (he pins s σ H _ I h) λv s1 ⟨x,H1,I1,r1,q1⟩=>⟨x,σ,H1,I1,r1,q1⟩)
noncomputable def tIfS(c:TT)(t u:TS):TS:=λD σ H=>c σ H λb H1=>if b=true then t D σ H1 else u D σ H1
theorem qqJ{c:Expr}{a b:List Stmt}{tc:TT}(hc:PT X c tc)(ha:PSs X a t)(hb:PSs X b u):PS X (.If c a b pos) (tIfS tc t u):=by
 intro pins s σ H D I h
 refine wpAny_If (thn (hc pins s σ H _ I h) λd s1 ⟨H1,I1,q1⟩=>?_)
 cases d with
 | true=>exact ha pins s1 σ H1 D I1 q1
 | false=>exact hb pins s1 σ H1 D I1 q1
end
noncomputable abbrev TG:=V->St->Hp->(St->Hp->Prop)->Prop
noncomputable abbrev TGs:=List V->St->Hp->(St->Hp->Prop)->Prop
noncomputable def PG(X:Cx)(target:Expr)(t:TG):Prop:=
 ∀(pins:List (Addr×Obj)) (s:Shared) (σ:St) (H:Hp) (v:V) (u:Value) (Q:St->Hp->Prop),Inv X pins σ H s->RelV v u->t v σ H Q->
  wpAny (model X.prog X.w) X.A (assign target X.env u) (λ_ s'=>∃σ' H',Inv X pins σ' H' s'/\Q σ' H') X.xe s
noncomputable def PGs(X:Cx)(ts:List Expr)(t:TGs):Prop:=
 ∀(pins:List (Addr×Obj)) (s:Shared) (σ:St) (H:Hp) (vs:List V) (us:List Value) (Q:St->Hp->Prop),Inv X pins σ H s->Vals vs us->t vs σ H Q->
  wpAny (model X.prog X.w) X.A (assignInOrder ((za2 ts X.env).map (·.2)) us) (λ_ s'=>∃σ' H',Inv X pins σ' H' s'/\Q σ' H') X.xe s
noncomputable abbrev TSet:=V->V->V->Hp->(Hp->Prop)->Prop
noncomputable def PSet(X:Cx)(t:TSet):Prop:=
 ∀(pins:List (Addr×Obj)) (s:Shared) (σ:St) (H:Hp) (o i v:V) (ov iv u:Value) (Q:Hp->Prop),Inv X pins σ H s->RelV o ov->RelV i iv->RelV v u->t o i v H Q->
  wpAny (model X.prog X.w) X.A (setItem ov iv u) (λ_ s'=>∃H',Inv X pins σ H' s'/\Q H') X.xe s
section
variable {X:Cx}{pos:Pos}
noncomputable def qgb(i:Nat):TG:=λv σ H Q=>Q (σ.set i (some v)) H
theorem qgm{i:Nat}{x:Str}(hN:X.N.Nodup)(hi:X.N[i]?=some x)(hx:Loc X.env.scope x)(hf:X.fn x=true\/X.env.scope.names.lookup x=some .local:=by first|exact .inl rfl|exact .inr rfl|assumption):PG X (.Name x pos) (qgb i):=by
 intro pins s σ H v u Q I r h
 exact wpAny_assign_Name (qhq I hN hi hx r (λs' I'=>⟨_,H,I',h⟩) hf)
noncomputable def gNil:TGs:=λvs σ H Q=>vs=[]/\Q σ H
noncomputable def qpG(t:TG)(u:TGs):TGs:=λvs σ H Q=>∃v r,vs=v::r/\t v σ H λσ' H'=>u r σ' H' Q
theorem qnz:PGs X [] gNil:=by
 intro pins s σ H vs us Q I r h
 obtain⟨e,h⟩:=h
 subst e
 cases r
 exact assignInOrder_nil ⟨σ,H,I,h⟩
theorem qkn{e:Expr}{es:List Expr}{t:TG}{u:TGs}(h1:PG X e t)(h2:PGs X es u)
  (hs:(za2 (e::es) X.env).map (·.2)=assign e X.env::(za2 es X.env).map (·.2):=by rfl):PGs X (e::es) (qpG t u):=by
 intro pins s σ H vs us Q I r h
 obtain⟨v,vr,e1,h⟩:=h
 subst e1
 cases r with
 | cons r rr=>
  rw[hs]
  refine assignInOrder_cons (thn (h1 pins s σ H _ _ _ I r h) λ_ s1 ⟨σ1,H1,I1,q1⟩=>?_)
  exact h2 pins s1 σ1 H1 _ _ Q I1 rr q1
noncomputable def gTup(K:zae)(n:Nat)(t:TGs):TG:=λv σ H Q=>∃a xs,v=.ref a/\SqT K H a xs/\xs.length=n/\t xs σ H Q
theorem qlD{es:List Expr}{k:Nat}{t:TGs}{n:Nat}(hc:X.calm=true)(h:PGs X es t)
  (hn:(za2 es X.env).length=n:=by rfl) (hst:(za2 es X.env).findIdx? (·.1)=none:=by rfl):PG X (.Tuple es k pos) (gTup X.K n t):=by
 intro pins s σ H v u Q I r hw
 obtain⟨a,xs,e1,hq,hl,hw⟩:=hw
 subst e1
 cases r
 obtain⟨its,rv,ht,hz⟩:=I.tuple hq
 refine assign_Tuple_tuple (I.ok.hd hc) ht (by simp[hn,<- hl,rv.length]) hst λh' hx=>?_
 have I1:Inv X pins σ H {s with heap:=h'}:=I.kept (t':=s.toks) λb o e=>hx b o (zaw (zah e)) e
 exact h pins _ σ H xs _ Q I1 (by simpa using rv) hw
noncomputable def gSub(to ti:TE)(t:TSet):TG:=λv σ H Q=>to σ H λo H1=>ti σ H1 λi H2=>t o i v H2 λH3=>Q σ H3
theorem qlJ{o i:Expr}{to ti:TE}{t:TSet}(ho:PE X o to)(hi:PE X i ti)(hs:PSet X t)
  (ha:∀v, assign (.Subscript o i pos) X.env v = (do
   let ov <- holding [v] (eval o X.env)
   let iv <- holding [v,ov] (eval i X.env)
   standAt pos
   holding [v,ov,iv] (setItem ov iv v)
   release [v,ov,iv] []):=by intro _;rfl):PG X (.Subscript o i pos) (gSub to ti t):=by
 intro pins s σ H v u Q I r h
 rw[ha]
 refine zaa (zbb (thn (ho pins s σ H _ I h) λov s1 ⟨x,H1,I1,r1,q1⟩=>?_))
 refine zaa (zbb (thn (hi pins s1 σ H1 _ I1 q1) λiv s2 ⟨y,H2,I2,r2,q2⟩=>?_))
 refine zaa (wpAny_standAt (zaa (zbb (thn (hs pins s2 σ H2 x y v ov iv u _ I2 r1 r2 r q2) λ_ s3 ⟨H3,I3,q3⟩=>?_))))
 exact wpAny_release ⟨σ,H3,I3,q3⟩
noncomputable def tAsg(te:TE)(g:TG):TS:=λD σ H=>te σ H λx H1=>g x σ H1 D.nx
theorem qmi{tg e:Expr}{te:TE}{g:TG}(he:PE X e te)(hg:PG X tg g)(hs:swapsWithSole [tg] e pos.line X.env=pure false:=by rfl)(hw:swappedStores [tg] e X.env=pure none:=by rfl)
  (h1:(za2 [tg] X.env).map (·.2)=[assign tg X.env]:=by rfl):PS X (.Assign [tg] e pos) (tAsg te g):=by
 intro pins s σ H D I h
 refine wpAny_Assign_stores (thn (he pins s σ H _ I h) λv s1 ⟨x,H1,I1,r1,q1⟩=>?_) hs hw
 rw[h1]
 exact thn (hg pins s1 σ H1 x v _ I1 r1 q1) λ_ s2 q=>q
theorem qlE{i:Nat}{x:Str}{e:Expr}{te:TE}{pos':Pos}(hN:X.N.Nodup)(hi:X.N[i]?=some x)(hx:Loc X.env.scope x)(he:PE X e te)(hs:zaV e (some (.Name x pos')) pos.line X.env=pure false:=by rfl)(hf:X.fn x=true\/X.env.scope.names.lookup x=some .local:=by first|exact .inl rfl|exact .inr rfl|assumption) :
  PS X (.Assign [.Name x pos'] e pos) (tAsg te (qgb i)):=by
 intro pins s σ H D I h
 refine wpAny_Assign_Name (thn (he pins s σ H _ I h) λv s1 ⟨y,H1,I1,r1,q1⟩=>?_) hs
 exact qhq I1 hN hi hx r1 (λs2 I2=>⟨_,H1,I2,q1⟩) hf
end
section
variable {X:Cx}{pos:Pos}
noncomputable def qpr(c:TT)(tb:TS):TS:=λD σ H=>∃W:Nat->St->Hp->Prop,(∃m,W m σ H)/\∀m σ H,W m σ H->
 c σ H λb H1=>if b=true then ∃N:St->Hp->Prop,(∀σ' H',N σ' H'->∃m',m'<m/\W m' σ' H')/\tb {D with nx:=N,ct:=N,bk:=D.nx} σ H1 else D.nx σ H1
theorem qlm{c:Expr}{body:List Stmt}{tc:TT}{tb:TS}(hp:PassesOwn (model X.prog X.w) X.A X.env X.xe)(hc:PT X c tc)(hb:PSs X body tb):PS X (.While c body [] pos) (qpr tc tb):=by
 intro pins s σ H D I h
 obtain⟨W,⟨m0,w0⟩,turn⟩:=h
 refine wpAny_While (codeAny_whileLoop (λn s'=>∃σ' H',Inv X pins σ' H' s'/\W n σ' H') ?_ m0 ⟨σ,H,I,w0⟩)
 rintro n s1 ⟨σ1,H1,I1,w1⟩
 refine zbT hp (thn (hc pins s1 σ1 H1 _ I1 (turn n σ1 H1 w1)) λb s2 ⟨H2,I2,q2⟩=>?_)
 cases b with
 | true=>
  obtain⟨N,hN,q2⟩:=q2
  rw[if_pos rfl]
  refine zbT hp (thn (hb pins s2 σ1 H2 _ I2 q2) λf s3 q3=>?_)
  cases f with
  | next=>
   obtain⟨σ3,H3,I3,n3⟩:=q3
   obtain⟨m',hm,w3⟩:=hN σ3 H3 n3
   exact⟨m',hm,σ3,H3,I3,w3⟩
  | cont=>
   obtain⟨σ3,H3,I3,n3⟩:=q3
   obtain⟨m',hm,w3⟩:=hN σ3 H3 n3
   exact⟨m',hm,σ3,H3,I3,w3⟩
  | brk=>exact q3
  | ret v=>exact q3
 | false=>
  rw[if_neg zaq]
  exact wpAny_execs_nil ⟨σ1,H2,I2,q2⟩
end
structure It where
 go:Nat->Hp->Prop
 yld:Nat->Hp->V->Hp->Prop
 stop:Nat->Hp->Prop
noncomputable def FpOk(X:Cx)(pins:List (Addr×Obj))(H:Hp)(b:Addr):Prop:=
 H b=none/\b≠X.env.locals/\b∉X.fs/\(b∈X.ex\/X.s₀.heap.objs.size<=b)/\(∀x c,X.env.cells.lookup x=some c->c≠b)/\∀p∈X.pn++pins,p.1≠b
theorem Inv.fpOk{X:Cx}{pins:List (Addr×Obj)}{σ:St}{H H':Hp}{s:Shared}{b:Addr}(I:Inv X pins σ H s)(hb:s.heap.objs.size<=b)(hn:H' b=none):FpOk X pins H' b:=by
 refine⟨hn,zaF (za0 I.lt hb),I.nofs hb,.inr (zaY I.sz hb),λx c e z=>?_,λp hp z=>?_⟩
 ·obtain⟨v,q⟩:=I.cell x c e
  exact absurd (za0 q.lt (by rw[z];exact hb)) (za1 _)
 ·exact absurd (za0 (zah (I.pin p hp).1) (by rw[z];exact hb)) (za1 _)
structure Turn(P:zai)(w:World)(K:zae)(tg:Expr)(J:It)(fp:List Addr)(it:Addr)(tn:Nat->Heap->Prop):Prop where
 mem:it∈fp
 obj:∀i h,tn i h->∀b∈fp,∃o,h.get? b=some o/\∀v,o.data≠.cell v
 keep:∀i h h',tn i h->(∀b∈fp,∀o,h.get? b=some o->h'.get? b=some o)->tn i h'
 item:∀(X:Cx),X.prog=P->X.w=w->X.K=K->X.calm=true->∀(i:Nat) (pins:List (Addr×Obj)) (s:Shared) (σ:St) (H:Hp) (E:Value->Shared->Prop),Inv X pins σ H s->(∀b∈fp,FpOk X pins H b)->tn i s.heap->J.go i H->
  wpAny (model P w) X.A (pyNext (.ref it)) (λr s1=>∃u,r=some u /\
   wpAny (model P w) X.A (letOwnedTupleGo tg (.ref it) u) (λ_ s2=>∃x H',Inv X pins σ H' s2/\RelV x u/\J.yld i H x H'/\tn (i+1) s2.heap/\∀b∈fp,H' b=none) E s1) E s
 done:∀(X:Cx),X.prog=P->X.w=w->X.K=K->X.calm=true->∀(i:Nat) (pins:List (Addr×Obj)) (s:Shared) (σ:St) (H:Hp) (E:Value->Shared->Prop),Inv X pins σ H s->(∀b∈fp,FpOk X pins H b)->tn i s.heap->J.stop i H->
  wpAny (model P w) X.A (pyNext (.ref it)) (λr s1=>r=none/\Inv X pins σ H s1) E s
 self:∀(A:Around) (i:Nat) (s:Shared) (Q:Value->Shared->Prop) (E:Value->Shared->Prop),tn i s.heap->Q (.ref it) s->wpAny (model P w) A (pyIter (.ref it)) Q E s
noncomputable abbrev TI:=St->Hp->(It->Hp->Prop)->Prop
noncomputable def PIE(X:Cx)(pins:List (Addr×Obj))(σ:St)(tg:Expr)(R:It->Hp->Prop)(itv:Value)(s2:Shared):Prop:=
 ∃(it:Addr) (fp:List Addr) (tn:Nat->Heap->Prop) (J:It) (H':Hp),itv=.ref it/\Inv X pins σ H' s2/\Turn X.prog X.w X.K tg J fp it tn/\tn 0 s2.heap/\(∀b∈fp,FpOk X pins H' b)/\R J H'
noncomputable def PI(X:Cx)(tg iter:Expr)(wi:TI):Prop:=
 ∀(pins:List (Addr×Obj)) (s:Shared) (σ:St) (H:Hp) (R:It->Hp->Prop),Inv X pins σ H s->wi σ H R->
  wpAny (model X.prog X.w) X.A (eval iter X.env) (λv s1=>wpAny (model X.prog X.w) X.A (pyIter v) (PIE X pins σ tg R) X.xe s1) X.xe s
theorem qgf{M:Model}{A:Around}{E:Value->Shared->Prop}{s:Shared}{tg:Expr}{it:Addr}{u:Value}{o:Obj}{n:String}{vs:Array Value}{Q:Unit->Shared->Prop}(ho:s.heap.get? it=some o)(hc:o.cls=.type n)(hd:o.data=.fields vs)
    (hn:["enumerate", "zip", "dict_itemiterator", "dict_reverseitemiterator", "odict_iterator", "itertools.zip_longest", "itertools.pairwise"].contains n=false) (hQ:Q () s):wpAny M A (letOwnedTupleGo tg (.ref it) u) Q E s:=by
  unfold letOwnedTupleGo
  cases tg <;> first
    | exact zab hQ
    | (cases u <;> first
        | exact zab hQ
        | (refine zaa (wpAny_load ho ?_)
           rw[hc,hd]
           show wpAny M A (if(["enumerate", "zip", "dict_itemiterator", "dict_reverseitemiterator", "odict_iterator", "itertools.zip_longest", "itertools.pairwise"].contains n && vs[0]? == some (rawInt _))=true then _ else _) Q E s
           rw[if_neg (by intro h;rw[hn,Bool.false_and]at h;cases h)]
           exact zab hQ))
noncomputable def Itl(K:zae)(a:Addr):It:=
 ⟨λi H=>∃xs x,SqL K H a xs/\xs[i]?=some x,λi H x H'=>H'=H/\∀xs,SqL K H a xs->xs[i]?=some x,λi H=>∃xs,SqL K H a xs/\xs.length<=i⟩
noncomputable def Itt(K:zae)(a:Addr):It:=
 ⟨λi H=>∃xs x,SqT K H a xs/\xs[i]?=some x,λi H x H'=>H'=H/\∀xs,SqT K H a xs->xs[i]?=some x,λi H=>∃xs,SqT K H a xs/\xs.length<=i⟩
noncomputable def Itr(lo:Int)(n:Nat):It:=⟨λi _=>i<n,λi H x H'=>H'=H/\x=.int (lo+i),λi _=>n<=i⟩
theorem qjO{P:zai}{w:World}{K:zae}{tg:Expr}(a it:Addr):Turn P w K tg (Itl K a) [it] it (λi h=>h.IsListIter it a i) where
 mem:=by simp
 obj:=λi h st b hb=>by
  have e:b=it:=by simpa using hb
  subst e
  obtain⟨o,e,c,d⟩:=st
  exact⟨o,e,λv z=>by rw[d]at z;cases z⟩
 keep:=λi h h' st k=>st.at λo e=>k it (by simp) o e
 item:=by
  intro X hP hw hK hc i pins s σ H E I hf st hg
  subst hP hw hK
  obtain⟨xs,x,hq,hx⟩:=hg
  obtain⟨its,rv,p,hz⟩:=I.list hq
  obtain⟨u,hu,ru⟩:=rv.get hx
  obtain⟨f0,f1,f2,f3,f4,f5⟩:=hf it (by simp)
  refine wpAny_pyNext_list_item st p.isList (x:=u) (by simpa using hu) λh' st' sb=>?_
  have I1:Inv X pins σ H {s with heap:=h'}:=I.turned (t':=s.toks) (λb o hb e=>(sb.2 b hb).trans e) f0 f1 f3 f4 f5
  obtain⟨o,e,c,d⟩:=id st'
  exact⟨u,rfl,qgf (s:={s with heap:=h'}) e c d (by decide) ⟨x,H,I1,ru,⟨rfl,λys hy=>by rw[I.list_inj hy hq];exact hx⟩,st',λb hb=>(hf b hb).1⟩⟩
 done:=by
  intro X hP hw hK hc i pins s σ H E I hf st hg
  subst hP hw hK
  obtain⟨xs,hq,hx⟩:=hg
  obtain⟨its,rv,p,hz⟩:=I.list hq
  obtain⟨f0,f1,f2,f3,f4,f5⟩:=hf it (by simp)
  have hl:=rv.length
  exact wpAny_pyNext_list_end (I.ok.hd hc) st p.isList (by simp;omega) λh' eb=>⟨rfl,I.turned (t':=s.toks) (λb o hb e=>eb b o hb e) f0 f1 f3 f4 f5⟩
 self:=λ_ _ _ _ _ st h=>wpAny_pyIter_listiter st h
theorem qia{P:zai}{w:World}{K:zae}{tg:Expr}(a it:Addr):Turn P w K tg (Itt K a) [it] it (λi h=>h.IsTupleIter it a i) where
 mem:=by simp
 obj:=λi h st b hb=>by
  have e:b=it:=by simpa using hb
  subst e
  obtain⟨o,e,c,d⟩:=st
  exact⟨o,e,λv z=>by rw[d]at z;cases z⟩
 keep:=λi h h' st k=>st.at λo e=>k it (by simp) o e
 item:=by
  intro X hP hw hK hc i pins s σ H E I hf st hg
  subst hP hw hK
  obtain⟨xs,x,hq,hx⟩:=hg
  obtain⟨its,rv,p,hz⟩:=I.tuple hq
  obtain⟨u,hu,ru⟩:=rv.get hx
  obtain⟨f0,f1,f2,f3,f4,f5⟩:=hf it (by simp)
  refine wpAny_pyNext_tuple_item st (show s.heap.IsTuple a its.toArray from p) (x:=u) (by simpa using hu) λh' st' sb=>?_
  have I1:Inv X pins σ H {s with heap:=h'}:=I.turned (t':=s.toks) (λb o hb e=>(sb.2 b hb).trans e) f0 f1 f3 f4 f5
  obtain⟨o,e,c,d⟩:=id st'
  exact⟨u,rfl,qgf (s:={s with heap:=h'}) e c d (by decide) ⟨x,H,I1,ru,⟨rfl,λys hy=>by rw[I.tuple_inj hy hq];exact hx⟩,st',λb hb=>(hf b hb).1⟩⟩
 done:=by
  intro X hP hw hK hc i pins s σ H E I hf st hg
  subst hP hw hK
  obtain⟨xs,hq,hx⟩:=hg
  obtain⟨its,rv,p,hz⟩:=I.tuple hq
  obtain⟨f0,f1,f2,f3,f4,f5⟩:=hf it (by simp)
  have hl:=rv.length
  exact wpAny_pyNext_tuple_end (I.ok.hd hc) st (show s.heap.IsTuple a its.toArray from p) (by simp;omega) λh' eb=>⟨rfl,I.turned (t':=s.toks) (λb o hb e=>eb b o hb e) f0 f1 f3 f4 f5⟩
 self:=λ_ _ _ _ _ st h=>wpAny_pyIter_tupleiter st h
theorem qh7{P:zai}{w:World}{K:zae}{tg:Expr}(it:Addr)(lo:Int)(n:Nat):Turn P w K tg (Itr lo n) [it] it (λi h=>IsRangeIter h it (lo+(i:Nat)*1) ((n:Int)-(i:Nat)) 1) where
 mem:=by simp
 obj:=λi h st b hb=>by
  have e:b=it:=by simpa using hb
  subst e
  exact⟨_,st,λv z=>by
   have z':Data.fields _=Data.cell v:=z
   cases z'⟩
 keep:=λi h h' st k=>k it (by simp) _ st
 item:=by
  intro X hP hw hK hc i pins s σ H E I hf st hg
  subst hP hw hK
  obtain⟨f0,f1,f2,f3,f4,f5⟩:=hf it (by simp)
  have W:=Walks.range (prog:=X.prog) (w:=X.w) (I.ok.hd hc) it lo 1 n
  refine W.item i s _ _ hg st λv h' tk hv st' kk=>?_
  obtain⟨t,rfl⟩:=hv
  have I1:Inv X pins σ H {s with heap:=h',toks:=tk}:=I.turned (λb o hb e=>kk b o (by simpa using hb) e) f0 f1 f3 f4 f5
  refine⟨_,rfl,qgf (s:={s with heap:=h',toks:=tk}) (n := "range_iterator") st' rfl rfl (by decide) ⟨.int (lo+i),H,I1,⟨t,?_⟩,⟨rfl,rfl⟩,st',λb hb=>(hf b hb).1⟩⟩
  rw[Int.mul_one]
 done:=by
  intro X hP hw hK hc i pins s σ H E I hf st hg
  subst hP hw hK
  obtain⟨f0,f1,f2,f3,f4,f5⟩:=hf it (by simp)
  exact wpAny_pyNext_range_end (I.ok.hd hc) st (by have:n<=i:=hg;omega) λh' eb=>⟨rfl,I.turned (t':=s.toks) (λb o hb e=>eb b o hb e) f0 f1 f3 f4 f5⟩
 self:=λ_ _ _ _ _ st h=>wpAny_pyIter_rangeiter st h
section
variable {X:Cx}{tg:Expr}
noncomputable def qqv(K:zae)(tl:TE):TI:=λσ H R=>tl σ H λx H1=>∃a,x=.ref a/\(∃xs,SqL K H1 a xs)/\R (Itl K a) H1
noncomputable def iTup(K:zae)(tl:TE):TI:=λσ H R=>tl σ H λx H1=>∃a,x=.ref a/\(∃xs,SqT K H1 a xs)/\R (Itt K a) H1
theorem qnb{l:Expr}{tl:TE}(hl:PE X l tl):PI X tg l (qqv X.K tl):=by
 intro pins s σ H R I h
 refine thn (hl pins s σ H _ I h) λv s1 ⟨x,H1,I1,r1,q1⟩=>?_
 obtain⟨a,e,⟨xs,hq⟩,q⟩:=q1
 subst e
 cases r1
 obtain⟨its,rv,p,hz⟩:=I1.list hq
 refine zbK p.isList ?_
 refine⟨s1.heap.objs.size,[s1.heap.objs.size],_,_,H1,rfl,I1.kept (t':=s1.toks) λb o e=>zag _ e,qjO a _,⟨_,zat _ rfl,rfl,rfl⟩,λb hb=>?_,q⟩
 have e:b=s1.heap.objs.size:=by simpa using hb
 subst e
 exact I1.fpOk (zam _) (I1.hok.fresh (zam _))
theorem qpb{l:Expr}{tl:TE}(hl:PE X l tl):PI X tg l (iTup X.K tl):=by
 intro pins s σ H R I h
 refine thn (hl pins s σ H _ I h) λv s1 ⟨x,H1,I1,r1,q1⟩=>?_
 obtain⟨a,e,⟨xs,hq⟩,q⟩:=q1
 subst e
 cases r1
 obtain⟨its,rv,p,hz⟩:=I1.tuple hq
 refine zbo (show s1.heap.IsTuple a its.toArray from p) ?_
 refine⟨s1.heap.objs.size,[s1.heap.objs.size],_,_,H1,rfl,I1.kept (t':=s1.toks) λb o e=>zag _ e,qia a _,⟨_,zat _ rfl,rfl,rfl⟩,λb hb=>?_,q⟩
 have e:b=s1.heap.objs.size:=by simpa using hb
 subst e
 exact I1.fpOk (zam _) (I1.hok.fresh (zam _))
theorem qgN{pins:List (Addr×Obj)}{σ:St}{H:Hp}{s:Shared}{R:It->Hp->Prop}{E:Value->Shared->Prop}{lo hi:Int}{t u v:Tok}{tk:Nat}(I:Inv X pins σ H s)(h1:-(2^62)<=lo)(h2:lo<2^62)(h3:-(2^62)<=hi)(h4:hi<2^62)
  (q:R (Itr lo (hi-lo).toNat) H):wpAny (model X.prog X.w) X.A (pyIter (.ref s.heap.objs.size)) (PIE X pins σ tg R) E {s with heap:=s.heap.push {cls:=.type "range",data:=.fields #[.int lo t,.int hi u,.int 1 v]},toks:=tk}:=by
 refine wpAny_pyIter_range (IsRange.new ..) (small_one h1 h2 h3 h4) ?_
 have I1:Inv X pins σ H {s with heap:=s.heap.push {cls:=.type "range",data:=.fields #[.int lo t,.int hi u,.int 1 v]},toks:=tk}:=I.kept λb o e=>zag _ e
 refine⟨(s.heap.push {cls:=.type "range",data:=.fields #[.int lo t,.int hi u,.int 1 v]}).objs.size,[(s.heap.push {cls:=.type "range",data:=.fields #[.int lo t,.int hi u,.int 1 v]}).objs.size],_,_,H,rfl,
  I1.kept (t':=tk) λb o e=>zag _ e,qh7 _ lo (hi-lo).toNat,?_,λb hb=>?_,q⟩
 ·have e1:lo+((0:Nat):Int)*1=lo:=by simp
  have e2:(((hi-lo).toNat:Nat):Int)-((0:Nat):Int)=zbp lo hi 1:=by rw[rangeSize_one];split <;> omega
  show IsRangeIter _ _ (lo+((0:Nat):Int)*1) ((((hi-lo).toNat:Nat):Int)-((0:Nat):Int)) 1
  rw[e1,e2]
  exact zat _ rfl
 ·have e:b=(s.heap.push {cls:=.type "range",data:=.fields #[.int lo t,.int hi u,.int 1 v]}).objs.size:=by simpa using hb
  subst e
  exact I1.fpOk (zam _) (I1.hok.fresh (zam _))
noncomputable def qqM(ta:TA):TI:=λσ H R=>ta σ H λvs H1=>∃j:Int,vs=[.int j]/\-(2^62)<=j/\j<2^62/\R (Itr 0 j.toNat) H1
noncomputable def qqH(ta:TA):TI:=λσ H R=>ta σ H λvs H1=>∃i j:Int,vs=[.int i,.int j]/\(-(2^62)<=i/\i<2^62/\-(2^62)<=j/\j<2^62)/\R (Itr i (j-i).toNat) H1
theorem qiX{a:Expr}{ta:TA}{p pos:Pos}(hg:Gl X "range")(hm:X.mg "range" = none)(ha:PA X [a] ta)(hs:zaf [a] X.env=[(false,eval a X.env)]:=by rfl):PI X tg (.Call (.Name "range" p) [a] [] pos) (qqM ta):=by
 intro pins s σ H R I h
 refine Call_ (qbs I hg hm boot_range (zbZ (thn (ha pos pins s σ H _ I h) λus s1 ⟨vs,H1,I1,r1,q1⟩=>?_) hs rfl))
 obtain⟨j,e,q1,q2,q⟩:=q1
 subst e
 cases r1 with
 | cons r rr=>
  cases rr
  obtain⟨t,rfl⟩:=r
  exact call_range_1 (qgN I1 (by omega) (by omega) q1 q2 (by simpa using q))
theorem qjK{a b:Expr}{ta:TA}{p pos:Pos}(hg:Gl X "range")(hm:X.mg "range" = none)(ha:PA X [a,b] ta)(hs:zaf [a,b] X.env=[(false,eval a X.env),(false,eval b X.env)]:=by rfl)(hs2:zaf [b] X.env=[(false,eval b X.env)]:=by rfl) :
  PI X tg (.Call (.Name "range" p) [a,b] [] pos) (qqH ta):=by
 intro pins s σ H R I h
 refine Call_ (qbs I hg hm boot_range (zbZ (thn (ha pos pins s σ H _ I h) λus s1 ⟨vs,H1,I1,r1,q1⟩=>?_) (by rw[hs,hs2]) (by rw[hs2];rfl)))
 obtain⟨i,j,e,⟨q1,q2,q3,q4⟩,q⟩:=q1
 subst e
 cases r1 with
 | cons r rr=>
  cases rr with
  | cons r' rr=>
   cases rr
   obtain⟨t,rfl⟩:=r
   obtain⟨t',rfl⟩:=r'
   exact call_range_2 (qgN I1 q1 q2 q3 q4 q)
noncomputable def tFor(wi:TI)(g:TG)(tb:TS):TS:=λD σ H=>wi σ H λJ H1=>∃W:Nat->Nat->St->Hp->Prop,(∃m,W 0 m σ H1)/\∀i m σ H,W i m σ H->
 (J.stop i H/\D.nx σ H)\/(J.go i H/\∃N:St->Hp->Prop,(∀σ' H',N σ' H'->∃m',m'<m/\W (i+1) m' σ' H')/\∀x H',J.yld i H x H'->g x σ H' λσ2 H2=>tb {D with nx:=N,ct:=N,bk:=D.nx} σ2 H2)
noncomputable def qfJ(fp:List Addr)(h:Heap):List (Addr×Obj):=fp.filterMap λb=>(h.get? b).map λo=>(b,o)
theorem qa7{fp:List Addr}{h:Heap}{b:Addr}{o:Obj}(hb:b∈fp)(e:h.get? b=some o):(b,o)∈qfJ fp h:=List.mem_filterMap.mpr ⟨b,hb,by rw[e];rfl⟩
theorem qjh{fp:List Addr}{h:Heap}{p:Addr×Obj}(hp:p∈qfJ fp h):p.1∈fp/\h.get? p.1=some p.2:=by
 obtain⟨b,hb,e⟩:=List.mem_filterMap.mp hp
 cases q:h.get? b with
 | none=>rw[q]at e;cases e
 | some o=>
  rw[q]at e
  have e':(b,o)=p:=zaA e
  subst e'
  exact⟨hb,q⟩
theorem Inv.pinned{pins:List (Addr×Obj)}{σ:St}{H:Hp}{s:Shared}{fp:List Addr}(I:Inv X pins σ H s)(hf:∀b∈fp,FpOk X pins H b)(ho:∀b∈fp,∃o,s.heap.get? b=some o/\∀v,o.data≠.cell v):Inv X (pins++qfJ fp s.heap) σ H s:=
 I.pins_of λp hp=>(List.mem_append.mp hp).elim (λz=>I.pin p (zbi _ z)) λz=>by
  obtain⟨hb,e⟩:=qjh z
  obtain⟨f0,f1,f2,_⟩:=hf p.1 hb
  obtain⟨o,e',d⟩:=ho p.1 hb
  rw[e]at e';cases e'
  exact⟨e,f0,f1,f2,d⟩
theorem Inv.unpinned{pins pl:List (Addr×Obj)}{σ:St}{H:Hp}{s:Shared}(I:Inv X (pins++pl) σ H s):Inv X pins σ H s:=I.pins_of λp hp=>I.pin p (zbi _ (List.mem_append_left _ hp))
theorem qo1{iter:Expr}{body:List Stmt}{wi:TI}{g:TG}{tb:TS}{pos:Pos}(hp:PassesOwn (model X.prog X.w) X.A X.env X.xe)(hc:X.calm=true)(hi:PI X tg iter wi)(hg:PG X tg g)(hb:PSs X body tb)
  (hs:∀x,zbq iter X.env x=pure x:=by intro _;rfl):PS X (.For tg iter body [] pos) (tFor wi g tb):=by
 intro pins s σ H D I h
 refine wpAny_For (thn (hi pins s σ H _ I h) λv s1 h1=>thn h1 λitv s2 h2=>?_) hs
 obtain⟨it,fp,tn,J,H2,e,I2,T,st2,f2,W,⟨m0,w0⟩,turn⟩:=h2
 subst e
 -- what stays true of the iterator's objects through the loop
 have stat:∀ {H':Hp},(∀b∈fp,H' b=none)->∀b∈fp,FpOk X pins H' b:=λhn b hb=>⟨hn b hb,(f2 b hb).2⟩
 refine codeAny_forLoop_any (λn s'=>∃i σ' H',Inv X pins σ' H' s'/\tn i s'.heap/\(∀b∈fp,H' b=none)/\W i n σ' H') ?_ m0 ⟨0,σ,H2,I2,st2,λb hb=>(f2 b hb).1,w0⟩
 rintro n s3 ⟨i,σ3,H3,I3,st3,fr3,w3⟩
 rcases turn i n σ3 H3 w3 with⟨stop,qn⟩|⟨go,N,hN,step⟩
 ·refine zbT hp (thn (T.done X rfl rfl rfl hc i pins s3 σ3 H3 X.xe I3 (stat fr3) st3 stop) λr s4 ⟨hr,I4⟩=>?_)
  subst hr
  exact wpAny_execs_nil ⟨σ3,H3,I4,qn⟩
 ·refine zbT hp (thn (T.item X rfl rfl rfl hc i pins s3 σ3 H3 X.xe I3 (stat fr3) st3 go) λr s4 ⟨u,hr,h4⟩=>?_)
  subst hr
  refine zbT hp (thn h4 λ_ s5 ⟨x,H5,I5,r5,y5,st5,fr5⟩=>?_)
  have I5':=I5.pinned (stat fr5) (T.obj _ _ st5)
  refine zbT hp (thn (hg _ s5 σ3 H5 x u _ I5' r5 (step x H5 y5)) λ_ s6 ⟨σ6,H6,I6,q6⟩=>?_)
  refine zbT hp (thn (hb _ s6 σ6 H6 _ I6 q6) λf s7 q7=>?_)
  have again:∀ {σ7:St} {H7:Hp},Inv X (pins++qfJ fp s5.heap) σ7 H7 s7->N σ7 H7->∃m,m<n/\∃i σ' H',Inv X pins σ' H' s7/\tn i s7.heap/\(∀b∈fp,H' b=none)/\W i m σ' H':=λ{σ7 H7} I7 n7=>by
   obtain⟨m',hm,w7⟩:=hN σ7 H7 n7
   refine⟨m',hm,i+1,σ7,H7,I7.unpinned,T.keep _ _ _ st5 λb hb o e=>(I7.pin (b,o) (zbi _ (zbi _ (qa7 hb e)))).1,λb hb=>?_,w7⟩
   obtain⟨o,e,d⟩:=T.obj _ _ st5 b hb
   exact(I7.pin (b,o) (zbi _ (zbi _ (qa7 hb e)))).2.1
  cases f with
  | next=>obtain⟨σ7,H7,I7,n7⟩:=q7;exact again I7 n7
  | cont=>obtain⟨σ7,H7,I7,n7⟩:=q7;exact again I7 n7
  | brk=>obtain⟨σ7,H7,I7,q7⟩:=q7;exact⟨σ7,H7,I7.unpinned,q7⟩
  | ret v=>obtain⟨x7,σ7,H7,I7,r7,q7⟩:=q7;exact⟨x7,σ7,H7,I7.unpinned,r7,q7⟩
end
noncomputable abbrev R2:=V->V->Hp->VK->Prop
noncomputable def OpR(X:Cx)(f:Value->Value->Sem Value)(r:R2):Prop:=
 ∀(pins:List (Addr×Obj)) (s:Shared) (σ:St) (H:Hp) (x y:V) (v u:Value) (Q:VK),Inv X pins σ H s->RelV x v->RelV y u->r x y H Q->
  wpAny (model X.prog X.w) X.A (f v u) (EP X pins σ Q) X.xe s
noncomputable def UnR(X:Cx)(f:Value->Sem Value)(r:V->Hp->VK->Prop):Prop:=
 ∀(pins:List (Addr×Obj)) (s:Shared) (σ:St) (H:Hp) (x:V) (v:Value) (Q:VK),Inv X pins σ H s->RelV x v->r x H Q->
  wpAny (model X.prog X.w) X.A (f v) (EP X pins σ Q) X.xe s
noncomputable def CallR(X:Cx)(f:Value)(r:List V->Hp->VK->Prop):Prop:=
 ∀(pins:List (Addr×Obj)) (s:Shared) (σ:St) (H:Hp) (xs:List V) (us:List Value) (Q:VK),Inv X pins σ H s->Vals xs us->r xs H Q->
  wpAny (model X.prog X.w) X.A (call f us) (EP X pins σ Q) X.xe s
noncomputable def tOp(r:R2)(ta tb:TE):TE:=λσ H Q=>ta σ H λx H1=>tb σ H1 λy H2=>r x y H2 Q
noncomputable def tUn(r:V->Hp->VK->Prop)(ta:TE):TE:=λσ H Q=>ta σ H λx H1=>r x H1 Q
noncomputable def rI(C:Int->Int->Prop)(g:Int->Int->V):R2:=λx y H Q=>∃i j,x=.int i/\y=.int j/\C i j/\Q (g i j) H
noncomputable def rI0(g:Int->Int->V):R2:=λx y H Q=>∃i j,x=.int i/\y=.int j/\Q (g i j) H
noncomputable def rU(g:Int->V):V->Hp->VK->Prop:=λx H Q=>∃i,x=.int i/\Q (g i) H
section
variable {X:Cx}{a b c:Expr}{ta tb tc:TE}{pos:Pos}
theorem binT(ha:PE X a ta)(hb:PE X b tb){pins:List (Addr×Obj)}{s:Shared}{σ:St}{H:Hp}{R:V->V->Hp->Prop}(I:Inv X pins σ H s)
  (h:ta σ H λx H1=>tb σ H1 λy H2=>R x y H2) {Q:Value->Shared->Prop} {f:Value->Value->Sem Value}
  (hf:∀v u s2 x y H2,Inv X pins σ H2 s2->RelV x v->RelV y u->R x y H2->wpAny (model X.prog X.w) X.A (f v u) Q X.xe s2) :
  wpAny (model X.prog X.w) X.A (eval a X.env) (λv s₁=>wpAny (model X.prog X.w) X.A (eval b X.env) (λu s₂=>wpAny (model X.prog X.w) X.A (f v u) Q X.xe s₂) X.xe s₁) X.xe s:=by
 refine thn (ha pins s σ H _ I h) λv s1 ⟨x,H1,I1,r1,q1⟩=>?_
 refine thn (hb pins s1 σ H1 _ I1 q1) λu s2 ⟨y,H2,I2,r2,q2⟩=>?_
 exact hf v u s2 x y H2 I2 r1 r2 q2
theorem qpX{op:Operator}{r:R2}(ho:OpR X (zaN op) r)(ha:PE X a ta)(hb:PE X b tb):PE X (.BinOp a op b pos) (tOp r ta tb):=by
 intro pins s σ H Q I h
 exact wpAny_BinOp (binT ha hb I h λv u s2 x y H2 I2 rx ry q=>ho pins s2 σ H2 x y v u Q I2 rx ry q)
theorem qqz{op:UnaryOp}{r:V->Hp->VK->Prop}(ho:UnR X (unaryOp op) r)(ha:PE X a ta):PE X (.UnaryOp op a pos) (tUn r ta):=by
 intro pins s σ H Q I h
 exact UnaryOp_ (thn (ha pins s σ H _ I h) λv s1 ⟨x,H1,I1,r1,q1⟩=>ho pins s1 σ H1 x v Q I1 r1 q1)
theorem opI{f:Value->Value->Sem Value}{C:Int->Int->Prop}{g:Int->Int->Int}
  (rule:∀(i j:Int) (t u:Tok) (s:Shared) (Q:Value->Shared->Prop) (E:Value->Shared->Prop),C i j->Q (.int (g i j) s.toks) {s with toks:=s.toks+1}->wpAny (model X.prog X.w) X.A (f (.int i t) (.int j u)) Q E s) :
  OpR X f (rI C λi j=>.int (g i j)):=by
 intro pins s σ H x y v u Q I rx ry h
 obtain⟨i,j,rfl,rfl,hc,q⟩:=h
 obtain⟨t,rfl⟩:=rx
 obtain⟨t',rfl⟩:=ry
 exact rule i j t t' s _ _ hc ⟨.int (g i j),H,I.tok _,⟨_,rfl⟩,q⟩
theorem opI0{f:Value->Value->Sem Value}{g:Int->Int->Int}
  (rule:∀(i j:Int) (t u:Tok) (s:Shared) (Q:Value->Shared->Prop) (E:Value->Shared->Prop),Q (.int (g i j) s.toks) {s with toks:=s.toks+1}->wpAny (model X.prog X.w) X.A (f (.int i t) (.int j u)) Q E s) :
  OpR X f (rI0 λi j=>.int (g i j)):=by
 intro pins s σ H x y v u Q I rx ry h
 obtain⟨i,j,rfl,rfl,q⟩:=h
 obtain⟨t,rfl⟩:=rx
 obtain⟨t',rfl⟩:=ry
 exact rule i j t t' s _ _ ⟨.int (g i j),H,I.tok _,⟨_,rfl⟩,q⟩
theorem opB0{f:Value->Value->Sem Value}{g:Int->Int->Bool}
  (rule:∀(i j:Int) (t u:Tok) (s:Shared) (Q:Value->Shared->Prop) (E:Value->Shared->Prop),Q (.bool (g i j)) s->wpAny (model X.prog X.w) X.A (f (.int i t) (.int j u)) Q E s) :
  OpR X f (rI0 λi j=>.bl (g i j)):=by
 intro pins s σ H x y v u Q I rx ry h
 obtain⟨i,j,rfl,rfl,q⟩:=h
 obtain⟨t,rfl⟩:=rx
 obtain⟨t',rfl⟩:=ry
 exact rule i j t t' s _ _ ⟨.bl (g i j),H,I,rfl,q⟩
noncomputable def CDiv(i j:Int):Prop:=0<j/\j<1073741824
noncomputable def CPow(i j:Int):Prop:=0<=j/\j<=1000000/\i.natAbs<2^64
theorem qoJ:OpR X (zaN .Add) (rI0 λi j=>.int (i+j)):=opI0 λ_ _ _ _ _ _ _ q=>add_int q
theorem qpK:OpR X (zaN .Sub) (rI0 λi j=>.int (i-j)):=opI0 λ_ _ _ _ _ _ _ q=>sub_int q
theorem qnF:OpR X (zaN .FloorDiv) (rI CDiv λi j=>.int (i/j)):=opI λi j _ _ _ _ _ hc q=>by
 have h1:(0:Int)<j:=hc.1
 have h2:j<1073741824:=hc.2
 exact floordiv_int (by omega) (by rw[Int.fdiv_eq_ediv_of_nonneg i (by omega)];exact q) (.inl (PyProof.noPylong_small (by omega)))
theorem qpO:OpR X (zaN .Mod) (rI (λ_ j=>0<j) λi j=>.int (i%j)):=opI λi j _ _ _ _ _ hc q=>by
 have h1:(0:Int)<j:=hc
 exact mod_int' (by omega) (by rw[Int.fmod_eq_emod_of_nonneg i (by omega)];exact q)
theorem qoI:OpR X (zaN .Pow) (rI CPow λi j=>.int (i^j.toNat)):=opI λ_ _ _ _ _ _ _ hc q=>pow_int_small hc.1 hc.2.1 hc.2.2 q
theorem unI{f:Value->Sem Value}{g:Int->Int}
  (rule:∀(i:Int) (t:Tok) (s:Shared) (Q:Value->Shared->Prop) (E:Value->Shared->Prop),Q (.int (g i) s.toks) {s with toks:=s.toks+1}->wpAny (model X.prog X.w) X.A (f (.int i t)) Q E s) :
  UnR X f (rU λi=>.int (g i)):=by
 intro pins s σ H x v Q I rx h
 obtain⟨i,rfl,q⟩:=h
 obtain⟨t,rfl⟩:=rx
 exact rule i t s _ _ ⟨.int (g i),H,I.tok _,⟨_,rfl⟩,q⟩
theorem qo4:UnR X (unaryOp .USub) (rU λi=>.int (-i)):=unI λ_ _ _ _ _ q=>neg_int q
end
noncomputable def scal:V->V->Bool
 | .non,.non=>true | .non,.int _=>true | .int _,.non=>true | .non,.bl _=>true | .bl _,.non=>true | .non,.str _=>true | .str _,.non=>true
 | .int _,.int _=>true | .bl _,.bl _=>true | .str _,.str _=>true | .byt _,.byt _=>true
 | .int _,.str _=>true | .str _,.int _=>true | .bl _,.str _=>true | .str _,.bl _=>true
 | _,_=>false
noncomputable def rEq:R2:=λx y H Q=>scal x y=true/\Q (.bl (decide (x=y))) H
noncomputable def rNe:R2:=λx y H Q=>scal x y=true/\Q (.bl (!decide (x=y))) H
theorem qjG{i j:Int}:decide (V.int i=V.int j)=(i == j):=by
 rw[Bool.eq_iff_iff]
 simp
theorem qmd{i j:Bool}:decide (V.bl i=V.bl j)=(i == j):=by
 rw[Bool.eq_iff_iff]
 simp
theorem qiO{i j:Str}:decide (V.str i=V.str j)=(i == j):=by
 rw[Bool.eq_iff_iff]
 simp
theorem qjY{i j:Array UInt8}:decide (V.byt i=V.byt j)=(i.toList == j.toList):=by
 rw[Bool.eq_iff_iff]
 cases i
 cases j
 simp
section
variable {X:Cx}{a b c:Expr}{ta tb tc:TE}{pos:Pos}
theorem qM{pins:List (Addr×Obj)}{σ:St}{H:Hp}{s:Shared}{Q:VK}{k k':Bool}(I:Inv X pins σ H s)(q:Q (.bl k) H)(e:k=k'):EP X pins σ Q (.bool k') s:=by
 subst e
 exact⟨.bl k,H,I,rfl,q⟩
theorem qqk:OpR X (zap .Eq) rEq:=by
 intro pins s σ H x y v u Q I rx ry h
 obtain⟨hs,q⟩:=h
 cases x with
 | non=>
  cases rx
  cases y with
  | non=>cases ry;exact PySem.EqNone.eq_none_none (qM I q (by simp))
  | bl j=>cases ry;exact PySem.EqNone.eq_none_bool (qM I q (by simp))
  | int j=>obtain⟨t',rfl⟩:=ry;exact PySem.EqNone.eq_none_int (qM I q (by simp))
  | str j=>obtain⟨t',rfl⟩:=ry;exact PySem.EqNone.eq_none_str (qM I q (by simp))
  | _=>exact absurd (show false=true from hs) zaq
 | bl i=>
  cases rx
  cases y with
  | non=>cases ry;exact PySem.EqNone.eq_bool_none (qM I q (by simp))
  | bl j=>cases ry;exact eq_bool (qM I q qmd)
  | str j=>obtain⟨t',rfl⟩:=ry;exact PySem.EqMixed.eq_bool_str (qM I q (by simp))
  | _=>exact absurd (show false=true from hs) zaq
 | int i=>
  obtain⟨t,rfl⟩:=rx
  cases y with
  | non=>cases ry;exact PySem.EqNone.eq_int_none (qM I q (by simp))
  | int j=>obtain⟨t',rfl⟩:=ry;exact eq_int (qM I q qjG)
  | str j=>obtain⟨t',rfl⟩:=ry;exact PySem.EqMixed.eq_int_str (qM I q (by simp))
  | _=>exact absurd (show false=true from hs) zaq
 | str i=>
  obtain⟨t,rfl⟩:=rx
  cases y with
  | non=>cases ry;exact PySem.EqNone.eq_str_none (qM I q (by simp))
  | bl j=>cases ry;exact PySem.EqMixed.eq_str_bool (qM I q (by simp))
  | int j=>obtain⟨t',rfl⟩:=ry;exact PySem.EqMixed.eq_str_int (qM I q (by simp))
  | str j=>obtain⟨t',rfl⟩:=ry;exact eq_str (qM I q qiO)
  | _=>exact absurd (show false=true from hs) zaq
 | byt i=>
  obtain⟨t,rfl⟩:=rx
  cases y with
  | byt j=>obtain⟨t',rfl⟩:=ry;exact PySem.W.eq_bytes (qM I q qjY)
  | _=>exact absurd (show false=true from hs) zaq
 | _=>cases y <;> exact absurd (show false=true from hs) zaq
theorem qq2:OpR X (zap .NotEq) rNe:=by
 intro pins s σ H x y v u Q I rx ry h
 obtain⟨hs,q⟩:=h
 cases x with
 | non=>
  cases rx
  cases y with
  | non=>cases ry;exact PySem.EqNone.ne_none_none (qM I q (by simp))
  | bl j=>cases ry;exact PySem.EqNone.ne_none_bool (qM I q (by simp))
  | int j=>obtain⟨t',rfl⟩:=ry;exact PySem.EqNone.ne_none_int (qM I q (by simp))
  | str j=>obtain⟨t',rfl⟩:=ry;exact PySem.EqNone.ne_none_str (qM I q (by simp))
  | _=>exact absurd (show false=true from hs) zaq
 | bl i=>
  cases rx
  cases y with
  | non=>cases ry;exact PySem.EqNone.ne_bool_none (qM I q (by simp))
  | bl j=>cases ry;exact ne_bool (qM I q (congrArg not qmd))
  | str j=>obtain⟨t',rfl⟩:=ry;exact PySem.EqMixed.ne_bool_str (qM I q (by simp))
  | _=>exact absurd (show false=true from hs) zaq
 | int i=>
  obtain⟨t,rfl⟩:=rx
  cases y with
  | non=>cases ry;exact PySem.EqNone.ne_int_none (qM I q (by simp))
  | int j=>obtain⟨t',rfl⟩:=ry;exact ne_int (qM I q (congrArg not qjG))
  | str j=>obtain⟨t',rfl⟩:=ry;exact PySem.EqMixed.ne_int_str (qM I q (by simp))
  | _=>exact absurd (show false=true from hs) zaq
 | str i=>
  obtain⟨t,rfl⟩:=rx
  cases y with
  | non=>cases ry;exact PySem.EqNone.ne_str_none (qM I q (by simp))
  | bl j=>cases ry;exact PySem.EqMixed.ne_str_bool (qM I q (by simp))
  | int j=>obtain⟨t',rfl⟩:=ry;exact PySem.EqMixed.ne_str_int (qM I q (by simp))
  | str j=>obtain⟨t',rfl⟩:=ry;exact ne_str (qM I q (congrArg not qiO))
  | _=>exact absurd (show false=true from hs) zaq
 | byt i=>
  obtain⟨t,rfl⟩:=rx
  cases y with
  | byt j=>obtain⟨t',rfl⟩:=ry;exact PySem.W.ne_bytes (qM I q (congrArg not qjY))
  | _=>exact absurd (show false=true from hs) zaq
 | _=>cases y <;> exact absurd (show false=true from hs) zaq
theorem qqI:OpR X (zap .Lt) (rI0 λi j=>.bl (decide (i<j))):=opB0 λ_ _ _ _ _ _ _ q=>lt_int q
theorem qqj:OpR X (zap .LtE) (rI0 λi j=>.bl (decide (i<=j))):=opB0 λ_ _ _ _ _ _ _ q=>le_int q
theorem qqX:OpR X (zap .Gt) (rI0 λi j=>.bl (decide (j<i))):=opB0 λ_ _ _ _ _ _ _ q=>gt_int q
theorem qqA:OpR X (zap .GtE) (rI0 λi j=>.bl (decide (j<=i))):=opB0 λ_ _ _ _ _ _ _ q=>ge_int q
theorem qiL:OpR X (zap .In) (λx y H Q=>∃i j,x=.str i/\y=.str j/\Q (.bl (!(Builtin.Str.occurrences j i 0 j.length 1).isEmpty)) H):=by
 intro pins s σ H x y v u Q I rx ry h
 obtain⟨i,j,rfl,rfl,q⟩:=h
 obtain⟨t,rfl⟩:=rx
 obtain⟨t',rfl⟩:=ry
 exact in_str (qM I q rfl)
theorem OpR.or{f:Value->Value->Sem Value}{r r':R2}(h:OpR X f r)(h':OpR X f r'):OpR X f (λx y H Q=>r x y H Q\/r' x y H Q):=by
 intro pins s σ H x y v u Q I rx ry q
 rcases q with q|q
 ·exact h pins s σ H x y v u Q I rx ry q
 ·exact h' pins s σ H x y v u Q I rx ry q
theorem qlK(b:Expr){op:CmpOp}(h:op≠.In:=by decide)(h2:op≠.NotIn:=by decide):zbC op b=false:=by
 have e1:(op == CmpOp.In)=false:=by cases op <;> first|rfl|exact absurd rfl h
 have e2:(op == CmpOp.NotIn)=false:=by cases op <;> first|rfl|exact absurd rfl h2
 cases b <;> simp[zbC,e1,e2]
theorem qmL{op:CmpOp}{r:R2}(ho:OpR X (zap op) r)(ha:PE X a ta)(hb:PE X b tb)(hm:zbC op b=false):PE X (.Compare a [op] [b] pos) (tOp r ta tb):=by
 intro pins s σ H Q I h
 exact wpAny_Compare1 (binT ha hb I h λv u s2 x y H2 I2 rx ry q=>ho pins s2 σ H2 x y v u Q I2 rx ry q) hm
noncomputable def qny(t:TE):TT:=λσ H Q=>t σ H λx H'=>∃k,x=.bl k/\Q k H'
theorem qjx{op:CmpOp}{r:R2}(ho:OpR X (zap op) r)(ha:PE X a ta)(hb:PE X b tb)(hm:zbC op b=false):PT X (.Compare a [op] [b] pos) (qny (tOp r ta tb)):=by
 intro pins s σ H Q I h
 refine wpAny_isTrue_Compare1 (thn (ha pins s σ H _ I h) λv s1 ⟨x,H1,I1,r1,q1⟩=>thn (hb pins s1 σ H1 _ I1 q1) λu s2 ⟨y,H2,I2,r2,q2⟩=>
  thn (ho pins s2 σ H2 x y v u _ I2 r1 r2 q2) λc s3 ⟨z,H3,I3,r3,k,e,q3⟩=>?_) hm
 subst e
 cases r3
 exact zbg ⟨H3,I3,q3⟩
noncomputable def qjX(r r':R2)(ta tb tc:TE):TE:=λσ H Q=>ta σ H λx H1=>tb σ H1 λy H2=>r x y H2 λz H3=>∃k,z=.bl k /\
 (if k=true then tc σ H3 λw' H4=>r' y w' H4 Q else Q (.bl false) H3)
theorem qkK{op op':CmpOp}{r r':R2}(ho:OpR X (zap op) r)(ho':OpR X (zap op') r')(ha:PE X a ta)(hb:PE X b tb)(hc:PE X c tc)
  (hm:lastMarks [op,op'] [b,c]=false:=by with_unfolding_all rfl):PE X (.Compare a [op,op'] [b,c] pos) (qjX r r' ta tb tc):=by
 intro pins s σ H Q I h
 refine Compare_chain (thn (ha pins s σ H _ I h) λv s1 ⟨x,H1,I1,r1,q1⟩=>chain_link (thn (hb pins s1 σ H1 _ I1 q1) λu s2 ⟨y,H2,I2,r2,q2⟩=>
  thn (ho pins s2 σ H2 x y v u _ I2 r1 r2 q2) λd s3 ⟨z,H3,I3,r3,k,e,q3⟩=>?_)) hm
 subst e
 cases r3
 refine zbg ?_
 cases k with
 | false=>exact ite_ff ⟨.bl false,H3,I3,rfl,q3⟩
 | true=>exact ite_tt (chain_last (thn (hc pins s3 σ H3 _ I3 q3) λw' s4 ⟨z',H4,I4,r4,q4⟩=>ho' pins s4 σ H4 y z' u w' Q I4 r2 r4 q4))
theorem qk6{op op':CmpOp}{r r':R2}(ho:OpR X (zap op) r)(ho':OpR X (zap op') r')(ha:PE X a ta)(hb:PE X b tb)(hc:PE X c tc)
  (hm:lastMarks [op,op'] [b,c]=false:=by with_unfolding_all rfl):PT X (.Compare a [op,op'] [b,c] pos) (qny (qjX r r' ta tb tc)):=by
 intro pins s σ H Q I h
 refine isTrue_chain (thn (ha pins s σ H _ I h) λv s1 ⟨x,H1,I1,r1,q1⟩=>test_link (thn (hb pins s1 σ H1 _ I1 q1) λu s2 ⟨y,H2,I2,r2,q2⟩=>
  thn (ho pins s2 σ H2 x y v u _ I2 r1 r2 q2) λd s3 ⟨z,H3,I3,r3,k,e,q3⟩=>?_)) hm
 subst e
 cases r3
 refine zbg ?_
 cases k with
 | false=>
  obtain⟨k',e',q'⟩:=q3
  cases e'
  exact ite_ff ⟨H3,I3,q'⟩
 | true=>
  refine ite_tt (test_last (thn (hc pins s3 σ H3 _ I3 q3) λw' s4 ⟨z',H4,I4,r4,q4⟩=>thn (ho' pins s4 σ H4 y z' u w' _ I4 r2 r4 q4) λd' s5 ⟨z2,H5,I5,r5,k2,e2,q5⟩=>?_))
  subst e2
  cases r5
  exact zbg ⟨H5,I5,q5⟩
theorem qfz:(zaj:Nat)<2^63:=by rw[sizeLine_eq];decide
theorem qh5:OpR X (zaN .Add) (λx y H Q=>∃i j,x=.str i/\y=.str j/\i.length+j.length<=zaj/\Q (.str (i++j)) H):=by
 intro pins s σ H x y v u Q I rx ry h
 obtain⟨i,j,rfl,rfl,hz,q⟩:=h
 obtain⟨t,rfl⟩:=rx
 obtain⟨t',rfl⟩:=ry
 exact add_str (λt' tk=>⟨.str (i++j),H,I.tok _,⟨_,rfl⟩,q⟩) hz
theorem vals1{x:V}{us:List Value}(r:Vals [x] us):∃u,us=[u]/\RelV x u:=by
 cases r with
 | cons r1 r2=>cases r2;exact⟨_,rfl,r1⟩
theorem vals2{x y:V}{us:List Value}(r:Vals [x,y] us):∃u w',us=[u,w']/\RelV x u/\RelV y w':=by
 cases r with
 | cons r1 r2=>
  cases r2 with
  | cons r3 r4=>cases r4;exact⟨_,_,rfl,r1,r3⟩
theorem qj7(hc:X.calm=true):CallR X (.builtin "max") (λxs H Q=>∃i j,xs=[.int i,.int j]/\Q (.int (if j>i then j else i)) H):=by
 intro pins s σ H xs us Q I r h
 obtain⟨i,j,rfl,q⟩:=h
 obtain⟨u,w',rfl,⟨t,rfl⟩,⟨t',rfl⟩⟩:=vals2 r
 refine max_two_ints (I.ok.hd hc) λh' tk k=>⟨_,H,I.kept k,?_,q⟩
 by_cases hj:j>i
 ·rw[if_pos hj,if_pos hj];exact⟨_,rfl⟩
 ·rw[if_neg hj,if_neg hj];exact⟨_,rfl⟩
theorem qiT(hc:X.calm=true):CallR X (.builtin "min") (λxs H Q=>∃i j,xs=[.int i,.int j]/\Q (.int (if j<i then j else i)) H):=by
 intro pins s σ H xs us Q I r h
 obtain⟨i,j,rfl,q⟩:=h
 obtain⟨u,w',rfl,⟨t,rfl⟩,⟨t',rfl⟩⟩:=vals2 r
 refine min_two_ints (I.ok.hd hc) λh' tk k=>⟨_,H,I.kept k,?_,q⟩
 by_cases hj:j<i
 ·rw[if_pos hj,if_pos hj];exact⟨_,rfl⟩
 ·rw[if_neg hj,if_neg hj];exact⟨_,rfl⟩
theorem qj6:CallR X (.type "int") (λxs H Q=>(∃i,xs=[.int i]/\Q (.int i) H)\/∃k,xs=[.bl k]/\Q (.int (if k then 1 else 0)) H):=by
 intro pins s σ H xs us Q I r h
 rcases h with⟨i,rfl,q⟩|⟨k,rfl,q⟩
 ·obtain⟨u,rfl,t,rfl⟩:=vals1 r
  exact call_int_int ⟨.int i,H,I,⟨_,rfl⟩,q⟩
 ·obtain⟨u,rfl,r1⟩:=vals1 r
  cases r1
  exact call_int_bool ⟨.int (if k then 1 else 0),H,I.tok _,⟨_,rfl⟩,q⟩
noncomputable def LenV(K:zae)(x:V)(H:Hp)(n:Nat):Prop:=
 match x with
 | .str y=>y.length<=zaj/\n=y.length
 | .byt y=>y.size<=zaj/\n=y.size
 | .ref p=>(∃xs,SqL K H p xs/\n=xs.length)\/∃xs,SqT K H p xs/\n=xs.length
 | _=>False
theorem qeq:CallR X (.builtin "len") (λxs H Q=>∃x n,xs=[x]/\LenV X.K x H n/\Q (.int n) H):=by
 intro pins s σ H xs us Q I r h
 obtain⟨x,n,rfl,e,q⟩:=h
 obtain⟨u,rfl,rx⟩:=vals1 r
 have hl:=qfz
 have hs:zaj=16777216:=sizeLine_eq
 cases x with
 | str y=>
  obtain⟨t,rfl⟩:=rx
  obtain⟨hy,e'⟩:y.length<=zaj/\n=y.length:=e
  subst e'
  exact len_str (by omega) ⟨.int _,H,I.tok _,⟨_,rfl⟩,q⟩
 | byt y=>
  obtain⟨t,rfl⟩:=rx
  obtain⟨hy,e'⟩:y.size<=zaj/\n=y.size:=e
  subst e'
  exact PySem.W.len_bytes (by omega) ⟨.int _,H,I.tok _,⟨_,rfl⟩,q⟩
 | ref p=>
  cases rx
  have e':(∃xs,SqL X.K H p xs/\n=xs.length)\/∃xs,SqT X.K H p xs/\n=xs.length:=e
  rcases e' with⟨xs,hx,e'⟩|⟨xs,hx,e'⟩
  ·subst e'
   obtain⟨its,r',pl,hz⟩:=I.list hx
   have hlen:=r'.length
   exact Calls.call_len_list pl.isList (by simp only[zau];omega) ⟨.int xs.length,H,I.tok _,⟨_,by simp only[zau];rw[hlen]⟩,q⟩
  ·subst e'
   obtain⟨its,r',pl,hz⟩:=I.tuple hx
   have hlen:=r'.length
   exact len_tuple pl (by simp only[zau];omega) ⟨.int xs.length,H,I.tok _,⟨_,by simp only[zau];rw[hlen]⟩,q⟩
 | _=>exact(show False from e).elim
end
structure ObjM(h:Heap)(x dx C:Addr)(mA:Str->Option Value):Prop where
 obj:h.get? x=some (PySem.W.instObj C dx)
 ns:h.Ns1 dx mA
 ne:dx≠x
theorem qjs{h:Heap}{dx:Addr}{mA:Str->Option Value}(n:h.Ns1 dx mA):∃od,h.get? dx=some od/\∀name,PySem.W.lookIn name od=some (mA name):=by
 obtain⟨o,es,ep,ho,hd,hk,_,hm⟩:=n
 refine⟨o,ho,λname=>?_⟩
 have e:=hm name
 unfold nsFind findBy at e
 rw[<- Array.find?_toList]at e
 unfold PySem.W.lookIn
 rw[hd]
 dsimp only
 split
 ·rename_i y q
  rw[q]at e
  exact congrArg some e
 ·rename_i q
  rw[q]at e
  have a:es.toList.any (·.refKey)=false:=by
   rw[List.any_eq_false]
   intro y hy
   obtain⟨z,t,hkey⟩:=hk y (Array.mem_toList_iff.mp hy)
   simp[DictEntry.refKey,hkey]
  have a':¬ es.toList.any (·.refKey)=true:=by rw[a];exact zaq
  rw[if_neg a']
  exact congrArg some e
theorem ObjM.look{h:Heap}{x dx C:Addr}{mA:Str->Option Value}(I:ObjM h x dx C mA):∃od,PySem.W.InstAt h x (PySem.W.instObj C dx) C (some od)/\∀name,PySem.W.lookIn name od=some (mA name):=
 let ⟨od,ho,hl⟩:=qjs I.ns
 ⟨od,⟨I.obj,rfl,rfl,ho⟩,hl⟩
section
variable {prog:zai}{w:World}{A:Around}{E:Value->Shared->Prop}{s:Shared}{K:zae}{x dx C f:Addr}{mA:Str->Option Value}{name:Str}{v:Value}
end
theorem RelO.some_of{v:V}{o:Option Value}(r:RelO (some v) o):∃u,o=some u/\RelV v u:=by
 cases o with
 | none=>exact(show False from r).elim
 | some u=>exact⟨u,rfl,r⟩
section
variable {P:zai}{w:World}{H H':Hp}{h h':Heap}{a C dx:Addr}{fs fs':List (Str×V)}
theorem qmz(hok:HOk P w H h)(e:H a=some (.ins C dx fs)):∃mA,ObjM h a dx C mA/\(∀f,RelO (fs.lookup f) (mA f))/\PySem.Within mA (fs.map (·.1))/\fs.length<=1000/\H dx=some (.own a):=by
 obtain⟨d,z,ne,ob,mA,n,r,q⟩:=(show ObjOk P w H h a (.ins C dx fs)from hok a _ e)
 exact⟨mA,⟨ob,n,ne⟩,r,q,z,d⟩
end
structure Cls(K:zae)(C:Addr):Prop where
 pg:PySem.W.plainGet K C Str.empty=true
 hd:PySem.W.hasDictIn K C=true
 po:PySem.W.plainOver K C=true
 sa:PySem.W.findIn K (.ref C) "__setattr__" = some (some (.builtin "object.__setattr__"))
theorem Cls.get{K:zae}{C:Addr}(c:Cls K C)(f:Str):PySem.W.plainGet K C f=true:=c.pg
section
variable {X:Cx}{pins:List (Addr×Obj)}{σ:St}{H:Hp}{s:Shared}{a C dx:Addr}{fs:List (Str×V)}{f:Str}{v:V}{A:Around}{E:Value->Shared->Prop}
end
section
variable {X:Cx}{o e value:Expr}{f:Str}{pos pos' tpos:Pos}{ta tv:TE}
end
section
variable {X:Cx}{pins:List (Addr×Obj)}{σ:St}{H:Hp}{s:Shared}{A:Around}{E:Value->Shared->Prop}{Q:Value->Shared->Prop}{c:Value}{b:Bool}
inductive TyOf(K:zae)(H:Hp):V->Value->Prop where
 | non:TyOf K H .non (.type "NoneType")
 | bl (x:Bool):TyOf K H (.bl x) (.type "bool")
 | int (i:Int):TyOf K H (.int i) (.type "int")
 | str (x:Str):TyOf K H (.str x) (.type "str")
 | flt (x:UInt64):TyOf K H (.flt x) (.type "float")
 | lst {a:Addr} {xs:List V} (e:H a=some (.lst xs)):TyOf K H (.ref a) (.type "list")
 | frz {a:Addr} {o:Obj} {xs:List V} (e:H a=some (.frz o (.lst xs))):TyOf K H (.ref a) (.type "list")
 | tup {a:Addr} {xs:List V} (e:H a=some (.tup xs)):TyOf K H (.ref a) (.type "tuple")
 | dK {a:Addr} {kvs:List (Key×V)} (e:H a=some (.dK kvs)):TyOf K H (.ref a) (.type "dict")
 | dT {a:Addr} {kvs:List (List Key×V)} (e:H a=some (.dT kvs)):TyOf K H (.ref a) (.type "dict")
 | ins {a C dx:Addr} {fs:List (Str×V)} (e:H a=some (.ins C dx fs)) (cl:Cls K C) (ha:PySem.W.findIn K (.ref C) "__class__" = some (some (.builtin "object.__class__")))
   (hn:PySem.W.specialIn K (.builtin "object.__class__") "__get__" = some (some (.builtin "getset_descriptor.__get__"))) (htk:PySem.W.takesIn K (.builtin "object.__class__")=some true)
   (hm:PySem.W.mroIn K C (.type "object")=some true):TyOf K H (.ref a) (.ref C)
theorem qiC{x:V}{u t:Value}(I:Inv X pins σ H s)(rx:RelV x u)(ty:TyOf X.K H x t)(e:PySem.W.kitOne X.K t c=some b)(h:∀tk,Q (.bool b) {s with toks:=tk}) :
  wpAny (model X.prog X.w) A (call (.builtin "isinstance") [u,c]) Q E s:=by
 cases ty with
 | non=>cases(show u=zaD from rx);exact zbd PySem.W.kitx_none I.kIn za3 e (λz=>nomatch z) h
 | bl y=>cases(show u=Value.bool y from rx);exact zbd PySem.W.kitx_bool I.kIn za3 e (λz=>nomatch z) h
 | int i=>obtain⟨t,q⟩:=(show ∃t,u=Value.int i t from rx);cases q;exact zbd PySem.W.kitx_int I.kIn za3 e (λz=>nomatch z) h
 | str y=>obtain⟨t,q⟩:=(show ∃t,u=Value.str y t from rx);cases q;exact zbd PySem.W.kitx_str I.kIn za3 e (λz=>nomatch z) h
 | flt y=>obtain⟨t,q⟩:=(show ∃t,u=Value.float y t from rx);cases q;exact zbd PySem.W.kitx_float I.kIn za3 e (λz=>nomatch z) h
 | @lst a xs ea=>
  cases(show u=zal a from rx)
  obtain⟨_,_,n,_,h1⟩:=(show ObjOk X.prog X.w H s.heap a (.lst xs)from I.hok a _ ea)
  exact zbd PySem.W.kitx_list I.kIn ⟨_,h1,rfl⟩ e (λz=>nomatch z) h
 | @frz a ob xs ea=>
  cases(show u=zal a from rx)
  obtain⟨_,_,_,n,_,h1⟩:=(show ObjOk X.prog X.w H s.heap a (.frz ob (.lst xs))from I.hok a _ ea)
  exact zbd PySem.W.kitx_list I.kIn ⟨_,h1,rfl⟩ e (λz=>nomatch z) h
 | @tup a xs ea=>
  cases(show u=zal a from rx)
  obtain⟨_,_,_,p⟩:=(show ObjOk X.prog X.w H s.heap a (.tup xs)from I.hok a _ ea)
  obtain⟨o,h1,h2,_⟩:=p
  exact zbd PySem.W.kitx_tuple I.kIn ⟨o,h1,h2⟩ e (λz=>nomatch z) h
 | @dK a kvs ea=>
  cases(show u=zal a from rx)
  obtain⟨_,_,vs,_,p⟩:=(show ObjOk X.prog X.w H s.heap a (.dK kvs)from I.hok a _ ea)
  obtain⟨o,es,ep,h1,h2,_⟩:=p
  exact zbd PySem.W.kitx_dict I.kIn ⟨o,h1,h2.1⟩ e (λz=>nomatch z) h
 | @dT a kvs ea=>
  cases(show u=zal a from rx)
  obtain⟨_,_,xs,_,o,es,ep,h1,h2,_⟩:=(show ObjOk X.prog X.w H s.heap a (.dT kvs)from I.hok a _ ea)
  exact zbd PySem.W.kitx_dict I.kIn ⟨o,h1,h2.1⟩ e (λz=>nomatch z) h
 | @ins a C dx fs ea cl ha hn htk hm=>
  cases(show u=zal a from rx)
  obtain⟨mA,O,_⟩:=qmz I.hok ea
  obtain⟨od,J,_⟩:=O.look
  exact zbd (PySem.W.kitx_own (cl.get _) cl.hd ha hn htk hm) I.kIn J e (λz=>nomatch z) h
end
structure Room(k:Nat)(A:Around):Prop where
 hd:A.handled=none
 dp:A.depth+3*k+5<recursionLimit
 un:A.units+16*k+200<cLine
theorem Room.mono{j k:Nat}{A:Around}(r:Room k A)(h:j<=k):Room j A:=⟨r.hd,by have:=r.dp;omega,by have:=r.un;omega⟩
theorem Room.deeper{k:Nat}{A:Around}(r:Room (k+1) A)(env:Env):Room k (A.deeper env):=
 ⟨r.hd,by have:=r.dp;show A.depth+1+3*k+5<_;omega,by have:=r.un;show A.units+3+16*k+200<_;omega⟩
theorem Room.depth{k:Nat}{A:Around}(r:Room k A):A.depth<recursionLimit:=by have:=r.dp;omega
theorem Room.units{k:Nat}{A:Around}(r:Room k A):A.units+64<cLine:=by have:=r.un;omega
theorem Room.units0{k:Nat}{A:Around}(r:Room k A):A.units<cLine:=by have:=r.un;omega
noncomputable def tNil:TA:=λ_ H Q=>Q [] H
noncomputable def qkV(ta:TE)(tr:TA):TA:=λσ H Q=>ta σ H λx H1=>tr σ H1 λxs H2=>Q (x::xs) H2
section
variable {X:Cx}{e:Expr}{es:List Expr}{te:TE}{t:TA}{pos:Pos}
theorem qdy:PA X [] tNil:=λ_ _ _ _ H Q I h=>Calls.spliced_nil ⟨[],H,I,.nil,h⟩
theorem qbh(ha:PE X e te)(hr:PA X es t)(hs:zaf (e::es) X.env=(false,eval e X.env)::zaf es X.env:=by rfl):PA X (e::es) (qkV te t):=by
 intro pos pins s σ H Q I h
 rw[hs]
 show wpAny _ _ (spliced ((false,eval e X.env)::backTo pos (zaf es X.env))) _ _ s
 refine Calls.spliced_cons (thn (ha pins s σ H _ I h) λu s1 ⟨x,H1,I1,r1,q1⟩=>?_)
 exact thn (hr pos pins s1 σ H1 _ I1 q1) λus s2 ⟨xs,H2,I2,r2,q2⟩=>⟨x::xs,H2,I2,.cons r1 r2,q2⟩
noncomputable def tTup(t:TA):TE:=λσ H Q=>t σ H λxs H1=>xs.length<=zaj/\∀p,H1 p=none->Q (.ref p) (upd H1 p (.tup xs))
noncomputable def tLst(t:TA):TE:=λσ H Q=>t σ H λxs H1=>xs.length<=zaj/\∀p,H1 p=none->Q (.ref p) (upd H1 p (.lst xs))
theorem qpw{x1}(h:PA X es t):PE X (.Tuple es x1 pos) (tTup t):=by
 intro pins s σ H Q I hq
 refine wpAny_Tuple_spliced (thn (h pos pins s σ H _ I hq) λus s1 ⟨xs,H1,I1,r,z,q⟩=>⟨by rw[<- r.length];exact z,?_⟩)
 have hf:H1 s1.heap.objs.size=none:=I1.hok.fresh (zam _)
 refine⟨.ref s1.heap.objs.size,upd H1 s1.heap.objs.size (.tup xs),I1.laid (t':=s1.toks) (λb u e=>zag _ e) (zam _) ?_,rfl,q _ hf⟩
 exact⟨z,us,r,⟨_,zat _ rfl,rfl,_,rfl,rfl⟩⟩
theorem qpn(h:PA X es t):PE X (.List es pos) (tLst t):=by
 intro pins s σ H Q I hq
 refine wpAny_List_spliced (thn (h pos pins s σ H _ I hq) λus s1 ⟨xs,H1,I1,r,z,q⟩=>⟨by rw[<- r.length];exact z,?_⟩)
 have hf:H1 s1.heap.objs.size=none:=I1.hok.fresh (zam _)
 refine⟨.ref s1.heap.objs.size,upd H1 s1.heap.objs.size (.lst xs),I1.laid (t':=s1.toks) (λb u e=>zag _ e) (zam _) ?_,rfl,q _ hf⟩
 exact⟨z,us,0,r,zat _ rfl⟩
end
noncomputable abbrev Sp:=List V->Hp->VK->XK->Prop
noncomputable abbrev CXT:=List Env->Hp->Shared->XK->Value->Shared->Prop
structure Env0(P:zai)(w:World)(K:zae)(mg:Str->Option Value)(base:Heap)(A:Around)(outer:List Env)(s:Shared)(H:Hp):Prop where
 frames:A.frames=some outer
 mod:Mod K mg base
 bs:∀b o,base.get? b=some o->s.heap.get? b=some o/\H b=none
 bsz:base.objs.size<=s.heap.objs.size
 funs:s.heap.FunFrames base outer
 frf:∀b∈frs outer,H b=none
 hok:HOk P w H s.heap
 bare:AllBare s.gens
noncomputable def CE(outer:List Env)(P:zai)(w:World)(H:Hp)(s:Shared)(Q:VK)(u:Value)(s':Shared):Prop:=
 ∃v H',s'.os=s.os/\AllBare s'.gens/\Un (frs outer) [] H H' s.heap s'.heap/\HOk P w H' s'.heap/\RelV v u/\Q v H'
noncomputable def CR(CX:CXT)(outer:List Env)(P:zai)(w:World)(H:Hp)(s:Shared)(Q:VK)(E:XK)(r:Result)(s':Shared):Prop:=
 match r with
 | .ok (.ret u)=>CE outer P w H s Q u s'
 | .ok _=>False
 | .error e=>CX outer H s E e s'
structure FnOk(P:zai)(w:World)(K:zae)(mg:Str->Option Value)(base:Heap)(CX:CXT)(k:Nat)(f:Addr)(fd:FuncData)(ps:List Str)(sp:Sp):Prop where
 len:∀vs H Q E,sp vs H Q E->vs.length=ps.length
 run:∀(A:Around) (outer:List Env) (s:Shared) (H:Hp) (args:Args) (us:List Value) (vs:List V) (Q:VK) (E:XK),Room k A->Env0 P w K mg base A outer s H->BindsTo s fd args (ps.zip us)->Vals vs us->sp vs H Q E->
  codeAny (model P w) A (.call (.ref f) args) (CR CX outer P w H s Q E) s
theorem FnOk.mono{P:zai}{w:World}{K:zae}{mg:Str->Option Value}{base:Heap}{CX:CXT}{j k:Nat}{f:Addr}{fd:FuncData}{ps:List Str}{sp:Sp}(F:FnOk P w K mg base CX j f fd ps sp)(h:j<=k) :
  FnOk P w K mg base CX k f fd ps sp:=⟨F.len,λA outer s H args us vs Q E hr=>F.run A outer s H args us vs Q E (hr.mono h)⟩
section
variable {X:Cx}{pins:List (Addr×Obj)}{σ:St}{H:Hp}{s s':Shared}
theorem Inv.env0(I:Inv X pins σ H s):Env0 X.prog X.w X.K X.mg X.base X.A X.stack s H:=
 ⟨I.ok.frames,I.ok.mod,I.bs,zaY I.ok.bsz I.sz,I.stack,I.stkFree,I.hok,I.bare⟩
theorem Inv.after{Q:VK}{u:Value}(I:Inv X pins σ H s)(h:CE X.stack X.prog X.w H s Q u s'):EP X pins σ Q u s':=by
 obtain⟨v,H',os,bare,un,hok,r,q⟩:=h
 obtain⟨hh,g,d,t,os'⟩:=s'
 obtain rfl:os'=s.os:=os
 exact⟨v,H',I.call (h':=hh) (g':=g) (d':=d) (t':=t) (ch:=[]) un hok bare (λb z=>absurd z (by simp)),r,q⟩
end
noncomputable def qq1(sp:Sp)(dvs:List V)(E:XK)(t:TA):TE:=λσ H Q=>t σ H λvs H1=>sp (vs++dvs) H1 Q E
noncomputable def Binds(K:zae)(fd:FuncData)(ps:List Str)(ds:List Value):Prop:=
 ∀(s:Shared) (us:List Value),K.In s.heap->(us++ds).length=ps.length->BindsTo s fd ⟨us,[]⟩ (ps.zip (us++ds))
theorem Binds.all{K:zae}{fd:FuncData}{ps:List Str}(h:∀us:List Value,us.length=ps.length->bindArgs fd ⟨us,[]⟩=pure (ps.zip us)):Binds K fd ps []:=λs us _ hl=>by
 rw[List.append_nil]at hl ⊢
 exact .of_eq (h us hl)
noncomputable def qjV(CX:CXT)(X:Cx)(E:XK):Prop:=∀(pins:List (Addr×Obj)) (σ:St) (H:Hp) (s:Shared) (e:Value) (s':Shared),Inv X pins σ H s->CX X.stack H s E e s'->X.xe e s'
section
variable {X:Cx}{CX:CXT}{k:Nat}{f C:Addr}{fd:FuncData}{ps:List Str}{sp:Sp}{dvs:List V}{ds:List Value}{E:XK}{x m:Str}{p pos apos:Pos}{e o:Expr}{es:List Expr}{ta:TE}{t:TA}
theorem qor{pins:List (Addr×Obj)}{σ:St}{H:Hp}{s:Shared}{Q:VK}{us:List Value}{vs:List V}(F:FnOk X.prog X.w X.K X.mg X.base CX k f fd ps sp)(hr:Room k X.A)(hb:Binds X.K fd ps ds)(hd:Vals dvs ds)(hx:qjV CX X E)
  (I:Inv X pins σ H s) (r:Vals vs us) (h:sp (vs++dvs) H Q E):wpAny (model X.prog X.w) X.A (call (.ref f) us) (EP X pins σ Q) X.xe s:=by
 have r2:Vals (vs++dvs) (us++ds):=r.append hd
 have hl:(us++ds).length=ps.length:=by rw[<- r2.length];exact F.len _ _ _ _ h
 refine wpAny_call (codeAny_mono (F.run X.A X.stack s H ⟨us,[]⟩ (us++ds) (vs++dvs) Q E hr I.env0 (hb s us I.kIn hl) r2 h) λr s' hq=>?_)
 cases r with
 | error e=>exact hx pins σ H s e s' I hq
 | ok fl=>
  cases fl with
  | ret u=>exact I.after hq
  | next=>exact zbh hq
  | brk=>exact zbh hq
  | cont=>exact zbh hq
theorem qnu(F:FnOk X.prog X.w X.K X.mg X.base CX k f fd ps sp)(hr:Room k X.A)(hg:Gl X x)(hm:X.mg x=some (.ref f))(hk:zbL X.K (.ref f)=true)(hb:Binds X.K fd ps ds)(hd:Vals dvs ds)(hx:qjV CX X E)
  (ha:PA X (e::es) t) (hdb:(x == ("__debug__" : Str))=false:=by decide) (he:zaf (e::es) X.env=(false,eval e X.env)::zaf es X.env:=by rfl) (hpl:(backTo pos (zaf es X.env)).any (·.1)=false:=by rfl) :
  PE X (.Call (.Name x p) (e::es) [] pos) (qq1 sp dvs E t):=by
 intro pins s σ H Q I h
 refine wpAny_Call_Name_kw (qiE I hg hm ?_ hdb)
 refine PySem.W.callWith_K (h₀:=X.base) I.ok.mod.kin hk (thn (ha pos pins s σ H _ I h) λus s1 ⟨vs,H1,I1,r,q⟩=>⟨I1.kIn,?_⟩) he hpl
 exact qor F hr hb hd hx I1 r q
structure Mk(K:zae)(C f:Addr):Prop where
 makes:PySem.W.makesIn K C=true
 init:PySem.W.findIn K (.ref C) "__init__" = some (some (.ref f))
 fn:PySem.W.isFn K (.ref f)=true
 kp:zbL K (.ref C)=true
end
noncomputable def PK(X:Cx)(kws:List Keyword)(t:TA):Prop:=
 ∀(pos:Pos) (pins:List (Addr×Obj)) (s:Shared) (σ:St) (H:Hp) (Q:List V->Hp->Prop),Inv X pins σ H s->t σ H Q->wpAny (model X.prog X.w) X.A (evalAll ((backToKw pos (keywordEach kws X.env)).map (·.2))) (AP X pins σ Q) X.xe s
section
variable {X:Cx}{CX:CXT}{k:Nat}{f C:Addr}{fd:FuncData}{ps ks:List Str}{sp:Sp}{E:XK}{x m:Str}{p pos apos kpos:Pos}{e o:Expr}{es:List Expr}{kws:List Keyword}{te ta:TE}{t tk:TA}{nm:Option Str}
theorem qpy:PK X [] tNil:=λ_ _ _ _ H Q I h=>wpAny_evalAll_nil ⟨[],H,I,.nil,h⟩
theorem qnX(ha:PE X e te)(hr:PK X kws t):PK X (⟨nm,e,kpos⟩::kws) (qkV te t):=by
 intro pos pins s σ H Q I h
 show wpAny _ _ (evalAll ((do let v <- eval e X.env;standAt pos;pure v)::(backToKw pos (keywordEach kws X.env)).map (·.2))) _ _ s
 refine wpAny_evalAll_cons (zaa (thn (ha pins s σ H _ I h) λu s1 ⟨x,H1,I1,r1,q1⟩=>zaa (wpAny_standAt (zab ?_))))
 exact thn (hr pos pins s1 σ H1 _ I1 q1) λus s2 ⟨xs,H2,I2,r2,q2⟩=>⟨x::xs,H2,I2,.cons r1 r2,q2⟩
variable {g:List Value->List Value->List Value}{gV:List V->List V->List V}
end
structure FnScope(N P:List Str)(sc:Scope):Prop where
 kind:sc.kind=.function
 co:sc.isCoroutine=false
 gen:sc.isGenerator=false
 nd:N.Nodup
 pre:N.take P.length=P
 par:∀x∈P,sc.names.lookup x=some .local\/sc.names.lookup x=some .cell
 nofree:∀y∈sc.names,y.2≠.free
theorem qe8{kindOf:Str->Option NameKind}{x:Str}:∀ {binds:List (Str×Value)} {m:Str->Option Value},(∀v,(x,v)∉binds)->bindL kindOf binds m x=m x
 | [],_,_=>rfl
 | (n,v)::r,m,h=>by
  unfold bindL
  rw[qe8 λw hw=>h w (zaz _ hw)]
  split
  ·have:x≠n:=by rintro rfl;exact h v zay
   simp[this]
  ·rfl
theorem qfp{kindOf:Str->Option NameKind}{x:Str}:∀ {binds:List (Str×Value)} {m:Str->Option Value},(∀v,(x,v)∉binds)->bindC kindOf binds m x=m x
 | [],_,_=>rfl
 | (n,v)::r,m,h=>by
  unfold bindC
  rw[qfp λw hw=>h w (zaz _ hw)]
  split
  ·rfl
  ·have:x≠n:=by rintro rfl;exact h v zay
   simp[this]
theorem qfE{kindOf:Str->Option NameKind}{x:Str}{v:Value}:∀ {P:List Str} {vs:List Value} {i:Nat} {m:Str->Option Value},P.Nodup->P[i]?=some x->vs[i]?=some v->kindOf x=some .local->
  bindL kindOf (P.zip vs) m x=some v
 | [],_,_,_,_,h,_,_=>by simp at h
 | _::_,[],_,_,_,_,h,_=>by simp at h
 | p::P,w::vs,0,m,nd,h1,h2,hk=>by
  simp at h1 h2;subst h1;subst h2
  show bindL kindOf ((p,w)::P.zip vs) m p=_
  unfold bindL
  rw[qe8 λv hv=>(List.nodup_cons.mp nd).1 (List.of_mem_zip hv).1,if_pos hk]
  simp
 | p::P,w::vs,i+1,m,nd,h1,h2,hk=>by
  show bindL kindOf ((p,w)::P.zip vs) m x=_
  unfold bindL
  exact qfE (i:=i) (List.nodup_cons.mp nd).2 (by simpa using h1) (by simpa using h2) hk
theorem qfB{kindOf:Str->Option NameKind}{x:Str}{v:Value}:∀ {P:List Str} {vs:List Value} {i:Nat} {m:Str->Option Value},P.Nodup->P[i]?=some x->vs[i]?=some v->kindOf x≠some .local->
  bindC kindOf (P.zip vs) m x=some v
 | [],_,_,_,_,h,_,_=>by simp at h
 | _::_,[],_,_,_,_,h,_=>by simp at h
 | p::P,w::vs,0,m,nd,h1,h2,hk=>by
  simp at h1 h2;subst h1;subst h2
  show bindC kindOf ((p,w)::P.zip vs) m p=_
  unfold bindC
  rw[qfp λv hv=>(List.nodup_cons.mp nd).1 (List.of_mem_zip hv).1,if_neg hk]
  simp
 | p::P,w::vs,i+1,m,nd,h1,h2,hk=>by
  show bindC kindOf ((p,w)::P.zip vs) m x=_
  unfold bindC
  exact qfB (i:=i) (List.nodup_cons.mp nd).2 (by simpa using h1) (by simpa using h2) hk
noncomputable def start(N:List Str)(vs:List V):St:=vs.map some++zaG (N.length-vs.length) none
noncomputable def cxOf(CX:CXT)(P:zai)(w:World)(K:zae)(mg:Str->Option Value)(base:Heap)(N:List Str)(qual:Str)(scope:Scope)(f:Addr)(cd:Value)(A:Around)(outer:List Env)(s:Shared)(H:Hp)(E:XK):Cx where
 prog:=P
 w:=w
 K:=K
 mg:=mg
 base:=base
 A:=A.deeper (envOfC qual scope s.heap.objs.size f cd)
 N:=N
 s₀:=s
 H₀:=H
 env:=envOfC qual scope s.heap.objs.size f cd
 outer:=outer
 stack:=envOfC qual scope s.heap.objs.size f cd::outer
 ex:=[]
 calm:=true
 fn:=λ_=>true
 pn:=[]
 xe:=λe s'=>wpAny (model P w) (A.deeper (envOfC qual scope s.heap.objs.size f cd)) (leaving (envOfC qual scope s.heap.objs.size f cd) e) (λ_ s''=>CX outer H s E e s'') (λe' s''=>CX outer H s E e' s'') s'
theorem qew{sc:Scope}{n:Nat}{x:Str}(h:sc.names.lookup x=some .cell):∃c,(cellsFrom n sc.names []).lookup x=some c:=by
 have q:=PySem.W.cellsFrom_some sc.names n [] (.inl h)
 exact Option.isSome_iff_exists.mp q
theorem qij{CX:CXT}{P:zai}{w:World}{K:zae}{mg:Str->Option Value}{base:Heap}{N ps:List Str}{qual:Str}{scope:Scope}{f:Addr}{cd:Value}{A:Around}{outer:List Env}{s s1:Shared}{H:Hp}{E:XK}{us:List Value}{vs:List V}
  (S:FnScope N ps scope) (hd:A.handled=none) (e0:Env0 P w K mg base A outer s H) (hl:vs.length=ps.length) (r:Vals vs us)
  (x:InCallC s s.heap.objs.size (bindL (envOfC qual scope s.heap.objs.size f cd).kindOf (ps.zip us) λ_=>none) (cellsFrom (s.heap.objs.size+1) scope.names []) (bindC (envOfC qual scope s.heap.objs.size f cd).kindOf (ps.zip us) λ_=>none) s1) :
  Inv (cxOf CX P w K mg base N qual scope f cd A outer s H E) [] (start N vs) H s1:=by
 have hpl:ps.length<=N.length:=by have:=congrArg zbr S.pre;rw[zbM]at this;omega
 obtain⟨h1,tk,rfl,hk⟩:=x.done
 have noA:∀b:Addr,b∉(cxOf CX P w K mg base N qual scope f cd A outer s H E).ex:=λb z=>absurd (show b∈([]:List Addr)from z) (by simp)
 refine⟨⟨e0.mod,S.kind,rfl,rfl,zam _,λy z c h1 h2=>?_,λy hy=>?_,λy c _ h=>?_,λ_=>hd,Around.frames_deeper e0.frames,.inr ⟨rfl,rfl⟩,λb z=>absurd z (noA b),e0.bs,e0.bsz,λb _ _=>noA b,λb z=>absurd z (noA b),e0.funs,e0.frf⟩,
  rfl,e0.bare,Un.kept hk,⟨_,x.toInCall.ns,λi y v h1 h2 h3=>?_⟩,λy c h=>⟨_,x.cell y c h⟩,e0.hok.fresh (zam _),λy c h=>?_,λp hp=>absurd (show p∈([]:List (Addr×Obj))from hp) (by simp),e0.hok.kept hk,?_⟩
 ·exact name_of_addr x.apart (PySem.mem_of_lookup h1) (PySem.mem_of_lookup h2)
 ·have hy:scope.names.lookup y=some .cell\/scope.names.lookup y=some .free:=hy
  rcases hy with hy|hy
  ·exact qew hy
  ·exact absurd rfl (S.nofree _ (PySem.mem_of_lookup hy))
 ·exact Nat.le_of_lt (x.above y c (PySem.mem_of_lookup h))
 ·have hi:i<vs.length:=by
   unfold start at h2
   by_cases hi:i<vs.length
   ·exact hi
   ·rw[List.getElem?_append_right (by simpa using hi)]at h2
    rw[List.getElem?_replicate]at h2
    split at h2 <;> cases h2
  have ha:vs[i]?=some v:=by
   unfold start at h2
   rw[zb4 (by simpa using hi),zax]at h2
   cases e:vs[i]? with
   | none=>rw[e]at h2;cases h2
   | some a=>rw[e]at h2;cases h2;rfl
  obtain⟨u,hu,rv⟩:=r.get ha
  have hp:ps[i]?=some y:=by
   rw[<- S.pre,List.getElem?_take_of_lt (by omega)];exact h1
  have ndP:ps.Nodup:=by rw[<- S.pre];exact S.nd.sublist (List.take_sublist _ _)
  refine⟨u,rv,?_⟩
  rcases S.par y (zaH hp)with k|k
  ·exact .inl ⟨k,qfE ndP hp hu k⟩
  ·obtain⟨c,e⟩:=qew (n:=s.heap.objs.size+1) k
   refine .inr ⟨.inl k,c,e,?_⟩
   have q:=x.cell y c e
   rw[qfB ndP hp hu (by show scope.names.lookup y≠_;rw[k];decide)]at q
   exact q
 ·exact e0.hok.fresh (Nat.le_of_lt (x.above y c (PySem.mem_of_lookup h)))
 ·unfold start
  show _=N.length
  rw[za8,zan,List.length_replicate]
  omega
theorem qqD{CX:CXT}{P:zai}{w:World}{K:zae}{mg:Str->Option Value}{base:Heap}{k:Nat}{f:Addr}{name qual:Str}{params:Arguments}{body:List Stmt}{scope:Scope}{dV kV doc pm cdv ct oc:Value}{an od:Option Addr}
  {osl:Array (Option Value)} {N ps:List Str} {sp:Sp} (lk:K.lookup f=some ⟨oc,od,.func (zbj name qual params body scope dV kV doc pm an cdv ct),osl⟩) (hcd:PySem.W.codeIn K cdv qual=true) (S:FnScope N ps scope)
  (len:∀vs H Q E,sp vs H Q E->vs.length=ps.length)
  (hbody:∀(A:Around) (outer:List Env) (s:Shared) (H:Hp) (vs:List V) (Q:VK) (E:XK), Room k (A.deeper (envOfC qual scope s.heap.objs.size f cdv)) -> sp vs H Q E ->
   ∃t,PSs (cxOf CX P w K mg base N qual scope f cdv A outer s H E) body t/\t {nx:=λ_ H'=>Q .non H',rt:=Q} (start N vs) H) :
  FnOk P w K mg base CX (k+1) f (zbj name qual params body scope dV kV doc pm an cdv ct) ps sp:=by
 refine⟨len,λA outer s H args us vs Q E hr e0 hb r hsp=>?_⟩
 have hl:=len _ _ _ _ hsp
 have KX:K.In s.heap:=e0.mod.kin.keeps λb o e=>(e0.bs b o e).1
 have lim:s.heap.NoLimit:=e0.mod.nolimit.keeps λb o e=>(e0.bs b o e).1
 have hkind:∀y∈ps.zip us,scope.names.lookup y.1=some .local\/(scope.names.lookup y.1=some .cell/\((cellsFrom (s.heap.objs.size+1) scope.names []).lookup y.1).isSome=true):=by
  rintro⟨n,v⟩ hy
  rcases S.par n (List.of_mem_zip hy).1 with q|q
  ·exact .inl q
  ·exact .inr ⟨q,PySem.W.cellsFrom_some _ _ _ (.inl q)⟩
 refine codeAny_call_function hr.depth (KX _ _ lk) rfl S.co S.gen rfl (PySem.W.codeRec_of KX hcd) (hb _ _ _ _ ?_)
 refine wpAny_newFunctionEnv_cells S.kind hkind λenv he s1 x=>?_
 subst he
 refine⟨lim.keeps x.toInCall.keep,codeAny_func ?_⟩
 obtain⟨t,ht,hq⟩:=hbody A outer s H vs Q E (hr.deeper _) hsp
 have I:Inv (cxOf CX P w K mg base N qual scope f cdv A outer s H E) [] (start N vs) H s1:=qij S hr.hd e0 hl r x
 refine zaZ (ht [] s1 (start N vs) H _ I hq) (λfl s' hs=>?_) λe s' hs=>hs
 have fin:∀ {σ':St} {H':Hp} {v:V} {u:Value},Inv (cxOf CX P w K mg base N qual scope f cdv A outer s H E) [] σ' H' s'->RelV v u->Q v H'->CE outer P w H s Q u s':=
  λ{σ' H' v u} J rv q=>⟨v,H',J.os,J.bare,J.base,J.hok,rv,q⟩
 cases fl with
 | ret u=>
  obtain⟨v,σ',H',J,rv,q⟩:=hs
  exact fin J rv q
 | next=>
  obtain⟨σ',H',J,q⟩:=hs
  exact fin (v:=V.non) (u:=zaD) J rfl q
 | brk=>
  obtain⟨_,_,_,q⟩:=hs
  exact zbh q
 | cont=>
  obtain⟨_,_,_,q⟩:=hs
  exact zbh q
section
variable {X:Cx}{x:Str}{p pos:Pos}{e:Expr}{es:List Expr}{t:TA}{id T:String}{r:List V->Hp->VK->Prop}
noncomputable def tCB(r:List V->Hp->VK->Prop)(t:TA):TE:=λσ H Q=>t σ H λvs H1=>r vs H1 Q
theorem qem(hc:CallR X (.builtin id) r)(hg:Gl X x)(hm:X.mg x=none)(hv:zaE x=some (.builtin id))(ha:PA X (e::es) t)(hn:x ≠ "__name__" := by decide)(hdb:(x == ("__debug__" : Str))=false:=by decide)
  (he:zaf (e::es) X.env=(false,eval e X.env)::zaf es X.env:=by rfl) (hpl:(backTo pos (zaf es X.env)).any (·.1)=false:=by rfl):PE X (.Call (.Name x p) (e::es) [] pos) (tCB r t):=by
 intro pins s σ H Q I h
 refine wpAny_Call_Name_kw (qbs I hg hm hv ?_ hn hdb)
 exact PyProof.Rows.callWith_builtin1 (thn (ha pos pins s σ H _ I h) λus s1 ⟨vs,H1,I1,r1,q1⟩=>hc pins s1 σ H1 vs us Q I1 r1 q1) he hpl
theorem qeV(hc:CallR X (.type T) r)(hg:Gl X x)(hm:X.mg x=none)(hv:zaE x=some (.type T))(ha:PA X (e::es) t)(hn:x ≠ "__name__" := by decide)(hdb:(x == ("__debug__" : Str))=false:=by decide)
  (he:zaf (e::es) X.env=(false,eval e X.env)::zaf es X.env:=by rfl) (hpl:(backTo pos (zaf es X.env)).any (·.1)=false:=by rfl):PE X (.Call (.Name x p) (e::es) [] pos) (tCB r t):=by
 intro pins s σ H Q I h
 refine wpAny_Call_Name_kw (qbs I hg hm hv ?_ hn hdb)
 exact zbZ (thn (ha pos pins s σ H _ I h) λus s1 ⟨vs,H1,I1,r1,q1⟩=>hc pins s1 σ H1 vs us Q I1 r1 q1) he hpl
end
end L2
namespace HT
open PySem PyProof.Rows
noncomputable def lexLt:List Int->List Int->Bool
 | [],[]=>false
 | [],_::_=>true
 | _::_,[]=>false
 | x::xs,y::ys=>if x=y then lexLt xs ys else decide (x<y)
theorem qaG(x y:Int)(xs ys:List Int):lexLt (x::xs) (y::ys)=if x=y then lexLt xs ys else decide (x<y):=rfl
theorem qeN:lexLt [] []=false:=rfl
theorem qds(y:Int)(ys:List Int):lexLt [] (y::ys)=true:=rfl
theorem qdr(x:Int)(xs:List Int):lexLt (x::xs) []=false:=rfl
theorem qkF(A:Around)(s:Shared)(a:Int)(t:Tok)(c:Int)(u:Tok):∃e,SeqAt.EqAt A s (.int a t) (.int c u) e/\(e=true↔a=c):=
 ⟨(a == c),SeqAt.EqAt.int_int a t c u,by simp⟩
theorem qlt(A:Around)(s:Shared)(a:Int)(t:Tok)(c:Int)(u:Tok)(prog:zai)(w:World)(E:Value->Shared->Prop)(Q:Value->Shared->Prop)(h:Q (.bool (decide (a<c))) s) :
  wpAny (model prog w) A (richCompare .Lt (.int a t) (.int c u)) Q E s:=
 (PyProof.Rows.lt_int h:wpAny (model prog w) A (zap .Lt (.int a t) (.int c u)) Q E s)
section
open PySem.SeqAt
open PySem.AutoSeq1 (wpAny_loadPart')
open PySem.MeetsSeq PySem.MeetsSeq2 PySem.MeetsSeq3
theorem qei(l b:Addr)(items items2:Array Value)(n n2:Nat)(dd dd2:Option Addr)(sl sl2:Array (Option Value))(ns ms:List Int)(hi:zaW items.toList ns)(hj:zaW items2.toList ms) :
  Meets (Builtin.«tuple.__lt__» ⟨[.ref l,.ref b],[]⟩)
   (λ_ R s => s.heap.get? l = some {cls := .type "tuple", dict:=dd, data := .seq items n, slots:=sl} /\ s.heap.get? b = some {cls := .type "tuple", dict:=dd2, data := .seq items2 n2, slots:=sl2} /\
    R (.ok (.ret (.bool (lexLt ns ms)))) s):=
 .of_wp λprog w A R s h=>by
  obtain⟨hp,g,d,tk,os⟩:=s;obtain⟨hl,hb,h⟩:=h
  have f2:=AutoSeq1.sub_tuple_tuple
  have z1:items.size=ns.length:=by rw[<- hi.length];simp
  have z2:items2.size=ms.length:=by rw[<- hj.length];simp
  wp_walk using zbD hl,zbD hb,wpAny_forIn_list _ (λrest b s'=>b.1=none/\s'=⟨hp,g,d,tk,os⟩/\∃(vs ws:List Value) (ns' ms':List Int),rest=vs.zip ws /\
   zaW vs ns'/\zaW ws ms'/\ns'.length+items2.size=ms'.length+items.size/\R (.ok (.ret (.bool (lexLt ns' ms')))) ⟨hp,g,d,tk,os⟩) _
  case turn=>
   rintro⟨y,x⟩ rest b s' ⟨hb',rfl,vs,ws,ns',ms',hz,hvi,hwi,hlen,hR⟩
   cases hvi with
   | nil=>rw[List.zip_nil_left]at hz;cases hz
   | cons a t hvi'=>
    cases hwi with
    | nil=>rw[List.zip_nil_right]at hz;cases hz
    | cons c u hwi'=>
     rw[List.zip_cons_cons]at hz
     injection hz with hyx hrest
     injection hyx with hy hx
     subst hy hx
     rw[qaG]at hR
     simp only[zaT]at hlen
     obtain⟨e,he,hiff⟩:=qkF A.in1 ⟨hp,g,d,tk,os⟩ a t c u
     refine zaa (he prog w _ _ ?_)
     cases e with
     | true=>
      rw[if_pos (hiff.mp rfl)]at hR
      wp_walk
      exact⟨rfl,rfl,_,_,_,_,hrest,hvi',hwi',by omega,hR⟩
     | false=>
      rw[if_neg (λq=>absurd (hiff.mpr q) zaq)]at hR
      have hri:=qlt A.in1 ⟨hp,g,d,tk,os⟩ a t c u prog w
      wp_walk using hri
      exact⟨_,rfl,by simpa using hR⟩
  case fin=>
   rintro⟨b1,b2⟩ s' ⟨hb',rfl,vs,ws,ns',ms',hz,hvi,hwi,hlen,hR⟩
   simp only at hb'
   subst hb'
   have hv:lexLt ns' ms'=decide (items.size<items2.size):=by
    cases hvi with
    | nil=>
     cases hwi with
     | nil=>
      simp only[List.length_nil]at hlen
      rw[qeN]
      exact(decide_eq_false (by omega)).symm
     | cons c u hw=>
      simp only[List.length_nil,zaT]at hlen
      rw[qds]
      exact(decide_eq_true (by omega)).symm
    | cons a t hv=>
     cases hwi with
     | nil=>
      simp only[List.length_nil,zaT]at hlen
      rw[qdr]
      exact(decide_eq_false (by omega)).symm
     | cons c u hw=>
      rw[List.zip_cons_cons]at hz
      cases hz
   rw[hv]at hR
   wp_walk
   exact⟨_,rfl,by simpa[Builtin.Tuple.tupleCompareSizes]using hR⟩
  case h=>
   exact⟨rfl,rfl,items.toList,items2.toList,ns,ms,rfl,hi,hj,by omega,h⟩
end
section
variable {prog:zai}{w:World}{A:Around}{E:Value->Shared->Prop}{s:Shared}
theorem qdC{l b:Addr}{items items2:Array Value}{ns ms:List Int}{Q:Value->Shared->Prop}(hl:IsTup s.heap l items)(hb:IsTup s.heap b items2)(hi:zaW items.toList ns)(hj:zaW items2.toList ms)
  (hu:A.units<cLine) (h:Q (.bool (lexLt ns ms)) s):wpAny (model prog w) A (zap .Lt (.ref l) (.ref b)) Q E s:=by
 obtain⟨⟨cls,dd,data,sl⟩,ho,hc,n,hd⟩:=id hl
 obtain⟨⟨cls2,dd2,data2,sl2⟩,ho2,hc2,n2,hd2⟩:=id hb
 simp only at hc hd hc2 hd2
 subst hc hd hc2 hd2
 exact richCompare_meets_room (op:=.Lt) ⟨_,ho,rfl⟩ ⟨_,ho2,rfl⟩ PySem.F.slot_tuple_lt PySem.F.entry_tuple_lt (PySem.F.args_tuple_lt_2 _ _) (qei l b items items2 n n2 dd dd2 sl sl2 ns ms hi hj)
  ⟨ho,ho2,show Value.bool (lexLt ns ms)≠Value.notImplemented/\Q (.bool (lexLt ns ms)) s from⟨(λx=>nomatch x),h⟩⟩ hu
theorem qm2{t b:Addr}{vs ws:List Value}{Q:Value->Shared->Prop}(ht:IsTup s.heap t vs.toArray)(hb:IsTup s.heap b ws.toArray)(hv:vs≠[])
  (h1:ws=[]->Q (.ref t) s) (h2:ws≠[]->Q (.ref s.heap.objs.size) {s with heap:=s.heap.push {cls:=.type "tuple",data:=.seq (vs++ws).toArray} })
  (hsz:vs.length+ws.length<=zaj):wpAny (model prog w) A (zaN .Add (.ref t) (.ref b)) Q E s:=by
 obtain⟨⟨cls,dd,data,sl⟩,ho,hc,n,hd⟩:=id ht
 obtain⟨⟨cls2,dd2,data2,sl2⟩,ho2,hc2,n2,hd2⟩:=id hb
 simp only at hc hd hc2 hd2
 subst hc hd hc2 hd2
 have e:vs.toArray++ws.toArray=(vs++ws).toArray:=by simp
 by_cases hw:ws=[]
 ·exact concat_meets ⟨_,ho,rfl⟩ ⟨_,ho2,rfl⟩ noFill_tuple_add seq_tuple_add PySem.F.slot_tuple_add PySem.F.entry_tuple_add (PySem.F.args_tuple_add_2 _ _)
   (tuple_addW1 t b vs.toArray ws.toArray n n2 dd dd2 sl sl2 (by simpa using hv) (by simp[hw])) ⟨ho,ho2,h1 hw⟩
 ·refine concat_meets ⟨_,ho,rfl⟩ ⟨_,ho2,rfl⟩ noFill_tuple_add seq_tuple_add PySem.F.slot_tuple_add PySem.F.entry_tuple_add (PySem.F.args_tuple_add_2 _ _)
   (tuple_addW2 t b vs.toArray ws.toArray n n2 dd dd2 sl sl2 (by simpa using hv) (by simpa using hw) (by rw[zau,zau];exact hsz)) ⟨ho,ho2,?_⟩
  rw[e]
  exact h2 hw
noncomputable def sIx(n d:Nat):Option Int->Nat
 | none=>d
 | some v=>if v<0 then(v+(n:Int)).toNat else min v.toNat n
theorem qpq(n d:Nat)(hd:d<=n)(o:Option Int):sIx n d o<=n:=by
 cases o with
 | none=>exact hd
 | some v=>
  show(if v<0 then(v+(n:Int)).toNat else min v.toNat n)<=n
  by_cases hv:v<0
  ·rw[if_pos hv];omega
  ·rw[if_neg hv];exact Nat.min_le_right _ _
theorem qjI(v:Int)(n d:Nat):(if v<0 then max (v+(n:Int)) 0 else min v (n:Int))=((sIx n d (some v):Nat):Int):=by
 show(if v<0 then max (v+(n:Int)) 0 else min v (n:Int))=(((if v<0 then(v+(n:Int)).toNat else min v.toNat n):Nat):Int)
 by_cases hv:v<0
 ·simp only[if_pos hv];omega
 ·simp only[if_neg hv];omega
theorem qhX(lo hi:Option Int)(n:Nat):Builtin.Slice.sliceAdjust lo hi 1 (n:Int)=(((sIx n 0 lo:Nat):Int),((sIx n n hi:Nat):Int)):=by
 have h1:¬ ((1:Int)<0):=by omega
 unfold Builtin.Slice.sliceAdjust
 simp only[h1,if_false]
 refine Prod.ext ?_ ?_
 ·cases lo with
  | none=>rfl
  | some v=>exact qjI v n 0
 ·cases hi with
  | none=>rfl
  | some v=>exact qjI v n n
theorem qhz(i j:Nat):Builtin.Slice.slicePlaces (i:Int) (j:Int) 1=j-i:=by
 unfold Builtin.Slice.slicePlaces
 have h1:(1:Int)>0:=by omega
 simp only[h1,if_true,Int.ediv_one]
 split <;> omega
theorem qdY{v:Value}{o:Option Int}{Q:Option Int->Shared->Prop}(p:IsPart v o)(h:Q o s):wpAny (model prog w) A (Builtin.Slice.slicePartIndex v) Q E s:=by
 cases p with
 | none=>exact slicePart_none h
 | int i t=>exact slicePart_int h
theorem qaS{sl:Addr}{vl vu:Value}{lo hi:Option Int}{n:Nat}{Q:Int×Int×Nat->Shared->Prop}(hs:s.heap.IsSliceOf sl vl vu .none)(pl:IsPart vl lo)(pu:IsPart vu hi)
  (h:Q (((sIx n 0 lo:Nat):Int),1,sIx n n hi-sIx n 0 lo) s):wpAny (model prog w) A (Builtin.Slice.sliceApplied (.ref sl) (pure (n:Int))) Q E s:=by
 obtain⟨os,hos,hcs,hds⟩:=id hs
 unfold Builtin.Slice.sliceApplied Builtin.Slice.sliceFields
 refine zaa (zaa (zaI hos hds (x:=vl) rfl (zaa (zaI hos hds (x:=vu) rfl (zaa (zaI hos hds (x:=.none) rfl (zab ?_)))))))
 refine zaa (slicePart_none ?_)
 show wpAny _ _ (if((1:Int) == 0)=true then _ else _) _ _ s
 rw[if_neg (by decide)]
 refine zaa (qdY pl (zaa (qdY pu (zaa (zab ?_)))))
 show wpAny _ _ (match Builtin.Slice.sliceAdjust lo hi 1 (n:Int)with|(lo,hi)=>pure (lo,(1:Int),Builtin.Slice.slicePlaces lo hi 1)) _ _ s
 rw[qhX lo hi n]
 show wpAny _ _ (pure (((sIx n 0 lo:Nat):Int),(1:Int),Builtin.Slice.slicePlaces ((sIx n 0 lo:Nat):Int) ((sIx n n hi:Nat):Int) 1)) _ _ s
 rw[qhz]
 exact zab h
theorem qkA(xs:Array Value)(i k:Nat):((zav k).filterMap λ(m:Nat)=>xs[((i:Int)+(m:Int)*1).toNat]?).toArray=((xs.toList.drop i).take k).toArray:=by
 have e:(λ(m:Nat)=>xs[((i:Int)+(m:Int)*1).toNat]?)=λm=>xs[i+m]?:=by
  funext m
  have:((i:Int)+(m:Int)*1).toNat=i+m:=by omega
  rw[this]
 rw[e]
 have:=pick_run xs i k
 rw[List.filterMap_map]at this
 have e2:((λx=>xs[x]?) ∘ λx=>i+x)=λm=>xs[i+m]?:=rfl
 rw[e2]at this
 rw[this]
theorem qb2{t sl:Addr}{items:Array Value}{vl vu:Value}{lo hi:Option Int}{Q:Value->Shared->Prop}(ht:IsTup s.heap t items)(hs:s.heap.IsSliceOf sl vl vu .none)(pl:IsPart vl lo)(pu:IsPart vu hi)
  (hw:¬ (sIx items.size 0 lo=0/\sIx items.size items.size hi=items.size))
  (h:Q (.ref s.heap.objs.size) {s with heap:=s.heap.push {cls:=.type "tuple",data:=.seq ((items.toList.drop (sIx items.size 0 lo)).take (sIx items.size items.size hi-sIx items.size 0 lo)).toArray} })
  (hsz:items.size<=zaj):wpAny (model prog w) A (getItem (.ref t) (.ref sl)) Q E s:=by
 have htake:sizeOk (.seq ((items.toList.drop (sIx items.size 0 lo)).take (sIx items.size items.size hi-sIx items.size 0 lo)).toArray):=by
  show((items.toList.drop (sIx items.size 0 lo)).take (sIx items.size items.size hi-sIx items.size 0 lo)).toArray.size<=zaj
  rw[zau,zbM,List.length_drop,za7]
  omega
 have hj:sIx items.size items.size hi<=items.size:=qpq _ _ (zam _) hi
 obtain⟨os,hos,hcs,hds⟩:=id hs
 have hTs:s.TypeIs (.ref sl) "slice" := ⟨os,hos,hcs⟩
 unfold getItem
 try with_reducible refine zbb ?_
 first|refine zaa (zab ?_)|skip
 refine zaa (wpAny_sequenceKey ht.typeIs (by decide) ?_)
 refine zaa (zbk (name:=zaU "__getitem__") ht.typeIs zb9
  (za9 zb9 ht.typeIs entry_tuple_getitem ?_ (args_tuple_getitem _ _)))
 show wpAny _ _ (Builtin.Tuple.tupleItemsOf (.ref t) >>= _) _ _ s
 refine zaa (tupleItemsOf_ ht ?_)
 refine zaa (wpAny_typeOf hTs ?_)
 rw[if_pos (by decide)]
 refine zaa (qaS hs pl pu ?_)
 have hno:¬ ((((sIx items.size 0 lo:Nat):Int) == 0 && (1:Int) == 1 && (sIx items.size items.size hi-sIx items.size 0 lo) == items.size)=true):=by
  intro q
  rw[zaC,zaC]at q
  have q1:((sIx items.size 0 lo:Nat):Int)=0:=eq_of_beq q.1.1
  have q2:sIx items.size items.size hi-sIx items.size 0 lo=items.size:=eq_of_beq q.2
  exact hw ⟨by omega,by omega⟩
 show wpAny _ _ (if(((sIx items.size 0 lo:Nat):Int) == 0 && (1:Int) == 1 && (sIx items.size items.size hi-sIx items.size 0 lo) == items.size)=true then _ else _) _ _ s
 rw[if_neg hno,qkA]
 first
  | exact zaa (m:=Builtin.Tuple.tupleExact _) (zbc (zab ⟨_,rfl,zab h⟩) htake)
  | exact zaa (m:=Builtin.Tuple.tupleExact _) (zbc (zaa (zab (zab ⟨_,rfl,zab h⟩))) htake)
  | exact zaa (zaa (m:=Builtin.Tuple.tupleExact _) (zbc (zab (zab ⟨_,rfl,zab h⟩)) htake))
  | exact zaa (zaa (m:=Builtin.Tuple.tupleExact _) (zbc (zab ⟨_,rfl,zab h⟩) htake))
end
end HT
namespace L2
open PySem PySem.Spec PyProof.Rows
noncomputable abbrev TO:=St->Hp->(Option Int->Hp->Prop)->Prop
noncomputable def PO(X:Cx)(e:Option Expr)(t:TO):Prop:=
 ∀(pins:List (Addr×Obj)) (s:Shared) (σ:St) (H:Hp) (Q:Option Int->Hp->Prop),Inv X pins σ H s->t σ H Q->
  wpAny (model X.prog X.w) X.A (evalPart e X.env) (λu s'=>∃o H',Inv X pins σ H' s'/\IsPart u o/\Q o H') X.xe s
noncomputable def qnr:TO:=λ_ H Q=>Q none H
noncomputable def qqu(t:TE):TO:=λσ H Q=>t σ H λx H1=>∃i,x=.int i/\Q (some i) H1
theorem intsAre_of{ns:List Int}:∀ {us:List Value},Vals (ns.map V.int) us->zaW us ns:=by
 induction ns with
 | nil=>intro us r;rw[zbu]at r;cases r;exact .nil
 | cons n ns ih=>
  intro us r
  rw[zak]at r
  cases r with
  | cons r1 r2=>
   obtain⟨t,e⟩:=r1
   subst e
   exact .cons n t (ih r2)
section
variable {X:Cx}{e:Expr}{te:TE}{lo hi:Option Expr}{tl th:TO}{pos p2:Pos}
theorem qm8:PO X none qnr:=by
 intro pins s σ H Q I h
 rw[evalPart_none]
 exact zab ⟨none,H,I,.none,h⟩
theorem qnj(h:PE X e te):PO X (some e) (qqu te):=by
 intro pins s σ H Q I hw
 rw[evalPart_some]
 refine thn (h pins s σ H _ I hw) λu s1 ⟨x,H1,I1,r1,q1⟩=>?_
 obtain⟨i,rfl,q⟩:=q1
 obtain⟨t,rfl⟩:=r1
 exact⟨some i,H1,I1,.int i t,q⟩
noncomputable def SlR(X:Cx)(r:V->Option Int->Option Int->Hp->VK->Prop):Prop:=
 ∀(pins:List (Addr×Obj)) (s:Shared) (σ:St) (H:Hp) (x:V) (v vl vu:Value) (lo hi:Option Int) (sl:Addr) (Q:VK),Inv X pins σ H s->RelV x v->s.heap.IsSliceOf sl vl vu .none->IsPart vl lo->IsPart vu hi->r x lo hi H Q->
  ∃T id,typeLookup (.type T) "__getitem__" = pure (some (.builtin id))/\s.TypeIs v T/\wpAny (model X.prog X.w) X.A (getItem v (.ref sl)) (EP X pins σ Q) X.xe s
theorem SlR.or{r r':V->Option Int->Option Int->Hp->VK->Prop}(h:SlR X r)(h':SlR X r'):SlR X (λx lo hi H Q=>r x lo hi H Q\/r' x lo hi H Q):=by
 intro pins s σ H x v vl vu lo hi sl Q I rx hs pl pu q
 rcases q with q|q
 ·exact h pins s σ H x v vl vu lo hi sl Q I rx hs pl pu q
 ·exact h' pins s σ H x v vl vu lo hi sl Q I rx hs pl pu q
noncomputable def tSl(r:V->Option Int->Option Int->Hp->VK->Prop)(te:TE)(tl th:TO):TE:=λσ H Q=>te σ H λx H1=>tl σ H1 λl H2=>th σ H2 λu H3=>r x l u H3 Q
theorem qkp{r:V->Option Int->Option Int->Hp->VK->Prop}(hr:SlR X r)(he:PE X e te)(hl:PO X lo tl)(hu:PO X hi th):PE X (.Subscript e (.Slice lo hi none p2) pos) (tSl r te tl th):=by
 intro pins s σ H Q I h
 refine Subscript_ (thn (he pins s σ H _ I h) λv s1 ⟨x,H1,I1,r1,q1⟩=>?_)
 refine wpAny_Slice (thn (hl pins s1 σ H1 _ I1 q1) λvl s2 ⟨l,H2,I2,pl,q2⟩=>thn (hu pins s2 σ H2 _ I2 q2) λvu s3 ⟨u,H3,I3,pu,q3⟩=>?_)
 rw[evalPart_none]
 refine zab ?_
 have I4:Inv X pins σ H3 {s3 with heap:=s3.heap.push {cls:=.type "slice",data:=.fields #[vl,vu,.none]} }:=I3.kept (t':=s3.toks) λb ob q=>zag _ q
 obtain⟨T,id,hT,ht,hg⟩:=hr pins {s3 with heap:=s3.heap.push {cls:=.type "slice",data:=.fields #[vl,vu,.none]} } σ H3 x v vl vu l u s3.heap.objs.size Q I4 r1 (Heap.IsSliceOf.new ..) pl pu q3
 show wpAny (model X.prog X.w) X.A (subscriptTail e (.Slice lo hi none p2) v (.ref s3.heap.objs.size)) (EP X pins σ Q) X.xe {s3 with heap:=s3.heap.push {cls:=.type "slice",data:=.fields #[vl,vu,.none]} }
 exact tail_any (ops:=[.ref s3.heap.objs.size,v]) ht hT hg (by with_unfolding_all rfl)
noncomputable def cutV(xs:List V)(lo hi:Option Int):List V:=(xs.drop (HT.sIx xs.length 0 lo)).take (HT.sIx xs.length xs.length hi-HT.sIx xs.length 0 lo)
theorem qcH(xs:List V)(lo hi:Option Int):(cutV xs lo hi).length<=xs.length:=by
 unfold cutV
 rw[zbM,List.length_drop]
 omega
noncomputable def rSlT(K:zae):V->Option Int->Option Int->Hp->VK->Prop:=λx lo hi H Q=>∃a xs,x=.ref a/\SqT K H a xs /\
 ¬ (HT.sIx xs.length 0 lo=0/\HT.sIx xs.length xs.length hi=xs.length)/\∀p,H p=none->Q (.ref p) (upd H p (.tup (cutV xs lo hi)))
theorem qoH:SlR X (rSlT X.K):=by
 intro pins s σ H x v vl vu lo hi sl Q I rx hs pl pu h
 obtain⟨a,xs,rfl,hx,hw,q⟩:=h
 cases rx
 obtain⟨its,r,ht,hz⟩:=I.tuple hx
 have hlen:its.toArray.size=xs.length:=by rw[zau];exact r.length.symm
 refine⟨"tuple",_,PyProof.Rows.slot_tuple_getitem.lookup,ht.typeIs,?_⟩
 refine HT.qb2 ht hs pl pu (by rw[hlen];exact hw) ?_ (by rw[hlen];exact hz)
 rw[hlen]
 refine⟨.ref s.heap.objs.size,_,I.laid (t':=s.toks) (o:=.tup (cutV xs lo hi)) (λb ob q=>zag _ q) (zam _) ?_,rfl,q _ (I.hok.fresh (zam _))⟩
 exact⟨zaY (qcH xs lo hi) hz,_,(r.drop (HT.sIx xs.length 0 lo)).take (HT.sIx xs.length xs.length hi-HT.sIx xs.length 0 lo),IsTupN.new _ _⟩
noncomputable def rLtT(K:zae):R2:=λx y H Q=>∃a b ns ms,x=.ref a/\y=.ref b/\SqT K H a (ns.map V.int)/\SqT K H b (ms.map V.int)/\Q (.bl (HT.lexLt ns ms)) H
theorem qoO(hu:X.A.units<cLine):OpR X (zap .Lt) (rLtT X.K):=by
 intro pins s σ H x y v u Q I rx ry h
 obtain⟨a,b,ns,ms,rfl,rfl,ha,hb,q⟩:=h
 cases rx
 cases ry
 obtain⟨its,r1,p1,_⟩:=I.tuple ha
 obtain⟨its2,r2,p2,_⟩:=I.tuple hb
 have i1:zaW its.toArray.toList ns:=intsAre_of r1
 have i2:zaW its2.toArray.toList ms:=intsAre_of r2
 exact HT.qdC p1 p2 i1 i2 hu ⟨.bl (HT.lexLt ns ms),H,I,rfl,q⟩
noncomputable def qqr(K:zae):R2:=λx y H Q=>∃a b xs ys,x=.ref a/\y=.ref b/\SqT K H a xs/\SqT K H b ys/\xs≠[]/\xs.length+ys.length<=zaj /\
 (ys=[]->Q (.ref a) H)/\(ys≠[]->∀p,H p=none->Q (.ref p) (upd H p (.tup (xs++ys))))
theorem Vals.nil_iff{xs:List V}{us:List Value}(r:Vals xs us):us=[]↔xs=[]:=by
 cases r with
 | nil=>simp
 | cons _ _=>simp
theorem qmm:OpR X (zaN .Add) (qqr X.K):=by
 intro pins s σ H x y v u Q I rx ry h
 obtain⟨a,b,xs,ys,rfl,rfl,ha,hb,hx,hz,q1,q2⟩:=h
 cases rx
 cases ry
 obtain⟨its,r1,p1,_⟩:=I.tuple ha
 obtain⟨its2,r2,p2,_⟩:=I.tuple hb
 refine HT.qm2 p1 p2 (λz=>hx (r1.nil_iff.mp z)) (λz=>⟨.ref a,H,I,rfl,q1 (r2.nil_iff.mp z)⟩) (λz=>?_) (by rw[<- r1.length,<- r2.length];exact hz)
 refine⟨.ref s.heap.objs.size,_,I.laid (t':=s.toks) (o:=.tup (xs++ys)) (λb ob q=>zag _ q) (zam _) ?_,rfl,q2 (λw=>z (r2.nil_iff.mpr w)) _ (I.hok.fresh (zam _))⟩
 exact⟨by rw[za8];exact hz,_,r1.append r2,IsTupN.new _ _⟩
end
noncomputable def ixN(n:Nat)(i:Int):Option Nat:=if 0<=i then(if i<n then some i.toNat else none)else if -(n:Int)<=i then some (i+n).toNat else none
noncomputable def atI{α:Type}(xs:List α)(i:Int):Option α:=(ixN xs.length i).bind λj=>xs[j]?
theorem qjn{n:Nat}{i:Int}{j:Nat}(h:ixN n i=some j):seqIndex? i n=some j/\j<n/\-(n:Int)<=i/\i<n:=by
 unfold ixN at h
 by_cases h0:0<=i
 ·rw[if_pos h0]at h
  by_cases h1:i<n
  ·rw[if_pos h1]at h
   have e:i.toNat=j:=zaA h
   exact⟨by rw[seqIndex_of h0 h1,e],by omega,by omega,h1⟩
  ·rw[if_neg h1]at h;cases h
 ·rw[if_neg h0]at h
  by_cases h1:-(n:Int)<=i
  ·rw[if_pos h1]at h
   have e:(i+n).toNat=j:=zaA h
   exact⟨by rw[seqIndex_neg (by omega) h1,e],by omega,h1,by omega⟩
  ·rw[if_neg h1]at h;cases h
theorem qgc{α:Type}{xs:List α}{i:Int}{v:α}(h:atI xs i=some v):∃j,seqIndex? i xs.length=some j/\xs[j]?=some v/\j<xs.length/\-(xs.length:Int)<=i/\i<xs.length:=by
 unfold atI at h
 cases e:ixN xs.length i with
 | none=>rw[e]at h;cases h
 | some j=>
  rw[e]at h
  obtain⟨h1,h2,h3,h4⟩:=qjn e
  exact⟨j,h1,h,h2,h3,h4⟩
theorem qaf{α:Type}{xs:List α}{j:Nat}{v:α}(h:xs[j]?=some v):atI xs (j:Int)=some v:=by
 have hj:j<xs.length:=(List.getElem?_eq_some_iff.mp h).1
 have e:ixN xs.length (j:Int)=some j:=by
  unfold ixN
  rw[if_pos (by omega),if_pos (by omega)];simp
 unfold atI;rw[e];exact h
noncomputable def qf6(b:Expr):Prop:=∀o i,subscripted b false o i=operate [o,i] (getItem o i)
noncomputable def IxR(X:Cx)(r:R2):Prop:=
 ∀(value slice:Expr) (pins:List (Addr×Obj)) (s:Shared) (σ:St) (H:Hp) (x y:V) (v u:Value) (Q:VK),Inv X pins σ H s->RelV x v->RelV y u->r x y H Q->
  subscripted slice false v u=operate [v,u] (getItem v u)->wpAny (model X.prog X.w) X.A (subscriptTail value slice v u) (EP X pins σ Q) X.xe s
noncomputable def MtR(X:Cx)(id:String)(r:V->List V->Hp->VK->Prop):Prop:=
 ∀(pins:List (Addr×Obj)) (s:Shared) (σ:St) (H:Hp) (x:V) (xs:List V) (v:Value) (us:List Value) (Q:VK),Inv X pins σ H s->RelV x v->Vals xs us->r x xs H Q->
  wpAny (model X.prog X.w) X.A (call (.builtin id) (v::us)) (EP X pins σ Q) X.xe s
section
variable {X:Cx}{a b:Expr}{ta tb:TE}{pos:Pos}
theorem IxR.or{r r':R2}(h:IxR X r)(h':IxR X r'):IxR X (λx y H Q=>r x y H Q\/r' x y H Q):=by
 intro value slice pins s σ H x y v u Q I rx ry q hs
 rcases q with q|q
 ·exact h value slice pins s σ H x y v u Q I rx ry q hs
 ·exact h' value slice pins s σ H x y v u Q I rx ry q hs
theorem MtR.or{id:String}{r r':V->List V->Hp->VK->Prop}(h:MtR X id r)(h':MtR X id r'):MtR X id (λx xs H Q=>r x xs H Q\/r' x xs H Q):=by
 intro pins s σ H x xs v us Q I rx rs q
 rcases q with q|q
 ·exact h pins s σ H x xs v us Q I rx rs q
 ·exact h' pins s σ H x xs v us Q I rx rs q
theorem qq4{r:R2}(hr:IxR X r)(ha:PE X a ta)(hb:PE X b tb)(hs:qf6 b):PE X (.Subscript a b pos) (tOp r ta tb):=by
 intro pins s σ H Q I h
 exact Subscript_ (binT ha hb I h λv u s2 x y H2 I2 rx ry q=>hr a b pins s2 σ H2 x y v u Q I2 rx ry q (hs _ _))
noncomputable def rIxL(K:zae):R2:=λx y H Q=>∃p xs i v,x=.ref p/\y=.int i/\SqL K H p xs/\atI xs i=some v/\Q v H
noncomputable def rIxT(K:zae):R2:=λx y H Q=>∃p xs i v,x=.ref p/\y=.int i/\SqT K H p xs/\atI xs i=some v/\Q v H
noncomputable def rIxS:R2:=λx y H Q=>∃z i c,x=.str z/\y=.int i/\z.length<=zaj/\atI z.cps.toList i=some c/\Q (.str ⟨#[c]⟩) H
theorem qmD:IxR X (rIxL X.K):=by
 intro value slice pins s σ H x y v u Q I rx ry h hs
 obtain⟨p,xs,i,z,rfl,rfl,hq,he,q⟩:=h
 cases rx
 obtain⟨t,rfl⟩:=ry
 obtain⟨its,r,pl,hz⟩:=I.list hq
 obtain⟨j,h1,h2,h3,h4,h5⟩:=qgc he
 obtain⟨w,ew,rw'⟩:=r.get h2
 have hl:=r.length
 have hn:=qfz
 have fin:EP X pins σ Q w s:=⟨z,H,I,rw',q⟩
 by_cases h0:0<=i
 ·have hj:i.toNat=j:=by
   rw[seqIndex_of h0 h5]at h1
   exact zaA h1
  exact item_listR pl.isList h0 (by omega) (by rw[hj];simpa using ew) fin hs
 ·have hj:(i+(its.toArray.size:Int)).toNat=j:=by
   rw[seqIndex_neg (by omega) h4]at h1
   rw[zau,<- hl]
   exact zaA h1
  exact subscriptTail_builtinR (x:=w) pl.isList.typeIs slot_list_getitem.lookup
   (wpAny_getItem_list_neg (Q:=λr s'=>r=w/\EP X pins σ Q r s') pl.isList (by omega) (by rw[zau] <;> omega) (by omega) (by rw[hj];simpa using ew) ⟨rfl,fin⟩) hs
theorem qp9:IxR X (rIxT X.K):=by
 intro value slice pins s σ H x y v u Q I rx ry h hs
 obtain⟨p,xs,i,z,rfl,rfl,hq,he,q⟩:=h
 cases rx
 obtain⟨t,rfl⟩:=ry
 obtain⟨its,r,pl,hz⟩:=I.tuple hq
 obtain⟨j,h1,h2,h3,h4,h5⟩:=qgc he
 obtain⟨w,ew,rw'⟩:=r.get h2
 have hl:=r.length
 have hn:=qfz
 have fin:EP X pins σ Q w s:=⟨z,H,I,rw',q⟩
 exact subscriptTail_builtinR (x:=w) pl.typeIs slot_tuple_getitem.lookup
  (getItem_tuple (j:=j) (Q:=λr s'=>r=w/\EP X pins σ Q r s') pl (by omega) (by omega) (by rw[zau,<- hl];exact h1) (by simpa using ew) ⟨rfl,fin⟩) hs
theorem qoV:IxR X rIxS:=by
 intro value slice pins s σ H x y v u Q I rx ry h hs
 obtain⟨z,i,c,rfl,rfl,hz,he,q⟩:=h
 obtain⟨t,rfl⟩:=rx
 obtain⟨t',rfl⟩:=ry
 obtain⟨j,h1,h2,h3,h4,h5⟩:=qgc he
 have hl:z.cps.toList.length=z.length:=by simp[Str.length]
 rw[hl]at h1 h4 h5
 have hn:=qfz
 exact tail_any (typeIs_str s z t) slot_str_getitem.lookup (getItem_str (c:=c) (by
  have e1:decide (i < -(2^63:Int))=false:=decide_eq_false (by omega)
  have e2:decide (i ≥ 2^63)=false:=decide_eq_false (by omega)
  rw[e1,e2,Bool.or_false]) (by rw[h1];simpa using h2) ⟨.str ⟨#[c]⟩,H,I.tok _,⟨_,rfl⟩,q⟩) hs
noncomputable def rIx(K:zae):R2:=λx y H Q=>rIxL K x y H Q\/rIxT K x y H Q\/rIxS x y H Q
theorem qpJ:IxR X (rIx X.K):=qmD.or (qp9.or qoV)
theorem qhy(its:List Value)(n j:Nat)(u:Value):zba (·.setIfInBounds j u) {cls:=.type "list",data:=.seq its.toArray n}={cls:=.type "list",data:=.seq (its.set j u).toArray n}:=by
 simp[zba]
theorem Inv.lst{pins:List (Addr×Obj)}{σ:St}{H:Hp}{s:Shared}{p:Addr}{xs:List V}(I:Inv X pins σ H s)(h:H p=some (.lst xs)) :
  ∃(its:List Value) (n:Nat),Vals xs its/\s.heap.get? p=some {cls:=.type "list",data:=.seq its.toArray n}/\xs.length<=zaj:=by
 obtain⟨z,its,n,r,e⟩:=I.hok p _ h
 exact⟨its,n,r,e,z⟩
theorem Inv.lstUpd{pins:List (Addr×Obj)}{σ:St}{H:Hp}{s:Shared}{p:Addr}{xs ys:List V}{its its':List Value}{n n':Nat}{f:Obj->Obj}(I:Inv X pins σ H s)(h:H p=some (.lst xs))
  (ho:s.heap.get? p=some {cls:=.type "list",data:=.seq its.toArray n}) (hf:f {cls:=.type "list",data:=.seq its.toArray n}={cls:=.type "list",data:=.seq its'.toArray n'}) (r:Vals ys its') (hz:ys.length<=zaj) (t:Nat) :
  Inv X pins σ (upd H p (.lst ys)) {s with heap:=s.heap.update p f,toks:=t}:=by
 have e:(s.heap.update p f).get? p=some {cls:=.type "list",data:=.seq its'.toArray n'}:=by
  rw[zbv f ho (by rw[hf] <;> rfl),hf]
 refine I.write (x:=p) (e:=p) (by rw[h];trivial) (.inl rfl) (λb u hb q=>(zbl _ _ (zaJ hb)).trans q) ⟨_,e⟩ ?_
 exact⟨hz,its',n',r,e⟩
noncomputable def qqR:V->V->V->Hp->(Hp->Prop)->Prop:=λo i v H Q=>∃p xs k j,o=.ref p/\i=.int k/\H p=some (.lst xs)/\ixN xs.length k=some j/\Q (upd H p (.lst (xs.set j v)))
theorem set_list:PSet X qqR:=by
 intro pins s σ H o i v ov iv u Q I ro ri rv h
 obtain⟨p,xs,k,j,rfl,rfl,hp,hj,q⟩:=h
 cases ro
 obtain⟨t,rfl⟩:=ri
 obtain⟨its,n,r,ho,hz⟩:=I.lst hp
 obtain⟨h1,h2,h3,h4⟩:=qjn hj
 have hl:=r.length
 have hn:=qfz
 have I':Inv X pins σ (upd H p (.lst (xs.set j v))) {s with heap:=s.heap.update p (zba (·.setIfInBounds j u))}:=
  I.lstUpd hp ho (qhy its n j u) (r.set rv j) (by rw[List.length_set];exact hz) s.toks
 by_cases h0:0<=k
 ·have hk:k.toNat=j:=by
   rw[seqIndex_of h0 h4]at h1
   exact zaA h1
  exact PySem.W.ki_setAt ho h0 (by omega) (by rw[zau,<- hl];exact h4) (by rw[hk];exact⟨_,I',q⟩)
 ·have hk:(k+(its.toArray.size:Int)).toNat=j:=by
   rw[seqIndex_neg (by omega) h3]at h1
   rw[zau,<- hl]
   exact zaA h1
  exact PySem.W.ki_setBack ho (by omega) (by rw[zau,<- hl];exact h3) (by omega) (by rw[hk];exact⟨_,I',q⟩)
theorem qfd(lo hi:Option Int)(n:Nat):(zbw lo hi none n).1=((HT.sIx n 0 lo:Nat):Int)/\(zbw lo hi none n).2.1=((HT.sIx n n hi:Nat):Int)/\(zbw lo hi none n).2.2=1:=by
 refine⟨?_,?_,rfl⟩
 ·cases lo with
  | none=>simp[zbw,HT.sIx]
  | some i=>
   simp only[zbw,HT.sIx,Option.getD_none,show(1:Int)>0 by decide,if_true]
   by_cases h:i<0
   ·simp only[h,if_true] <;> omega
   ·simp only[h,if_false] <;> omega
 ·cases hi with
  | none=>simp[zbw,HT.sIx]
  | some i=>
   simp only[zbw,HT.sIx,Option.getD_none,show(1:Int)>0 by decide,if_true]
   by_cases h:i<0
   ·simp only[h,if_true] <;> omega
   ·simp only[h,if_false] <;> omega
theorem qea(its:List Value)(lo hi:Option Int):slicePick its.toArray lo hi none=((its.drop (HT.sIx its.length 0 lo)).take (HT.sIx its.length its.length hi-HT.sIx its.length 0 lo)).toArray:=by
 obtain⟨h1,h2,h3⟩:=qfd lo hi its.toArray.size
 unfold slicePick
 rw[h1,h2,h3]
 simp only[sliceRange_one,pick_run,zau] <;> rfl
noncomputable def rSlL(K:zae):V->Option Int->Option Int->Hp->VK->Prop:=λx lo hi H Q=>∃a xs,x=.ref a/\SqL K H a xs/\∀p,H p=none->Q (.ref p) (upd H p (.lst (cutV xs lo hi)))
theorem qmK:SlR X (rSlL X.K):=by
 intro pins s σ H x v vl vu lo hi sl Q I rx hs pl pu h
 obtain⟨a,xs,rfl,hx,q⟩:=h
 cases rx
 obtain⟨its,r,ht,hz⟩:=I.list hx
 have hlen:=r.length
 refine⟨"list",_,slot_list_getitem.lookup,ht.isList.typeIs,?_⟩
 refine wpAny_getItem_list_slice ht.isList hs pl pu .none (by simp) ?_ (by rw[zau] <;> omega)
 rw[qea,<- hlen]
 refine⟨.ref s.heap.objs.size,_,I.laid (t':=s.toks) (o:=.lst (cutV xs lo hi)) (λb ob q=>zag _ q) (zam _) ?_,rfl,q _ (I.hok.fresh (zam _))⟩
 exact⟨zaY (qcH xs lo hi) hz,_,0,(r.drop (HT.sIx xs.length 0 lo)).take (HT.sIx xs.length xs.length hi-HT.sIx xs.length 0 lo),zat _ rfl⟩
noncomputable def qes:V->Bool
 | .non=>true
 | .bl _=>true
 | .int _=>true
 | .str _=>true
 | _=>false
noncomputable def eqV:V->V->Bool
 | .non,.non=>true
 | .bl a,.bl b=>a == b
 | .bl a,.int b=>(if a then 1 else 0) == b
 | .int a,.bl b=>a == (if b then 1 else 0)
 | .int a,.int b=>a == b
 | .str a,.str b=>a == b
 | _,_=>false
theorem qph{A:Around}{s:Shared}{y x:V}{u v:Value}(ry:RelV y u)(rx:RelV x v)(fy:qes y=true)(fx:qes x=true):SeqAt.EqAt A s u v (eqV y x):=by
 cases y with
 | non=>
  cases ry
  cases x with
  | non=>cases rx;exact SeqAt.EqAt.same _
  | bl b=>cases rx;exact SeqAt.EqAt.none_bool b
  | int b=>obtain⟨t,rfl⟩:=rx;exact SeqAt.EqAt.none_int b t
  | str b=>obtain⟨t,rfl⟩:=rx;exact SeqAt.EqAt.none_str b t
  | _=>exact absurd (show false=true from fx) zaq
 | bl a=>
  cases ry
  cases x with
  | non=>cases rx;exact SeqAt.EqAt.bool_none a
  | bl b=>cases rx;exact SeqAt.EqAt.bool_bool a b
  | int b=>obtain⟨t,rfl⟩:=rx;exact SeqAt.EqAt.bool_int a b t
  | str b=>obtain⟨t,rfl⟩:=rx;exact SeqAt.EqAt.bool_str a b t
  | _=>exact absurd (show false=true from fx) zaq
 | int a=>
  obtain⟨t',rfl⟩:=ry
  cases x with
  | non=>cases rx;exact SeqAt.EqAt.int_none a t'
  | bl b=>cases rx;exact SeqAt.EqAt.int_bool a t' b
  | int b=>obtain⟨t,rfl⟩:=rx;exact SeqAt.EqAt.int_int a t' b t
  | str b=>obtain⟨t,rfl⟩:=rx;exact SeqAt.EqAt.int_str a t' b t
  | _=>exact absurd (show false=true from fx) zaq
 | str a=>
  obtain⟨t',rfl⟩:=ry
  cases x with
  | non=>cases rx;exact SeqAt.EqAt.str_none a t'
  | bl b=>cases rx;exact SeqAt.EqAt.str_bool a t' b
  | int b=>obtain⟨t,rfl⟩:=rx;exact SeqAt.EqAt.str_int a t' b t
  | str b=>obtain⟨t,rfl⟩:=rx;exact SeqAt.EqAt.str_str a t' b t
  | _=>exact absurd (show false=true from fx) zaq
 | _=>exact absurd (show false=true from fy) zaq
noncomputable def eqU(x:V)(u:Value):Bool:=match u with
 | .none=>eqV .non x
 | .bool b=>eqV (.bl b) x
 | .int i _=>eqV (.int i) x
 | .str z _=>eqV (.str z) x
 | _=>false
theorem ql4{x y:V}{u:Value}(r:RelV y u)(f:qes y=true):eqU x u=eqV y x:=by
 cases y with
 | non=>cases r;rfl
 | bl b=>cases r;rfl
 | int i=>obtain⟨t,rfl⟩:=r;rfl
 | str z=>obtain⟨t,rfl⟩:=r;rfl
 | _=>exact absurd (show false=true from f) zaq
theorem qfN{x:V}:∀ {xs:List V} {us:List Value},Vals xs us->xs.all qes=true->us.any (eqU x)=xs.any λy=>eqV y x
 | _,_,.nil,_=>rfl
 | y::xs,u::us,.cons r t,f=>by
  rw[List.all_cons,zaC]at f
  rw[zbe,zbe,ql4 r f.1,qfN t f.2]
theorem qeA{A:Around}{s:Shared}{x:V}{v:Value}(rx:RelV x v)(fx:qes x=true):∀ {xs:List V} {us:List Value},Vals xs us->xs.all qes=true->∀u∈us,SeqAt.EqAt A s u v (eqU x u)
 | _,_,.nil,_=>λu hu=>by cases hu
 | y::xs,u::us,.cons r t,f=>λu' hu=>by
  rw[List.all_cons,zaC]at f
  rcases List.mem_cons.mp hu with rfl|hu
  ·rw[ql4 r f.1];exact qph r rx f.1 fx
  ·exact qeA rx fx t f.2 u' hu
noncomputable def inV(x:V)(xs:List V):Bool:=xs.any λy=>eqV y x
noncomputable def rIn(K:zae)(neg:Bool):R2:=λx y H Q=>∃p xs,y=.ref p/\(SqL K H p xs\/SqT K H p xs)/\qes x=true/\xs.all qes=true/\Q (.bl (if neg then !inV x xs else inV x xs)) H
theorem qi7:OpR X (zap .In) (rIn X.K false):=by
 intro pins s σ H x y v u Q I rx ry h
 obtain⟨p,xs,rfl,hq,fx,fs,q⟩:=h
 cases ry
 rcases hq with hq|hq
 ·obtain⟨its,r,pl,hz⟩:=I.list hq
  refine SeqAt.in_listAt (eqU x) pl.isList (λw hw=>qeA rx fx r fs w (by simpa using hw)) ⟨.bl _,H,I,rfl,?_⟩
  rw[show its.toArray.any (eqU x)=its.any (eqU x) by simp,qfN r fs]
  exact q
 ·obtain⟨its,r,pl,hz⟩:=I.tuple hq
  refine SeqAt.in_tupleAt (eqU x) pl (λw hw=>qeA rx fx r fs w (by simpa using hw)) ⟨.bl _,H,I,rfl,?_⟩
  rw[show its.toArray.any (eqU x)=its.any (eqU x) by simp,qfN r fs]
  exact q
theorem qfD:OpR X (zap .NotIn) (λx y H Q=>∃i j,x=.str i/\y=.str j/\Q (.bl (!(!(Builtin.Str.occurrences j i 0 j.length 1).isEmpty))) H):=by
 intro pins s σ H x y v u Q I rx ry h
 obtain⟨i,j,rfl,rfl,q⟩:=h
 obtain⟨t,rfl⟩:=rx
 obtain⟨t',rfl⟩:=ry
 exact notIn_str ⟨.bl _,H,I,rfl,q⟩
theorem CallR.or{f:Value}{r r':List V->Hp->VK->Prop}(h:CallR X f r)(h':CallR X f r'):CallR X f (λxs H Q=>r xs H Q\/r' xs H Q):=by
 intro pins s σ H xs us Q I rs q
 rcases q with q|q
 ·exact h pins s σ H xs us Q I rs q
 ·exact h' pins s σ H xs us Q I rs q
theorem qfm:CallR X (.type "list") (λxs H Q=>∃p ys,xs=[.ref p]/\(SqL X.K H p ys\/SqT X.K H p ys)/\∀l,H l=none->Q (.ref l) (upd H l (.lst ys))):=by
 intro pins s σ H xs us Q I r h
 obtain⟨p,ys,rfl,hq,q⟩:=h
 obtain⟨u,rfl,rx⟩:=vals1 r
 cases rx
 have fin:∀(its:List Value),Vals ys its->ys.length<=zaj->∀(h':Heap) (c':Nat),(∀b o',s.heap.get? b=some o'->h'.get? b=some o')->
   h'.get? s.heap.objs.size=some {cls:=.type "list",dict:=none,data:=.seq its.toArray c',slots:=#[]}->EP X pins σ Q (.ref s.heap.objs.size) {s with heap:=h'}:=λits r' hz h' c' kp e=>
  ⟨.ref s.heap.objs.size,_,I.laid (t':=s.toks) kp (zam _) (show ObjOk X.prog X.w _ h' _ (.lst ys)from⟨hz,its,c',r',e⟩),rfl,q _ (I.hok.fresh (zam _))⟩
 rcases hq with hq|hq
 ·obtain⟨its,r',pl,hz⟩:=I.list hq
  have hlen:=r'.length
  obtain⟨o,ho,hc,n,hd⟩:=pl.isList
  exact call_list_seq p (.inl rfl) ho hc hd (λh' c' kp e=>fin its r' hz h' c' kp e) (by simp only[zau] <;> omega)
 ·obtain⟨its,r',pl,hz⟩:=I.tuple hq
  have hlen:=r'.length
  obtain⟨o,ho,hc,n,hd⟩:=pl
  exact call_list_seq p (.inr rfl) ho hc hd (λh' c' kp e=>fin its r' hz h' c' kp e) (by simp only[zau] <;> omega)
theorem qeu:CallR X (.type "tuple") (λxs H Q=>∃p ys,xs=[.ref p]/\((SqL X.K H p ys/\∀l,H l=none->Q (.ref l) (upd H l (.tup ys)))\/(SqT X.K H p ys/\Q (.ref p) H))):=by
 intro pins s σ H xs us Q I r h
 obtain⟨p,ys,rfl,h⟩:=h
 obtain⟨u,rfl,rx⟩:=vals1 r
 cases rx
 rcases h with⟨hq,q⟩|⟨hq,q⟩
 ·obtain⟨its,r',pl,hz⟩:=I.list hq
  have hlen:=r'.length
  refine call_tuple_list pl.isList (λh' kp=>?_) (by simp only[zau] <;> omega)
  have I1:Inv X pins σ H {s with heap:=h'}:=I.kept (t':=s.toks) kp
  have I2:Inv X pins σ (upd H h'.objs.size (.tup ys)) {s with heap:=h'.push {cls:=.type "tuple",data:=.seq its.toArray} }:=
   I1.laid (t':=s.toks) (λb o e=>zag _ e) (zam _) (show ObjOk X.prog X.w _ _ _ (.tup ys)from⟨hz,its,r',IsTupN.new _ _⟩)
  exact⟨.ref h'.objs.size,_,I2,rfl,q _ (I1.hok.fresh (zam _))⟩
 ·obtain⟨its,r',pl,hz⟩:=I.tuple hq
  exact call_tuple_same pl ⟨.ref p,H,I,rfl,q⟩
noncomputable def tyV(K:zae)(T:String)(x:V)(H:Hp):Prop:=match x with
 | .str _=>T = "str"
 | .int _=>T = "int"
 | .ref p=>(T = "list" /\ ∃xs,SqL K H p xs)\/(T = "tuple" /\ ∃o,K.lookup p=some o/\o.cls=.type "tuple" /\ o.dict=none) \/
   (T = "dict" /\ ((∃kvs,H p=some (.dK kvs))\/∃kvs,H p=some (.dT kvs)))\/(T = "set" /\ ∃S n,H p=some (.set S n))
 | _=>False
theorem qpB{pins:List (Addr×Obj)}{σ:St}{H:Hp}{s:Shared}{T:String}{x:V}{v:Value}(I:Inv X pins σ H s)(r:RelV x v)(ty:tyV X.K T x H) :
  s.TypeIs v T/\∀a,v=.ref a->∃ob,s.heap.get? a=some ob/\ob.dict=none:=by
 cases x with
 | str z=>
  obtain⟨t,rfl⟩:=r
  cases(show T = "str" from ty)
  exact⟨typeIs_str s z t,λ_ e=>nomatch e⟩
 | int i=>
  obtain⟨t,rfl⟩:=r
  cases(show T = "int" from ty)
  exact⟨typeIs_int s i t,λ_ e=>nomatch e⟩
 | ref p=>
  cases r
  rcases ty with⟨rfl,xs,hq⟩|⟨rfl,o,hk,hc,hd⟩|⟨rfl,hk⟩|⟨rfl,S,n,hk⟩
  ·obtain⟨its,_,pl,_⟩:=I.list hq
   refine⟨pl.isList.typeIs,λa e=>?_⟩
   cases e
   obtain⟨o,n,e,c,hd,_⟩:=pl
   exact⟨o,e,hd⟩
  ·refine⟨⟨o,I.kIn p o hk,hc⟩,λa e=>?_⟩
   cases e
   exact⟨o,I.kIn _ o hk,hd⟩
  ·have z:∃o,s.heap.get? p=some o/\o.ExactDict:=by
    rcases hk with⟨kvs,hk⟩|⟨kvs,hk⟩
    ·obtain⟨_,_,_,_,o,_,_,e,ex,_⟩:=I.hok p _ hk
     exact⟨o,e,ex⟩
    ·obtain⟨_,_,_,_,o,_,_,e,ex,_⟩:=I.hok p _ hk
     exact⟨o,e,ex⟩
   obtain⟨o,e,ex⟩:=z
   refine⟨⟨o,e,ex.1⟩,λa e2=>?_⟩
   cases e2
   exact⟨o,e,ex.2.1⟩
  ·obtain⟨o,_,_,_,e,ex,_⟩:=I.hok p _ hk
   refine⟨⟨o,e,ex.1⟩,λa e2=>?_⟩
   cases e2
   exact⟨o,e,ex.2.1⟩
 | _=>exact zbh ty
noncomputable def tBM(K:zae)(T:String)(r:V->List V->Hp->VK->Prop)(to:TE)(t:TA):TE:=λσ H Q=>to σ H λx H1=>tyV K T x H1/\t σ H1 λxs H2=>r x xs H2 Q
variable {o e:Expr}{es:List Expr}{to:TE}{t:TA}{name:Str}{apos cpos:Pos}{T id:String}{r:V->List V->Hp->VK->Prop}
theorem qot(pa:PlainAttrs T)(slot:Slot T name id)(hty:typeOf (.builtin id)=pure (.type "method_descriptor"))(hm:MtR X id r)(ho:PE X o to)(ha:PA X (e::es) t)
  (hbase:attributeBase o name X.env (eval o X.env)=eval o X.env:=by rfl)
  (hfew:((backTo cpos (zaf (e::es) X.env)).all (λx => !x.1) && (backToKw cpos (keywordEach [] X.env)).all (λx => x.1.isSome)
   && decide ((e::es).length+([]:List Keyword).length+(if([]:List Keyword).isEmpty then 0 else 1)<30))=true:=by rfl)
  (hline:(apos.endLine == cpos.line)=true:=by rfl) (hs:zaf (e::es) X.env=(false,eval e X.env)::zaf es X.env:=by rfl) (hplain:(backTo cpos (zaf es X.env)).any (·.1)=false:=by rfl) :
  PE X (.Call (.Attribute o name apos) (e::es) [] cpos) (tBM X.K T r to t):=by
 intro pins s σ H Q I h
 refine wpAny_Call_method_late hbase hfew hline rfl (thn (ho pins s σ H _ I h) λv s1 ⟨x,H1,I1,r1,ty,q1⟩=>?_)
 obtain⟨h1,h2⟩:=qpB I1 r1 ty
 refine⟨T,id,pa,slot,hty,h1,h2,?_⟩
 have hA:=ha cpos pins s1 σ H1 _ I1 q1
 rw[hs]at hA ⊢
 refine Calls.callWith_builtin (by show(false || (backTo cpos (zaf es X.env)).any (·.1))=false;rw[hplain] <;> rfl) (Calls.evalArgs_plain ?_)
 exact thn hA λus s2 ⟨vs,H2,I2,r2,q2⟩=>hm pins s2 σ H2 x vs v us Q I2 r1 r2 q2
end
noncomputable def MtM(X:Cx)(id:String)(r:V->List V->Hp->VK->Prop):Prop:=
 ∀(pins:List (Addr×Obj)) (s:Shared) (σ:St) (H:Hp) (x:V) (xs:List V) (v:Value) (us:List Value) (Q:VK),Inv X pins σ H s->RelV x v->Vals xs us->r x xs H Q->
  wpAny (model X.prog X.w) X.A (call (.builtin id) (v::us)) (EP X pins σ Q) X.xe s
theorem Vals.one:∀ {x:V} {us:List Value},Vals [x] us->∃u,us=[u]/\RelV x u
 | _,_,.cons r .nil=>⟨_,rfl,r⟩
theorem Vals.zero:∀ {us:List Value},Vals [] us->us=[]
 | _,.nil=>rfl
theorem Vals.dropLast{xs:List V}{us:List Value}(h:Vals xs us):Vals xs.dropLast us.dropLast:=by
 induction h with
 | nil=>exact .nil
 | cons r t ih=>
  cases t with
  | nil=>exact .nil
  | cons q t'=>exact .cons r ih
theorem Vals.rep{xs:List V}{us:List Value}(h:Vals xs us):∀k:Nat,Vals (zaG k xs).flatten (zaG k us).flatten
 | 0=>.nil
 | k+1=>by
  rw[zbN,zbN,zbU,zbU]
  exact Vals.append h (Vals.rep h k)
theorem foldl_rep(its:List Value):∀(k:Nat) (acc:List Value),
  List.foldl (λx1 x2=>x1++x2) acc.toArray (zaG k its.toArray)=(acc++(zaG k its).flatten).toArray
 | 0,acc=>by simp
 | k+1,acc=>by
  have e:acc.toArray++its.toArray=(acc++its).toArray:=by simp
  have e2:(acc++its)++(zaG k its).flatten=acc++(zaG (k+1) its).flatten:=by
   rw[zbN,zbU,List.append_assoc]
  rw[<- e2,<- foldl_rep its k (acc++its),<- e,zbN,zbV]
section
variable {X:Cx}{pins:List (Addr×Obj)}{σ:St}{H:Hp}{s:Shared}{l b:Addr}{xs ys zs:List V}
theorem Inv.lset{its its':List Value}{n:Nat}{f:Array Value->Array Value}{t':Nat}(I:Inv X pins σ H s)(hH:H l=some (.lst xs))
  (e:s.heap.get? l=some {cls:=.type "list",data:=.seq its.toArray n}) (hf:f its.toArray=its'.toArray) (hv:Vals ys its') (hz:ys.length<=zaj) :
  Inv X pins σ (upd H l (.lst ys)) {s with heap:=s.heap.update l (zba f),toks:=t'}:=by
 have q:=PySem.IsL.update e f
 rw[hf]at q
 refine I.write (x:=l) (e:=l) (by rw[hH];exact trivial) (.inl rfl) (λb' u hb hu=>(zbl s.heap (zba f) (zaJ hb)).trans hu) ⟨_,q⟩ ?_
 exact⟨hz,its',_,hv,q⟩
theorem Inv.lnew{its:List Value}{t':Nat}(I:Inv X pins σ H s)(hv:Vals ys its)(hz:ys.length<=zaj) :
  Inv X pins σ (upd H s.heap.objs.size (.lst ys)) {s with heap:=s.heap.push {cls:=.type "list",data:=.seq its.toArray},toks:=t'}:=
 I.laid (λ_ _ q=>zag _ q) (zam _) ⟨hz,its,0,hv,zat _ rfl⟩
theorem Inv.fresh(I:Inv X pins σ H s):H s.heap.objs.size=none:=I.hok.fresh (zam _)
theorem Inv.lstM(I:Inv X pins σ H s)(hH:H l=some (.lst xs)):xs.length<=zaj/\∃(its:List Value) (n:Nat),Vals xs its/\xs.length=its.length/\s.heap.get? l=some {cls:=.type "list",data:=.seq its.toArray n}:=by
 obtain⟨z,its,n,r,e⟩:=I.hok l _ hH
 exact⟨z,its,n,r,r.length,e⟩
theorem qld{n:Nat}(h:n<=zaj):Builtin.List.listTooLong n=false:=by
 unfold Builtin.List.listTooLong
 exact decide_eq_false (by omega)
end
section
variable {X:Cx}
noncomputable def qiS:V->List V->Hp->VK->Prop:=λx vs H Q=>∃l xs y,x=.ref l/\vs=[y]/\H l=some (.lst xs)/\xs.length<zaj/\Q .non (upd H l (.lst (xs++[y])))
theorem qft:MtM X "list.append" qiS:=by
 intro pins s σ H x vs v us Q I rx rv h
 obtain⟨l,xs,y,rfl,rfl,hH,hz,q⟩:=h
 cases rx
 obtain⟨u,rfl,ru⟩:=rv.one
 obtain⟨z,its,n,r,hl,e⟩:=I.lstM hH
 refine call_meets F.slot_list_append ⟨_,e,rfl⟩ F.entry_list_append (F.args_list_append_2 _ _) (PySem.list_append l its.toArray n u (by rw[zau];omega)) ⟨e,?_⟩
 refine⟨.non,_,I.lset (its':=its++[u]) hH e (by simp) (r.append (.cons ru .nil)) ?_,rfl,q⟩
 rw[za8,List.length_singleton]
 omega
theorem len_rep{α:Type}(xs:List α)(k:Nat):(zaG k xs).flatten.length=k*xs.length:=by
 induction k with
 | zero=>simp
 | succ k ih=>rw[zbN,zbU,za8,ih,Nat.succ_mul,Nat.add_comm]
end
section
variable {prog:zai}{w:World}{A:Around}{E:Value->Shared->Prop}{s:Shared}
end
section
variable {X:Cx}
end
section
variable {κ:Type}[DecidableEq κ]
noncomputable def valV(kvs:List (κ×V))(k:κ):Option V:=(kvs.find? λkv=>decide (kv.1=k)).map (·.2)
noncomputable def putK(kvs:List (κ×V))(k:κ)(v:V):List (κ×V):=
 if(kvs.any λkv=>decide (kv.1=k))=true then kvs.map (λkv=>if kv.1=k then(kv.1,v)else kv)else kvs++[(k,v)]
noncomputable def qpt(kvs:List (κ×V))(k:κ):List (κ×V):=kvs.filter λkv=>decide (kv.1≠k)
theorem qcq{p:κ×V}{r:List (κ×V)}{k:κ}(e:p.1=k):valV (p::r) k=some p.2:=by simp[valV,za4,e]
theorem qcr{p:κ×V}{r:List (κ×V)}{k:κ}(e:¬ p.1=k):valV (p::r) k=valV r k:=by simp[valV,za4,e]
theorem qgO(k:κ):∀kvs:List (κ×V),(kvs.any λkv=>decide (kv.1=k))=(valV kvs k).isSome
 | []=>rfl
 | p::r=>by
  rw[zbe]
  by_cases e:p.1=k
  ·simp only[qcq e,decide_eq_true e,Bool.true_or,Option.isSome_some]
  ·rw[qcr e,decide_eq_false e,Bool.false_or];exact qgO k r
theorem qad(kvs:List (κ×V))(k:κ)(v:V):(putK kvs k v).length<=kvs.length+1:=by
 unfold putK
 split
 ·rw[zan];omega
 ·rw[za8,zaT,List.length_nil];omega
theorem RelO.isSome_eq{o:Option V}{u:Option Value}(r:RelO o u):o.isSome=u.isSome:=by
 cases o with
 | none=>cases u with
  | none=>rfl
  | some _=>exact(show False from r).elim
 | some _=>cases u with
  | none=>exact(show False from r).elim
  | some _=>rfl
theorem RelO.getD{o:Option V}{u:Option Value}{d:V}{d':Value}(r:RelO o u)(rd:RelV d d'):RelV (o.getD d) (u.getD d'):=by
 cases o with
 | none=>cases u with
  | none=>exact rd
  | some _=>exact(show False from r).elim
 | some _=>cases u with
  | none=>exact(show False from r).elim
  | some _=>exact r
theorem KV.val{kvs:List (κ×V)}{vs:List (κ×Value)}(r:KV kvs vs)(k:κ):RelO (valV kvs k) (valueAt vs k):=by
 unfold KV at r
 induction r with
 | nil=>exact za3
 | @cons p q ps qs h t ih=>
  obtain⟨h1,h2⟩:=h
  by_cases e:p.1=k
  ·have e':q.1=k:=h1.symm.trans e
   have b:valueAt (q::qs) k=some q.2:=by simp[valueAt,za4,e']
   rw[qcq e,b];exact h2
  ·have e':¬ q.1=k:=λz=>e (h1.trans z)
   have b:valueAt (q::qs) k=valueAt qs k:=by simp[valueAt,za4,e']
   rw[qcr e,b];exact ih
theorem KV.any{kvs:List (κ×V)}{vs:List (κ×Value)}(r:KV kvs vs)(k:κ):(kvs.any λkv=>decide (kv.1=k))=vs.any λkv=>decide (kv.1=k):=by
 unfold KV at r
 induction r with
 | nil=>rfl
 | cons h t ih=>rw[zbe,zbe,ih,h.1]
theorem KV.repl{kvs:List (κ×V)}{vs:List (κ×Value)}(r:KV kvs vs)(k:κ){y:V}{u:Value}(ry:RelV y u) :
  KV (kvs.map λkv=>if kv.1=k then(kv.1,y)else kv) (vs.map λkv=>if kv.1=k then(kv.1,u)else kv):=by
 unfold KV at r ⊢
 induction r with
 | nil=>exact .nil
 | @cons p q ps qs h t ih=>
  rw[zak,zak]
  refine .cons ?_ ih
  obtain⟨h1,h2⟩:=h
  by_cases e:p.1=k
  ·rw[if_pos e,if_pos (h1.symm.trans e)];exact⟨h1,ry⟩
  ·rw[if_neg e,if_neg (λz=>e (h1.trans z))];exact⟨h1,h2⟩
theorem KV.put{kvs:List (κ×V)}{vs:List (κ×Value)}(r:KV kvs vs)(k:κ){y:V}{u:Value}(ry:RelV y u):KV (putK kvs k y) (stored vs k u):=by
 unfold putK stored
 rw[r.any k]
 by_cases e:(vs.any λkv=>decide (kv.1=k))=true
 ·rw[if_pos e,if_pos e];exact r.repl k ry
 ·rw[if_neg e,if_neg e];exact Paired.snoc r ⟨rfl,ry⟩
theorem KV.drop{kvs:List (κ×V)}{vs:List (κ×Value)}(r:KV kvs vs)(k:κ):KV (qpt kvs k) (without vs k):=by
 unfold KV at r ⊢
 unfold qpt without
 induction r with
 | nil=>exact .nil
 | @cons p q ps qs h t ih=>
  obtain⟨h1,h2⟩:=h
  rw[List.filter_cons,List.filter_cons]
  by_cases e:p.1=k
  ·have a:¬ decide (p.1≠k)=true:=by simp[e]
   have b:¬ decide (q.1≠k)=true:=by simp[h1.symm.trans e]
   rw[if_neg a,if_neg b];exact ih
  ·have e':¬ q.1=k:=λz=>e (h1.trans z)
   have a:decide (p.1≠k)=true:=by simp[e]
   have b:decide (q.1≠k)=true:=by simp[e']
   rw[if_pos a,if_pos b];exact .cons ⟨h1,h2⟩ ih
theorem KV.length{kvs:List (κ×V)}{vs:List (κ×Value)}(r:KV kvs vs):kvs.length=vs.length:=zbt r
end
theorem qeD{P:zai}{w:World}{k:Key}{u:Value}(r:RelV (kV k) u):(qC P w).is k u=true:=by
 cases k with
 | inl i=>obtain⟨t,e⟩:=(show ∃t,u=Value.int i t from r);subst e;exact qgi P w i t
 | inr x=>obtain⟨t,e⟩:=(show ∃t,u=Value.str x t from r);subst e;exact qfT P w x t
theorem qeX{P:zai}{w:World}:∀ {ks:List Key} {us:List Value},Vals (ks.map kV) us->ItemsAre (qC P w) ks us
 | [],_,r=>by rw[zbu]at r;cases r;exact .nil
 | k::ks,_,r=>by
  rw[zak]at r
  cases r with
  | cons h t=>exact .cons (qeD h) (qeX t)
noncomputable abbrev KT(H:Hp):List (List Key×V)->List (List Key×Addr×Value)->Prop:=Paired λp q=>p.1=q.1/\H q.2.1=some (.tup (p.1.map kV))/\RelV p.2 q.2.2
theorem KT.val{H:Hp}{kvs:List (List Key×V)}{xs:List (List Key×Addr×Value)}(r:KT H kvs xs)(k:List Key):RelO (valV kvs k) ((atKey xs k).map (·.2)):=by
 induction r with
 | nil=>exact za3
 | @cons p q ps qs h t ih=>
  obtain⟨h1,_,h2⟩:=h
  by_cases e:p.1=k
  ·have e':q.1=k:=h1.symm.trans e
   have b:atKey (q::qs) k=some q.2:=by simp[atKey,za4,e']
   rw[qcq e,b];exact h2
  ·have e':¬ q.1=k:=λz=>e (h1.trans z)
   have b:atKey (q::qs) k=atKey qs k:=by simp[atKey,za4,e']
   rw[qcr e,b];exact ih
theorem KT.repl{H:Hp}{kvs:List (List Key×V)}{xs:List (List Key×Addr×Value)}(r:KT H kvs xs)(k:List Key){y:V}{u:Value}(ry:RelV y u) :
  KT H (kvs.map λkv=>if kv.1=k then(kv.1,y)else kv) (xs.map (putAt k u)):=by
 induction r with
 | nil=>exact .nil
 | @cons p q ps qs h t ih=>
  rw[zak,zak]
  refine .cons ?_ ih
  obtain⟨h1,h2,h3⟩:=h
  unfold putAt
  by_cases e:p.1=k
  ·rw[if_pos e,if_pos (h1.symm.trans e)];exact⟨h1,h2,ry⟩
  ·rw[if_neg e,if_neg (λz=>e (h1.trans z))];exact⟨h1,h2,h3⟩
theorem KT.put{H:Hp}{kvs:List (List Key×V)}{xs:List (List Key×Addr×Value)}(r:KT H kvs xs)(k:List Key){b:Addr}{y:V}{u:Value}(hb:H b=some (.tup (k.map kV)))(ry:RelV y u) :
  KT H (putK kvs k y) (storedH xs k b u):=by
 have e:(kvs.any λkv=>decide (kv.1=k))=(atKey xs k).isSome:=by
  rw[qgO,(r.val k).isSome_eq,Option.isSome_map]
 unfold putK storedH
 rw[e]
 by_cases q:(atKey xs k).isSome=true
 ·rw[if_pos q,if_pos q];exact r.repl k ry
 ·rw[if_neg q,if_neg q];exact Paired.snoc r ⟨rfl,hb,ry⟩
theorem KT.keeps{H H':Hp}{kvs:List (List Key×V)}{xs:List (List Key×Addr×Value)}(r:KT H kvs xs)(ht:∀b ys,H b=some (.tup ys)->H' b=some (.tup ys)):KT H' kvs xs:=
 Paired.mapP r λ_ _ z=>⟨z.1,ht _ _ z.2.1,z.2.2⟩
section
variable {P:zai}{w:World}{H:Hp}{h:Heap}{a:Addr}
theorem qon{u:HO}(ok:HOk P w H h)(e:Rd H a u):ObjOk P w H h a u:=e.ok ok
theorem qeg{kvs:List (Key×V)}(ok:HOk P w H h)(e:Rd H a (.dK kvs)):kvs.length<=zaj/\(a == za6)=false/\∃vs,KV kvs vs/\h.DictOf (qC P w) a vs:=
 show ObjOk P w H h a (.dK kvs)from qon ok e
theorem qm9{kvs:List (Key×V)}(ok:HOk P w H h)(e:H a=some (.dK kvs)):kvs.length<=zaj/\(a == za6)=false/\∃vs,KV kvs vs/\h.DictOf (qC P w) a vs:=qeg ok (.inl e)
theorem qbz{ks:List Key}(ok:HOk P w H h)(e:H a=some (.tup (ks.map kV))):(zaS (qC P w)).is h ks a:=by
 obtain⟨_,its,r,o,h1,h2,n,h3⟩:=(show ObjOk P w H h a (.tup (ks.map kV))from ok a _ e)
 exact⟨o,its.toArray,n,h1,h2,h3.1,by simpa using qeX r⟩
theorem qfb{kvs:List (List Key×V)}(ok:HOk P w H h)(e:Rd H a (.dT kvs)):kvs.length<=zaj/\(a == za6)=false /\
  ∃xs,KT H kvs xs/\h.DictOfH (zaS (qC P w)) a xs:=by
 obtain⟨z,y,xs,r,o,es,ep,h1,h2,h3,h4,h5⟩:=(show ObjOk P w H h a (.dT kvs)from qon ok e)
 refine⟨z,y,xs,r,o,es,ep,h1,h2,h3,h4,λx hx=>?_,h5⟩
 have all:∀ {l:List (List Key×V)} {m:List (List Key×Addr×Value)},KT H l m->∀x∈m,(zaS (qC P w)).is h x.1 x.2.1:=by
  intro l m q
  induction q with
  | nil=>intro x hx;exact nomatch hx
  | @cons p q ps qs hq t ih=>
   intro x hx
   rcases List.mem_cons.mp hx with e|hx
   ·subst e
    exact qbz ok (by rw[<- hq.1];exact hq.2.1)
   ·exact ih x hx
 exact all r x hx
theorem qmq{kvs:List (List Key×V)}(ok:HOk P w H h)(e:H a=some (.dT kvs)):kvs.length<=zaj/\(a == za6)=false /\
  ∃xs,KT H kvs xs/\h.DictOfH (zaS (qC P w)) a xs:=qfb ok (.inl e)
end
noncomputable def DGet(H:Hp)(a:Addr)(y:V)(r:Option V):Prop:=
 (∃kvs k,Rd H a (.dK kvs)/\y=kV k/\r=valV kvs k)\/∃kvs k b,Rd H a (.dT kvs)/\y=.ref b/\H b=some (.tup (k.map kV))/\r=valV kvs k
noncomputable def DPut(H:Hp)(a:Addr)(y v:V)(H':Hp):Prop:=
 (∃kvs k,H a=some (.dK kvs)/\y=kV k/\kvs.length<zaj/\H'=upd H a (.dK (putK kvs k v))) \/
 ∃kvs k b,H a=some (.dT kvs)/\y=.ref b/\H b=some (.tup (k.map kV))/\kvs.length<zaj/\H'=upd H a (.dT (putK kvs k v))
theorem DGet.k{H:Hp}{a:Addr}{kvs:List (Key×V)}{k:Key}(e:H a=some (.dK kvs)):DGet H a (kV k) (valV kvs k):=.inl ⟨kvs,k,.inl e,rfl,rfl⟩
theorem DGet.t{H:Hp}{a b:Addr}{kvs:List (List Key×V)}{k:List Key}(e:H a=some (.dT kvs))(eb:H b=some (.tup (k.map kV))):DGet H a (.ref b) (valV kvs k):=.inr ⟨kvs,k,b,.inl e,rfl,eb,rfl⟩
theorem DPut.k{H:Hp}{a:Addr}{kvs:List (Key×V)}{k:Key}{v:V}(e:H a=some (.dK kvs))(hl:kvs.length<zaj):DPut H a (kV k) v (upd H a (.dK (putK kvs k v))):=.inl ⟨kvs,k,e,rfl,hl,rfl⟩
theorem DPut.t{H:Hp}{a b:Addr}{kvs:List (List Key×V)}{k:List Key}{v:V}(e:H a=some (.dT kvs))(eb:H b=some (.tup (k.map kV)))(hl:kvs.length<zaj) :
  DPut H a (.ref b) v (upd H a (.dT (putK kvs k v))):=.inr ⟨kvs,k,b,e,rfl,eb,hl,rfl⟩
section
variable {X:Cx}{pins:List (Addr×Obj)}{σ:St}{H:Hp}{s:Shared}{a:Addr}{y v:V}{u r:Value}{o:Option V}{A:Around}{E:Value->Shared->Prop}
theorem Inv.big(I:Inv X pins σ H s):za6<s.heap.objs.size:=by
 have h:zaR<s.heap.objs.size:=(I.mod.glob.keeps I.bk).lt
 exact Nat.lt_trans (by decide) h
theorem qj8{Q:Value->Shared->Prop}(hu:A.units+1<cLine)(I:Inv X pins σ H s)(g:DGet H a y (some v))(ry:RelV y u)(h:∀w' s',Inv X pins σ H s'->RelV v w'->Q w' s') :
  wpAny (model X.prog X.w) A (getItem (.ref a) u) Q E s:=by
 rcases g with⟨kvs,k,e,ey,l⟩|⟨kvs,k,b,e,ey,eb,l⟩
 ·subst ey
  obtain⟨z,hd,vs,rel,dd⟩:=qeg I.hok e
  obtain⟨w',hw,rw'⟩:=RelO.some_of (v:=v) (o:=valueAt vs k) (by rw[l];exact rel.val k)
  exact wpAny_getItem_of (qeD ry) dd.mapOf hw (h w' _ (I.tok _) rw')
 ·subst ey
  cases(show u=zal b from ry)
  obtain⟨z,hd,xs,rel,dd⟩:=qfb I.hok e
  obtain⟨w',hw,rw'⟩:=RelO.some_of (v:=v) (o:=(atKey xs k).map (·.2)) (by rw[l];exact rel.val k)
  obtain⟨p,hp,hp2⟩:=Option.map_eq_some_iff.mp hw
  refine wpAny_getItem_heap (zb0 hu) (qbz I.hok eb) dd hp ?_
  rw[hp2]
  exact h w' _ (I.tok _) rw'
theorem d_in{Q:Value->Shared->Prop}(hu:A.units+1<cLine)(I:Inv X pins σ H s)(g:DGet H a y o)(ry:RelV y u)(h:∀s',Inv X pins σ H s'->Q (.bool o.isSome) s') :
  wpAny (model X.prog X.w) A (zap .In u (.ref a)) Q E s:=by
 rcases g with⟨kvs,k,e,ey,l⟩|⟨kvs,k,b,e,ey,eb,l⟩
 ·subst ey
  obtain⟨z,hd,vs,rel,dd⟩:=qeg I.hok e
  refine wpAny_in_of (qeD ry) hd dd.mapOf ?_
  rw[<- (rel.val k).isSome_eq,<- l]
  exact h _ (I.tok _)
 ·subst ey
  cases(show u=zal b from ry)
  obtain⟨z,hd,xs,rel,dd⟩:=qfb I.hok e
  refine wpAny_in_heap (zb0 hu) (qbz I.hok eb) hd dd ?_
  have q:=(rel.val k).isSome_eq
  rw[Option.isSome_map]at q
  rw[<- q,<- l]
  exact h _ (I.tok _)
theorem qnP{Q:Value->Shared->Prop}(hu:A.units+1<cLine)(I:Inv X pins σ H s)(g:DGet H a y o)(ry:RelV y u)(h:∀s',Inv X pins σ H s'->Q (.bool (!o.isSome)) s') :
  wpAny (model X.prog X.w) A (zap .NotIn u (.ref a)) Q E s:=by
 rcases g with⟨kvs,k,e,ey,l⟩|⟨kvs,k,b,e,ey,eb,l⟩
 ·subst ey
  obtain⟨z,hd,vs,rel,dd⟩:=qeg I.hok e
  refine wpAny_notIn_of (qeD ry) hd dd.mapOf ?_
  rw[<- (rel.val k).isSome_eq,<- l]
  exact h _ (I.tok _)
 ·subst ey
  cases(show u=zal b from ry)
  obtain⟨z,hd,xs,rel,dd⟩:=qfb I.hok e
  refine wpAny_notIn_heap (zb0 hu) (qbz I.hok eb) hd dd ?_
  have q:=(rel.val k).isSome_eq
  rw[Option.isSome_map]at q
  rw[<- q,<- l]
  exact h _ (I.tok _)
theorem qcg{h':Heap}{t':Nat}{ob:HO}(I:Inv X pins σ H s)(mu:Mut (H a))(hs:zaM a s.heap h')(he:∃q,h'.get? a=some q)(new:ObjOk X.prog X.w (upd H a ob) h' a ob) :
  Inv X pins σ (upd H a ob) {s with heap:=h',toks:=t'}:=
 I.write (x:=a) (e:=a) mu (.inl rfl) (λb q hb z=>(hs.2 b hb).trans z) he new
theorem qil{P:zai}{w:World}{H':Hp}{h':Heap}{kvs:List (Key×V)}{vs:List (Key×Value)}(z:kvs.length<=zaj)(hd:(a == za6)=false)(rel:KV kvs vs)(dd:h'.DictOf (qC P w) a vs) :
  ObjOk P w H' h' a (.dK kvs):=⟨z,hd,vs,rel,dd⟩
theorem qjT{H':Hp}{Q:Unit->Shared->Prop}(hu:A.units+1<cLine)(I:Inv X pins σ H s)(g:DPut H a y v H')(ry:RelV y u)(rv:RelV v r)(h:∀s',Inv X pins σ H' s'->Q () s') :
  wpAny (model X.prog X.w) A (setItem (.ref a) u r) Q E s:=by
 rcases g with⟨kvs,k,e,ey,l,eH⟩|⟨kvs,k,b,e,ey,eb,l,eH⟩
 ·subst ey eH
  obtain⟨z,hd,vs,rel,dd⟩:=qm9 I.hok e
  have hz:vs.length<=zaj:=by rw[<- rel.length];exact z
  have hl:(putK kvs k v).length<=zaj:=by have:=qad kvs k v;omega
  refine wpAny_setItem_pairs (hsz:=hz) (qeD ry) dd λh' dd' hs=>h _ ?_
  have he:∃q,h'.get? a=some q:=let ⟨q,_,_,hq,_⟩:=dd';⟨q,hq⟩
  exact qcg I (by rw[e];exact za3) hs he (qil hl hd (rel.put k rv) dd')
 ·subst ey eH
  cases(show u=zal b from ry)
  obtain⟨z,hd,xs,rel,dd⟩:=qmq I.hok e
  have hz:xs.length<=zaj:=by rw[<- zbt rel];exact z
  have hl:(putK kvs k v).length<=zaj:=by have:=qad kvs k v;omega
  refine wpAny_setItem_heap (hsz:=hz) (zb0 hu) (qbz I.hok eb) dd λh' dd' hs=>h _ ?_
  obtain⟨q,es,ep,hq,h2,h3,h4,_,h5⟩:=dd'
  refine qcg I (by rw[e];exact za3) hs ⟨q,hq⟩ ⟨hl,hd,_,(rel.put k eb rv).keeps λc ys ec=>?_,q,es,ep,hq,h2,h3,h4,h5⟩
  rw[qi (qlx ec e (λz=>nomatch z))]
  exact ec
end
section
variable {X:Cx}{pins:List (Addr×Obj)}{σ:St}{H:Hp}{s:Shared}{a:Addr}{kvs:List (Key×V)}{k:Key}{u:Value}{A:Around}{E:Value->Shared->Prop}
theorem qqn{Q:Value->Shared->Prop}(I:Inv X pins σ H s)(e:Rd H a (.dK kvs))(h:∀t s',Inv X pins σ H s'->Q (.int kvs.length t) s'):wpAny (model X.prog X.w) A (call (.builtin "len") [.ref a]) Q E s:=by
 obtain⟨z,hd,vs,rel,dd⟩:=qeg I.hok e
 refine call_len_dict hd dd (by rw[<- rel.length];rw[sizeLine_eq]at z;omega) ?_
 rw[<- rel.length]
 exact h _ _ (I.tok _)
end
noncomputable def NoSl(i:Expr):Prop:=∀ov iv,subscripted i false ov iv=operate [ov,iv] (getItem ov iv)
theorem qmB{prog:zai}{w:World}{A:Around}{E:Value->Shared->Prop}{s:Shared}{env:Env}{value slice:Expr}{pos:Pos}{T id:String}{Q:Value->Shared->Prop}
  (hl:typeLookup (.type T) "__getitem__" = pure (some (.builtin id))) (hs:NoSl slice)
  (h:wpAny (model prog w) A (eval value env) (λo s₁=>wpAny (model prog w) A (eval slice env) (λi s₂=>s₂.TypeIs o T/\wpAny (model prog w) A (getItem o i) Q E s₂) E s₁) E s) :
  wpAny (model prog w) A (eval (.Subscript value slice pos) env) Q E s:=by
 refine Subscript_ (zaZ h (λo s₁ h₁=>zaZ h₁ (λi s₂ h₂=>?_) λ_ _ x=>x) λ_ _ x=>x)
 obtain⟨hT,h₂⟩:=h₂
 unfold subscriptTail
 refine zaa ?_
 rw[getitemInPython_of_ne hT.not_modules]
 refine zaa (wpAny_specialOf hT hl ?_)
 have fin:wpAny (model prog w) A (subscripted slice false o i) (λr s₃=>wpAny (model prog w) A (letTemporaryGo value o r >>= λ_=>pure r) Q E s₃) E s₂:=by
  rw[hs o i]
  exact wpAny_operating (zaZ h₂ (λr s₃ h₃=>zaa (wpAny_letTemporaryGo (zab h₃))) λ_ _ x=>x)
 first
  | exact zab (zaa fin)
  | exact zaa (zab (zaa fin))
  | exact zaa fin
theorem qf7{X:Cx}{pins:List (Addr×Obj)}{σ:St}{H:Hp}{s:Shared}{a:Addr}{y:V}{o:Option V}(I:Inv X pins σ H s)(g:DGet H a y o):s.TypeIs (.ref a) "dict" := by
 rcases g with⟨kvs,k,e,_,_⟩|⟨kvs,k,b,e,_,_,_⟩
 ·obtain⟨_,_,vs,_,dd⟩:=qeg I.hok e
  exact dd.typeIs
 ·obtain⟨_,_,xs,_,dd⟩:=qfb I.hok e
  exact dd.typeIs
noncomputable def qom(td ty:TE):TE:=λσ H Q=>td σ H λx H1=>ty σ H1 λy H2=>∃a v,x=.ref a/\DGet H2 a y (some v)/\Q v H2
noncomputable def qqZ(td ty tv:TE):TS:=λD σ H=>tv σ H λv H1=>td σ H1 λx H2=>ty σ H2 λy H3=>∃a H4,x=.ref a/\DPut H3 a y v H4/\D.nx σ H4
section
variable {X:Cx}{o i e value:Expr}{pos pos' tpos:Pos}{td ty tv:TE}
theorem qmp(hu:X.A.units+1<cLine)(ho:PE X o td)(hi:PE X i ty)(hs:NoSl i):PE X (.Subscript o i pos) (qom td ty):=by
 intro pins s σ H Q I h
 refine qmB PySem.F.slot_dict_getitem.lookup hs (thn (ho pins s σ H _ I h) λu s1 ⟨x,H1,I1,rx,q1⟩=>thn (hi pins s1 σ H1 _ I1 q1) λiv s2 ⟨y,H2,I2,ry,a,v,ex,g,q2⟩=>?_)
 subst ex
 obtain rfl:u=zal a:=rx
 exact⟨qf7 I2 g,qj8 hu I2 g ry λw' s3 I3 rw'=>⟨v,H2,I3,rw',q2⟩⟩
theorem qn8(hu:X.A.units+1<cLine)(ho:PE X o td)(hi:PE X i ty)(hv:PE X value tv)(hs:zaV value (some (.Subscript o i pos')) pos.line X.env=pure false) :
  PS X (.Assign [.Subscript o i pos'] value pos) (qqZ td ty tv):=by
 intro pins s σ H D I h
 refine wpAny_Assign_Subscript (thn (hv pins s σ H _ I h) λr s1 ⟨v,H1,I1,rv,q1⟩=>thn (ho pins s1 σ H1 _ I1 q1) λu s2 ⟨x,H2,I2,rx,q2⟩=>thn (hi pins s2 σ H2 _ I2 q2) λiv s3 ⟨y,H3,I3,ry,a,H4,ex,g,q3⟩=>?_) hs
 subst ex
 obtain rfl:u=zal a:=rx
 exact qjT hu I3 g ry rv λs4 I4=>⟨σ,H4,I4,q3⟩
end
theorem qhk{P:zai}{w:World}{H:Hp}(h:Heap)(hb:za6<h.objs.size):ObjOk P w H (h.push {cls:=.type "dict",data:=.dict #[]}) h.objs.size (.dK []):=
 ⟨zaX _,beq_eq_false_iff_ne.mpr (zaJ (zaw hb)),[],.nil,Heap.DictOf.new h⟩
theorem qex{P:zai}{w:World}{H:Hp}(h:Heap)(hb:za6<h.objs.size):ObjOk P w H (h.push {cls:=.type "dict",data:=.dict #[]}) h.objs.size (.dT []):=
 ⟨zaX _,beq_eq_false_iff_ne.mpr (zaJ (zaw hb)),[],.nil,_,#[],0,zat _ rfl,⟨rfl,rfl,rfl⟩,rfl,rfl,List.nodup_nil⟩
noncomputable def qoQ:TE:=λ_ H Q=>∀p,H p=none->Q (.ref p) (upd H p (.dT []))
section
variable {X:Cx}{pos:Pos}
theorem qks:PE X (.Dict [] [] pos) qoQ:=λpins s σ H Q I h=>
 wpAny_Dict_empty ⟨.ref s.heap.objs.size,_,I.laid (a:=s.heap.objs.size) (o:=.dT []) (t':=s.toks) (λ_ _ q=>zag _ q) (zam _) (qex s.heap I.big),rfl,h _ (I.hok.fresh (zam _))⟩
end
noncomputable def qju:List (TE×TE)->St->Hp->(List (V×V)->Hp->Prop)->Prop
 | [],_,H,Q=>Q [] H
 | (tk,tv)::r,σ,H,Q=>tk σ H λx H1=>tv σ H1 λy H2=>qju r σ H2 λps H3=>Q ((x,y)::ps) H3
noncomputable abbrev VV:List (V×V)->List (Value×Value)->Prop:=Paired λp q=>RelV p.1 q.1/\RelV p.2 q.2
noncomputable def PPs(X:Cx)(pos:Pos)(keys:List (Option Expr))(values:List Expr)(trs:List (TE×TE)):Prop:=
 ∀(pins:List (Addr×Obj)) (s:Shared) (σ:St) (H:Hp) (Q:List (V×V)->Hp->Prop),Inv X pins σ H s->qju trs σ H Q->
  wpAny (model X.prog X.w) X.A (evalPairs (pairTrees keys values X.env pos)) (λvs s'=>∃ps H',Inv X pins σ H' s'/\VV ps vs/\Q ps H') X.xe s
theorem qmo{X:Cx}{pos:Pos}:PPs X pos [] [] []:=λpins s σ H Q I h=>pairTrees_nil_walk ⟨[],H,I,.nil,h⟩
theorem qkq{X:Cx}{pos:Pos}{k v:Expr}{ks:List (Option Expr)}{vs:List Expr}{tk tv:TE}{trs:List (TE×TE)}(hk:PE X k tk)(hv:PE X v tv)(hr:PPs X pos ks vs trs) :
  PPs X pos (some k::ks) (v::vs) ((tk,tv)::trs):=λpins s σ H Q I h=>
 pairTrees_cons_walk (thn (hk pins s σ H _ I h) λu s1 ⟨x,H1,I1,rx,q1⟩=>thn (hv pins s1 σ H1 _ I1 q1) λw2 s2 ⟨y,H2,I2,ry,q2⟩=>
  thn (hr pins s2 σ H2 _ I2 q2) λws s3 ⟨ps,H3,I3,rel,q3⟩=>⟨(x,y)::ps,H3,I3,.cons ⟨rx,ry⟩ rel,q3⟩)
noncomputable def qfF(kvs more:List (Key×V)):List (Key×V):=more.foldl (λacc kv=>putK acc kv.1 kv.2) kvs
theorem KV.merge:∀ {more:List (Key×V)} {rs:List (Key×Value)} {kvs:List (Key×V)} {vs:List (Key×Value)},KV more rs->KV kvs vs->KV (qfF kvs more) (merged vs rs):=by
 intro more rs kvs vs r
 unfold KV at r
 induction r generalizing kvs vs with
 | nil=>intro q;exact q
 | @cons p q ps qs h t ih=>
  intro r0
  have e:KV (putK kvs p.1 p.2) (stored vs q.1 q.2):=by
   have:=r0.put p.1 h.2
   rw[<- h.1];exact this
  exact ih e
theorem qbw:∀(more kvs:List (Key×V)),(qfF kvs more).length<=kvs.length+more.length
 | [],kvs=>by show kvs.length<=kvs.length+0;omega
 | p::r,kvs=>by
  have h1:=qbw r (putK kvs p.1 p.2)
  have h2:=qad kvs p.1 p.2
  show(qfF (putK kvs p.1 p.2) r).length<=_
  rw[zaT];omega
theorem qdA{P:zai}{w:World}:∀ {kvs:List (Key×V)} {ws:List (Value×Value)},VV (kvs.map λkv=>(kV kv.1,kv.2)) ws->∃rs,Carries (qC P w) ws rs/\KV kvs rs
 | [],_,r=>by rw[zbu]at r;cases r;exact⟨[],za3,.nil⟩
 | p::kvs,_,r=>by
  rw[zak]at r
  cases r with
  | @cons a b as bs h t=>
   obtain⟨rs,c,q⟩:=qdA (P:=P) (w:=w) t
   obtain⟨b1,b2⟩:=b
   exact⟨(p.1,b2)::rs,⟨qeD h.1,rfl,c⟩,.cons ⟨rfl,h.2⟩ q⟩
noncomputable def qqp(trs:List (TE×TE)):TE:=λσ H Q=>∀p,H p=none->qju trs σ (upd H p (.dK [])) λps H2=>H2 p=some (.dK [])/\∃kvs:List (Key×V),ps=kvs.map (λkv=>(kV kv.1,kv.2))/\kvs.length<=15/\Q (.ref p) (upd H2 p (.dK (qfF [] kvs)))
theorem qnI{X:Cx}{pos:Pos}{keys:List (Option Expr)}{values:List Expr}{trs:List (TE×TE)}(h:PPs X pos keys values trs)(hall:keys.all (·.isSome)=true)(hl:keys.length=values.length)(h0:keys≠[])
  (h15:keys.length<=15):PE X (.Dict keys values pos) (qqp trs):=by
 intro pins s σ H Q I q
 have hn:=I.hok.fresh (zam s.heap.objs.size)
 have I1:=I.laid (a:=s.heap.objs.size) (o:=.dK []) (h':=s.heap.push {cls:=.type "dict",data:=.dict #[]}) (t':=s.toks) (λ_ _ q=>zag _ q) (zam _) (qhk s.heap I.big)
 refine wpAny_Dict_walk (knd:=qC X.prog X.w) hall hl h0 h15 (thn (h pins _ σ _ _ I1 (q _ hn)) λws s2 ⟨ps,H2,I2,rel,e,kvs,ep,lk,q2⟩=>?_)
 subst ep
 obtain⟨rs,c,rk⟩:=qdA (P:=X.prog) (w:=X.w) rel
 obtain⟨z,hd,vs0,r0,dd⟩:=qm9 I2.hok e
 cases r0
 refine⟨rs,c,dd,λh' dd' hs=>⟨.ref s.heap.objs.size,_,?_,rfl,q2⟩⟩
 have hz:(qfF [] kvs).length<=zaj:=by
  have h1:=qbw kvs []
  rw[List.length_nil]at h1
  rw[sizeLine_eq];omega
 have he:∃q,h'.get? s.heap.objs.size=some q:=let ⟨q,_,_,hq,_⟩:=dd';⟨q,hq⟩
 exact qcg I2 (by rw[e];exact za3) hs he (qil hz hd (rk.merge .nil) dd')
structure M1(X:Cx)(o:Expr)(m:Str)(apos:Pos)(e:Expr)(cpos:Pos):Prop where
 base:attributeBase o m X.env (eval o X.env)=eval o X.env
 few:((backTo cpos (zaf [e] X.env)).all (λx=>!x.1) && (backToKw cpos (keywordEach [] X.env)).all (λx=>x.1.isSome)
  && decide (([e]:List Expr).length+([]:List Keyword).length+(if([]:List Keyword).isEmpty then 0 else 1)<30))=true
 line:(apos.endLine == cpos.line)=true
 trees:backTo cpos (zaf [e] X.env)=[(false,eval e X.env)]
structure M2(X:Cx)(o:Expr)(m:Str)(apos:Pos)(e f:Expr)(cpos:Pos):Prop where
 base:attributeBase o m X.env (eval o X.env)=eval o X.env
 few:((backTo cpos (zaf [e,f] X.env)).all (λx=>!x.1) && (backToKw cpos (keywordEach [] X.env)).all (λx=>x.1.isSome)
  && decide (([e,f]:List Expr).length+([]:List Keyword).length+(if([]:List Keyword).isEmpty then 0 else 1)<30))=true
 line:(apos.endLine == cpos.line)=true
 trees:backTo cpos (zaf [e,f] X.env)=[(false,eval e X.env),(false,eval f X.env)]
noncomputable def IsD(H:Hp)(a:Addr):Prop:=(∃kvs,Rd H a (.dK kvs))\/∃kvs,Rd H a (.dT kvs)
theorem qiH{X:Cx}{pins:List (Addr×Obj)}{σ:St}{H:Hp}{s:Shared}{a:Addr}(I:Inv X pins σ H s)(d:IsD H a) :
  s.TypeIs (.ref a) "dict" /\ (∀b,zal a=.ref b->∃ob,s.heap.get? b=some ob/\ob.dict=none)/\(a == za6)=false:=by
 rcases d with⟨kvs,e⟩|⟨kvs,e⟩
 ·obtain⟨_,hd,vs,_,dd⟩:=qeg I.hok e
  refine⟨dd.typeIs,λb q=>?_,hd⟩
  cases q
  obtain⟨ob,_,_,h1,h2,_⟩:=dd
  exact⟨ob,h1,h2.2.1⟩
 ·obtain⟨_,hd,xs,_,dd⟩:=qfb I.hok e
  refine⟨dd.typeIs,λb q=>?_,hd⟩
  cases q
  obtain⟨ob,_,_,h1,h2,_⟩:=dd
  exact⟨ob,h1,h2.2.1⟩
section
variable {X:Cx}{pins:List (Addr×Obj)}{σ:St}{H:Hp}{s:Shared}{a:Addr}{y d:V}{u r:Value}{o:Option V}{A:Around}{E:Value->Shared->Prop}
theorem qp2{Q:Value->Shared->Prop}(hu:A.units+1<cLine)(I:Inv X pins σ H s)(g:DGet H a y o)(ry:RelV y u)(h:∀w' s',Inv X pins σ H s'->RelV (o.getD .non) w'->Q w' s') :
  wpAny (model X.prog X.w) A (call (.builtin "dict.get") [.ref a,u]) Q E s:=by
 rcases g with⟨kvs,k,e,ey,l⟩|⟨kvs,k,b,e,ey,eb,l⟩
 ·subst ey
  obtain⟨z,hd,vs,rel,dd⟩:=qeg I.hok e
  refine call_meetsIn zb1 dd.typeIs PySem.F.entry_dict_get (PySem.F.args_dict_get_2 _ _) (meets_dict_get (qC X.prog X.w) a (qeD ry) hd) ⟨_,dd.mapOf,h _ _ (I.tok _) ?_⟩
  rw[l]
  exact(rel.val k).getD rfl
 ·subst ey
  cases(show u=zal b from ry)
  obtain⟨z,hd,xs,rel,dd⟩:=qfb I.hok e
  refine call_meetsIn zb1 dd.typeIs PySem.F.entry_dict_get (PySem.F.args_dict_get_2 _ _) (meetsH_dict_get (zaS (qC X.prog X.w)) a b hd) ⟨zb0 hu,k,xs,qbz I.hok eb,dd,h _ _ (I.tok _) ?_⟩
  rw[l]
  exact(rel.val k).getD rfl
theorem qps{Q:Value->Shared->Prop}(hu:A.units+1<cLine)(I:Inv X pins σ H s)(g:DGet H a y o)(ry:RelV y u)(rd:RelV d r)(h:∀w' s',Inv X pins σ H s'->RelV (o.getD d) w'->Q w' s') :
  wpAny (model X.prog X.w) A (call (.builtin "dict.get") [.ref a,u,r]) Q E s:=by
 rcases g with⟨kvs,k,e,ey,l⟩|⟨kvs,k,b,e,ey,eb,l⟩
 ·subst ey
  obtain⟨z,hd,vs,rel,dd⟩:=qeg I.hok e
  refine call_meetsIn zb1 dd.typeIs PySem.F.entry_dict_get (PySem.F.args_dict_get_3 _ _ _) (meets_dict_get_default (qC X.prog X.w) a (qeD ry) hd r) ⟨_,dd.mapOf,h _ _ (I.tok _) ?_⟩
  rw[l]
  exact(rel.val k).getD rd
 ·subst ey
  cases(show u=zal b from ry)
  obtain⟨z,hd,xs,rel,dd⟩:=qfb I.hok e
  refine call_meetsIn zb1 dd.typeIs PySem.F.entry_dict_get (PySem.F.args_dict_get_3 _ _ _) (meetsH_dict_get_default (zaS (qC X.prog X.w)) a b hd r) ⟨zb0 hu,k,xs,qbz I.hok eb,dd,h _ _ (I.tok _) ?_⟩
  rw[l]
  exact(rel.val k).getD rd
end
noncomputable def qpu(td ty:TE):TE:=λσ H Q=>td σ H λx H1=>∃a,x=.ref a/\IsD H1 a/\ty σ H1 λy H2=>∃o,DGet H2 a y o/\Q (o.getD .non) H2
noncomputable def qpc(td ty tx:TE):TE:=λσ H Q=>td σ H λx H1=>∃a,x=.ref a/\IsD H1 a/\ty σ H1 λy H2=>tx σ H2 λz H3=>∃o,DGet H3 a y o/\Q (o.getD z) H3
section
variable {X:Cx}{o e f:Expr}{apos cpos:Pos}{td ty tx:TE}
theorem qkZ(hu:X.A.units+1<cLine)(ho:PE X o td)(he:PE X e ty)(m:M1 X o "get" apos e cpos):PE X (.Call (.Attribute o "get" apos) [e] [] cpos) (qpu td ty):=by
 intro pins s σ H Q I h
 refine wpAny_Call_method m.base m.few m.line PySem.F.plainAttrs_dict zb1 PySem.F.type_dict_get (thn (ho pins s σ H _ I h) λu s1 ⟨x,H1,I1,rx,a,ex,d,q1⟩=>?_)
 subst ex
 obtain rfl:u=zal a:=rx
 obtain⟨t1,t2,_⟩:=qiH I1 d
 refine⟨t1,t2,?_⟩
 rw[m.trees]
 refine Calls.callWith_builtin rfl (Calls.evalArgs_plain (Calls.spliced_cons (thn (he pins s1 σ H1 _ I1 q1) λiv s2 ⟨y,H2,I2,ry,ov,g,q2⟩=>Calls.spliced_nil ?_)))
 exact qp2 hu I2 g ry λw' s3 I3 rw'=>⟨_,H2,I3,rw',q2⟩
theorem qla(hu:X.A.units+1<cLine)(ho:PE X o td)(he:PE X e ty)(hf:PE X f tx)(m:M2 X o "get" apos e f cpos):PE X (.Call (.Attribute o "get" apos) [e,f] [] cpos) (qpc td ty tx):=by
 intro pins s σ H Q I h
 refine wpAny_Call_method m.base m.few m.line PySem.F.plainAttrs_dict zb1 PySem.F.type_dict_get (thn (ho pins s σ H _ I h) λu s1 ⟨x,H1,I1,rx,a,ex,d,q1⟩=>?_)
 subst ex
 obtain rfl:u=zal a:=rx
 obtain⟨t1,t2,_⟩:=qiH I1 d
 refine⟨t1,t2,?_⟩
 rw[m.trees]
 refine Calls.callWith_builtin rfl (Calls.evalArgs_plain (Calls.spliced_cons (thn (he pins s1 σ H1 _ I1 q1) λiv s2 ⟨y,H2,I2,ry,q2⟩=>
  Calls.spliced_cons (thn (hf pins s2 σ H2 _ I2 q2) λfv s3 ⟨z,H3,I3,rz,ov,g,q3⟩=>Calls.spliced_nil ?_))))
 exact qps hu I3 g ry rz λw' s4 I4 rw'=>⟨_,H3,I4,rw',q3⟩
end
section
variable {X:Cx}{pins:List (Addr×Obj)}{σ:St}{H:Hp}{s:Shared}{a:Addr}{kvs:List (Key×V)}{A:Around}{E:Value->Shared->Prop}
end
section
variable {X:Cx}{pins:List (Addr×Obj)}{σ:St}{H:Hp}{s:Shared}{a:Addr}{y:V}{u:Value}{A:Around}{E:Value->Shared->Prop}
end
end L2
namespace Att
open PySem PySem.W PySem.Calls PyProof.Rows
theorem qdb{P:Params}{h:Heap}:∀(ns:List Int) (vs:List Value),WellAll P h vs (ns.map WData.int)->zaW vs ns:=by
 intro ns
 induction ns with
 | nil=>
  intro vs w
  rw[zbu]at w
  cases w
  exact .nil
 | cons n ns ih=>
  intro vs w
  rw[zak]at w
  cases w with
  | cons a b=>
   cases a
   exact .cons _ _ (ih _ b)
theorem qjQ{l:OpenLaw}{n:Nat}(hn:l.most=some n){P:Params}{h:Heap}{args:List WData}{vals:List Value}
  (hpre:l.row.toRowW.claim.pre args=true) (hwl:WellAll P h vals args) :
  ∃a vs ns,vals=[zal a]/\args=[WData.list (ns.map WData.int)]/\h.get? a=some {cls:=.type "list",data:=.seq vs.toArray}/\zaW vs ns/\ns.length<=n:=by
 have hsh:WShape.hasAll [] args [.list .int]=true:=(pre_splitW hpre).1
 have hc:l.pre.holds [] {args:=args}=true:=(pre_splitW hpre).2
 obtain⟨d,r,rfl,h1,h2⟩:=hasAllW_cons hsh
 obtain rfl:=hasAllW_nil h2
 obtain⟨xs,rfl,h3⟩:=hasW_list h1
 obtain⟨ns,rfl⟩:=items_int h3
 have hlen:ns.length<=n:=by
  unfold OpenLaw.pre at hc
  have h4:(WTm.not (.lt (.lit (.int (n:Int))) (.len (.arg 0)))).holds [] {args:=[.list (ns.map .int)]}=true:=by
   have h4:=(holds_andW hc).1
   rw[hn]at h4
   exact h4
  have h5:=condW_of h4 (w_not (w_lt w_lit (w_len_list (w_arg rfl))))
  rw[zan]at h5
  refine Nat.le_of_not_lt λq=>?_
  have q':(n:Int)<((ns.length:Nat):Int):=by omega
  first
   | (rw[decide_eq_true q']at h5;exact absurd h5 (by decide))
   | (simp at h5;omega)
 cases hwl with
 | cons w1 w2=>
  cases w2
  cases w1 with
  | list ho hall=>exact⟨_,_,ns,rfl,rfl,ho,qdb ns _ hall,hlen⟩
theorem qio(l:OpenLaw)(args:List WData):l.row.toRowW.claim.post args (.bool true) args=true:=
 postW_of (r:=l.row.toRowW) (X:=(true == true))
  (show WShape.has [] (.bool true) .bool=true by first|rfl|decide|simp[WShape.has,WShape.arms,WShape.armsAll])
  (show(WTm.eq .res (.lit (.bool true))).value [] {args:=args,res:=some (.bool true),after:=args}=some (.bool (true == true))from w_eq_bool (w_res rfl) w_lit) rfl
theorem qfX{l:OpenLaw}{n:Nat}{q:zai}{loose:List Str}{XP:(Str->Option Value)->Heap->Prop}{YP:World->Heap->Prop}{d:DefRec}
  (hn:l.most=some n) (hdf:d.params.defaults=[])
  (call:∀(w:World) (s₀ s₁:Shared) (mg mb:Str -> Option Value) (fa:Addr) (o:Obj) (pm cd doc:Value) (a:Addr) (vs:List Value) (ns:List Int),
   Ground q loose [] XP w s₀ mg mb s₁.heap->YP w s₁.heap->
   s₁.heap.get? fa=some o->o.data=.func (docDef d.name d.params d.body d.scope pm cd doc)->s₁.heap.CodeRec cd d.name->mg d.name=some (.ref fa)->
   s₁.heap.get? a=some {cls:=.type "list",data:=.seq vs.toArray}->zaW vs ns->ns.length<=n->s₁.gens=#[]->
   codeAny (model l.prog w) callerA (.call (.ref fa) ⟨[.ref a],[]⟩) (λr s'=>r=.ok (.ret (.bool true))/\OldK s₁.heap s'.heap/\s'.os=s₁.os/\AllBare s'.gens) s₁) :
  WalkO q loose XP YP l.row.toRowW d [] (λf vs=>PySem.call f vs):=by
 intro w s₀ s₁ mg mb G Y fa o pm cd doc dV kV ho hd hcd hD hmg hg args vals as hpre hlay hrd hwl hlo
 obtain rfl:dV=.none:=Dflts.none hD hdf
 obtain rfl:kV=.none:=Dflts.noKw hD
 obtain⟨a,vs,ns,rfl,rfl,hobj,hints,hlen⟩:=qjQ hn hpre hwl
 refine enter_call (codeAny_mono (call w s₀ s₁ mg mb fa o pm cd doc a vs ns G Y ho (fd_plain hd) hcd hmg hobj hints hlen hg) λr s' hq=>?_)
 obtain⟨rfl,h2,h3,h4⟩:=hq
 exact⟨.inl ⟨.bool true,.bool true,[],rfl,λ_=>rfl,.bool true,qio l _,λ_=>⟨List.Pairwise.nil,λ_ hm=>(nomatch hm)⟩⟩,h2,h3,h4⟩
section
variable {prog:zai}{w:World}{A:Around}{E:Value->Shared->Prop}{s:Shared}{K:Frag}
noncomputable def qhu(h:Heap):Heap:={h with objs:=#[]}
theorem qb6(h:Heap)(b:Addr):(qhu h).get? b=none:=by
 cases e:(qhu h).get? b with
 | none=>rfl
 | some o=>exact absurd (zah e) (Nat.not_lt_zero _)
noncomputable def ledger(h:Heap)(L d:Addr):List (Addr×Obj):=(zav h.objs.size).filterMap λa=>if a=L\/a=d then none else(h.get? a).map λo=>(a,o)
theorem qan{h:Heap}{L d a:Addr}{o:Obj}:(a,o)∈ledger h L d↔a≠L/\a≠d/\h.get? a=some o:=by
 unfold ledger
 rw[List.mem_filterMap]
 constructor
 ·rintro⟨b,_,e⟩
  split at e
  ·cases e
  ·rename_i hb
   obtain⟨o',ho,e'⟩:=Option.map_eq_some_iff.mp e
   cases e'
   exact⟨λq=>hb (.inl q),λq=>hb (.inr q),ho⟩
 ·rintro⟨n1,n2,ho⟩
  refine⟨a,List.mem_range.mpr (zah ho),?_⟩
  rw[if_neg (show ¬ (a=L\/a=d)from λq=>q.elim n1 n2),ho] <;> rfl
theorem qok{h:Heap}{L:Addr}{m:Str->Option Value}(n:h.Ns L m):Fr (qhu h) L h m:=
 ⟨n,λb o e=>(by rw[qb6]at e;cases e),zaX _⟩
end
end Att
namespace L2
open PySem PySem.Spec PyProof.Rows
theorem qe2:∀ {vs:List Value} {ns:List Int},zaW vs ns->Vals (ns.map V.int) vs
 | _,_,.nil=>.nil
 | _,_,.cons n t h=>.cons ⟨t,rfl⟩ (qe2 h)
noncomputable def Only(H:Hp):Prop:=∀b,H b=none\/∃o xs,H b=some (.frz o (.lst xs))
theorem qkN{P:zai}{w:World}{K:zae}{mg mb:Str->Option Value}{CX:CXT}{k:Nat}{fa a:Addr}{fd:FuncData}{x:Str}{sp:Sp}{s₁:Shared}{vs:List Value}{ns:List Int}
  (KX:K.In s₁.heap) (hns:s₁.heap.Ns zaR mg) (hb:s₁.heap.Ns builtinsNs mb) (hbb:∀x:Str,x ≠ "__name__" -> mb x=zaE x) (hlim:s₁.heap.NoLimit) (hg:s₁.gens=#[])
  (ha:s₁.heap.get? a=some {cls:=.type "list",data:=.seq vs.toArray}) (hi:zaW vs ns) (hl:ns.length<=zaj) (hr:Room k callerA)
  (F:∀base:Heap,K.In base->base.Ns zaR mg->FnOk P w K mg base CX k fa fd [x] sp) (hbind:∀(s:Shared) (u:Value),BindsTo s fd ⟨[u],[]⟩ [(x,u)])
  (hsp:∀H:Hp,Only H->SqL K H a (ns.map V.int)->sp [.ref a] H (λv _=>v=.bl true) λ_ _ _=>False)
  (hCX:∀H e s',CX [] H s₁ (λ_ _ _=>False) e s'->False) :
  codeAny (model P w) callerA (.call (.ref fa) ⟨[.ref a],[]⟩) (λr s'=>r=.ok (.ret (.bool true))/\OldK s₁.heap s'.heap/\s'.os=s₁.os/\AllBare s'.gens) s₁:=by
 have rv:=qe2 hi
 have lenV:=hi.length
 -- from an abstract heap in which nothing but the script may be tracked
 have core:∀H:Hp,Only H->SqL K H a (ns.map V.int)->HOk P w H s₁.heap->(∀b,H b≠none->b=a)->(H a≠none->K.lookup a=none)->
   codeAny (model P w) callerA (.call (.ref fa) ⟨[.ref a],[]⟩) (λr s'=>r=.ok (.ret (.bool true))/\OldK s₁.heap s'.heap/\s'.os=s₁.os/\AllBare s'.gens) s₁:=by
  intro H hO hS hok hA hK
  have base_of:∀ {b:Addr} {o:Obj},s₁.heap.get? b=some o->H b=none->(hidT s₁.heap H).get? b=some o:=λe n=>qkh e n
  have noA:∀ {b:Addr} {o:Obj} {es:Array DictEntry} {ep:Nat},s₁.heap.get? b=some o->o.data=.dict es ep->H b=none:=λ{b o es ep} e d=>by
   cases q:H b with
   | none=>rfl
   | some u=>
    have e':b=a:=hA b (by rw[q];simp)
    subst e'
    rw[ha]at e;cases e
    have d':Data.seq vs.toArray _=Data.dict es ep:=d
    cases d'
  have nsK:∀ {b:Addr} {m:Str->Option Value},s₁.heap.Ns b m->(hidT s₁.heap H).Ns b m:=λ{b m} ⟨o,es,ep,e,d,r⟩=>⟨o,es,ep,base_of e (noA e d),d,r⟩
  have hKb:K.In (hidT s₁.heap H):=λb o e=>base_of (KX b o e) (by
   cases q:H b with
   | none=>rfl
   | some u=>
    have e':b=a:=hA b (by rw[q];simp)
    subst e'
    rw[hK (by rw[q];simp)]at e;cases e)
  have hM:Mod K mg (hidT s₁.heap H):=⟨hKb,nsK hns,⟨mb,nsK hb,hbb⟩,let ⟨mc,h1,h2⟩:=hlim;⟨mc,nsK h1,h2⟩⟩
  have e0:Env0 P w K mg (hidT s₁.heap H) callerA [] s₁ H:=⟨rfl,hM,λb o e=>qnK e,Nat.le_of_eq (qik _ _),trivial,λb hb=>absurd (show b∈([]:List Addr)from hb) (by simp),hok,.of_eq hg⟩
  refine codeAny_mono ((F _ hKb (nsK hns)).run callerA [] s₁ H ⟨[.ref a],[]⟩ [.ref a] [.ref a] _ _ hr e0 (hbind s₁ (.ref a)) (.cons rfl .nil) (hsp H hO hS)) λr s' h=>?_
  cases r with
  | error e=>exact(hCX H e s' h).elim
  | ok fl=>
   cases fl with
   | next=>exact zbh h
   | brk=>exact zbh h
   | cont=>exact zbh h
   | ret u=>
    obtain⟨v,H',os,bare,un,hok',r',q⟩:=h
    have q':v=.bl true:=q
    subst q'
    obtain rfl:u=Value.bool true:=r'
    refine⟨rfl,OldK.of_keep λb o e=>?_,os,bare⟩
    cases q:H b with
    | none=>exact un.keep b o e q (by intro z;exact absurd (show b∈([]:List Addr)from z) (by simp)) (by simp)
    | some u=>
     rcases hO b with z|⟨ob,xs,z⟩
     ·rw[q]at z;cases z
     ·have z2:=un.frzs b ob _ z
      obtain⟨e1,_⟩:=hok b _ z
      obtain⟨e2,_⟩:=hok' b _ z2
      rw[e]at e1;cases e1
      exact e2
 cases hk:K.lookup a with
 | some o=>
  -- the script is one of the module's own objects
  have e:=KX a o hk
  rw[ha]at e
  cases e
  refine core (λ_=>none) (λ_=>.inl rfl) (.inr ⟨_,vs.toArray,_,hk,rfl,rfl,rfl,by rw[zau,lenV];exact hl,by simpa using rv⟩) (λb u z=>by have z':(none:Option HO)=some u:=z;cases z') (λb z=>absurd rfl z) λz=>absurd rfl z
 | none=>
  refine core (λb=>if b=a then some (.frz {cls:=.type "list",data:=.seq vs.toArray} (.lst (ns.map V.int)))else none) (λb=>?_) (.inl (.inr ⟨{cls:=.type "list",data:=.seq vs.toArray},if_pos rfl⟩)) (λb u z=>?_) (λb z=>?_) λ_=>hk
  ·by_cases hb:b=a
   ·exact .inr ⟨_,_,if_pos hb⟩
   ·exact .inl (if_neg hb)
  ·by_cases hb:b=a
   ·have z':=(if_pos hb).symm.trans z
    cases z'
    subst hb
    exact⟨ha,by rw[zan];exact hl,vs,_,rv,ha⟩
   ·have z':=(if_neg hb).symm.trans z
    cases z'
  ·by_cases hb:b=a
   ·exact hb
   ·exact absurd (if_neg hb) z
theorem qnT{l:PySem.W.OpenLaw}{n k:Nat}{q:zai}{loose:List Str}{XP:(Str->Option Value)->Heap->Prop}{YP:World->Heap->Prop}{d:DefRec}{K:Params->zae}{CX:World->CXT}{sp:World->Sp}{x:Str}
  (hn:l.most=some n) (hn2:n<=zaj) (hdf:d.params.defaults=[]) (hr:Room k callerA)
  (hY:∀(w:World) (h:Heap),YP w h->(K w.params).In h)
  (F:∀(w:World) (mg:Str -> Option Value) (fa:Addr) (h:Heap), (K w.params).In h -> h.Ns zaR mg -> mg d.name = some (.ref fa) ->
   ∃fd:FuncData,(∀(s:Shared) (u:Value),BindsTo s fd ⟨[u],[]⟩ [(x,u)]) /\
    ∀base:Heap,(K w.params).In base->base.Ns zaR mg->FnOk l.prog w (K w.params) mg base (CX w) k fa fd [x] (sp w))
  (hsp:∀(w:World) (H:Hp) (a:Addr) (ns:List Int),ns.length<=n->Only H->SqL (K w.params) H a (ns.map V.int)->sp w [.ref a] H (λv _=>v=.bl true) λ_ _ _=>False)
  (hCX:∀(w:World) (H:Hp) (s:Shared) (e:Value) (s':Shared),CX w [] H s (λ_ _ _=>False) e s'->False) :
  PySem.W.WalkO q loose XP YP l.row.toRowW d [] (λf vs=>PySem.call f vs):=by
 refine Att.qfX hn hdf λw s₀ s₁ mg mb fa o pm cd doc a vs ns G Y ho hd hcd hmg hobj hints hlen hg=>?_
 have KX:=hY w _ Y
 obtain⟨fd,hb,hF⟩:=F w mg fa _ KX G.T.g hmg
 exact qkN KX G.T.g G.T.b G.T.builtins G.T.nolimit hg hobj hints (zaY hlen hn2) hr hF hb (λH hO hS=>hsp w H a ns hlen hO hS) λH e s'=>hCX w H s₁ e s'
noncomputable def qay(s:Stmt):Arguments:=match s with
 | .FunctionDef _ a _ _ _ _ _ _ _ _=>a
 | _=>{posonlyargs:=[],args:=[],vararg:=none,kwonlyargs:=[],kw_defaults:=[],kwarg:=none,defaults:=[]}
noncomputable def qaa(s:Stmt):List Stmt:=match s with
 | .FunctionDef _ _ b _ _ _ _ _ _ _=>b
 | _=>[]
noncomputable def qt(s:Stmt):Scope:=match s with
 | .FunctionDef _ _ _ _ _ _ sc _ _ _=>sc
 | _=>{kind:=.function,names:=[],isGenerator:=false,isCoroutine:=false}
noncomputable abbrev CX0:CXT:=λ_ _ _ _ _ _=>False
noncomputable abbrev E0:XK:=λ_ _ _=>False
theorem qqV{X:Cx}:qjV CX0 X E0:=λ_ _ _ _ _ _ _ h=>h.elim
structure Fun(K:zae)(x qual:Str)(st:Stmt)(f:Addr)(fd:FuncData):Prop where
 ex:∃(oc:Value) (od:Option Addr) (kV doc pm:Value) (an:Option Addr) (cdv ct:Value) (osl:Array (Option Value)),
  fd=zbj x qual (qay st) (qaa st) (qt st) .none kV doc pm an cdv ct/\K.lookup f=some ⟨oc,od,.func fd,osl⟩/\PySem.W.codeIn K cdv qual=true
 kp:zbL K (.ref f)=true
section
variable {P:zai}{w:World}{K:zae}{mg:Str->Option Value}{base:Heap}
theorem Fun.ok{x qual:Str}{st:Stmt}{f:Addr}{fd:FuncData}{N ps:List Str}{k:Nat}{sp:Sp}(F:Fun K x qual st f fd)(S:FnScope N ps (qt st))(len:∀vs H Q E,sp vs H Q E->vs.length=ps.length)
  (hbody:∀(cdv:Value) (A:Around) (outer:List Env) (s:Shared) (H:Hp) (vs:List V) (Q:VK) (E:XK), Room k (A.deeper (envOfC qual (qt st) s.heap.objs.size f cdv)) -> sp vs H Q E ->
   ∃t,PSs (cxOf CX0 P w K mg base N qual (qt st) f cdv A outer s H E).nox (qaa st) t/\t {nx:=λ_ H'=>Q .non H',rt:=Q} (start N vs) H):FnOk P w K mg base CX0 (k+1) f fd ps sp:=by
 obtain⟨oc,od,kV,doc,pm,an,cdv,ct,osl,rfl,lk,hcd⟩:=F.ex
 refine qqD lk hcd S len λA outer s H vs Q E hr hsp=>?_
 obtain⟨t,h,q⟩:=hbody cdv A outer s H vs Q E hr hsp
 exact⟨t,h.nox,q⟩
theorem Fun.binds{x qual:Str}{st:Stmt}{f:Addr}{fd:FuncData}{ps:List Str}(F:Fun K x qual st f fd)
  (h:∀(kV doc pm:Value) (an:Option Addr) (cdv ct:Value) (us:List Value),us.length=ps.length->bindArgs (zbj x qual (qay st) (qaa st) (qt st) .none kV doc pm an cdv ct) ⟨us,[]⟩=pure (ps.zip us)):Binds K fd ps []:=by
 obtain⟨oc,od,kV,doc,pm,an,cdv,ct,osl,rfl,lk,hcd⟩:=F.ex
 exact .all (h kV doc pm an cdv ct)
theorem qlS{x qual:Str}{st:Stmt}{f:Addr}{oc:Value}{od an:Option Addr}{osl:Array (Option Value)}{kV doc pm cdv ct:Value}(l:K.lookup f=some ⟨oc,od,.func (zbj x qual (qay st) (qaa st) (qt st) .none kV doc pm an cdv ct),osl⟩)
  (c:PySem.W.codeIn K cdv qual=true) (k:zbL K (.ref f)=true):Fun K x qual st f (zbj x qual (qay st) (qaa st) (qt st) .none kV doc pm an cdv ct):=⟨⟨oc,od,kV,doc,pm,an,cdv,ct,osl,rfl,l,c⟩,k⟩
end
theorem qoz{A:Around}{k:Nat}(hr:Room k A):A.units+1<cLine:=Nat.lt_of_le_of_lt (Nat.add_le_add_left (by decide:1<=64) _) hr.units
section
variable {X:Cx}
theorem pv(i:Nat){x:Str}{pos:Pos}(hN:X.N[i]?=some x:=by rfl)(hv:Vis X.env.scope x:=by first|exact Or.inl rfl|exact Or.inr (Or.inl rfl)|exact Or.inr (Or.inr rfl))(hd:(x == ("__debug__" : Str))=false:=by decide)
  (hcd:(x == ("__classdict__" : Str))=false:=by decide):PE X (.Name x pos) (tVar i):=qoL hN hv hd hcd
end
theorem iteF{A B:Prop}(h:B):if false=true then A else B:=by
 rw[if_neg zaq]
 exact h
theorem iteT{A B:Prop}(h:A):if true=true then A else B:=by
 rw[if_pos rfl]
 exact h
noncomputable def Same(H H':Hp):Prop:=∀b o,H b=some o->H' b=some o
theorem Same.trans{H H1 H2:Hp}(a:Same H H1)(b:Same H1 H2):Same H H2:=λc o h=>b c o (a c o h)
theorem Same.free{H H':Hp}(e:Same H H'){l:Addr}(h:H' l=Option.none):H l=Option.none:=by
 cases q:H l with
 | none=>rfl
 | some o=>
  rw[e l o q]at h
  cases h
theorem Same.seq{K:zae}{H H':Hp}{a:Addr}{xs:List V}(e:Same H H')(h:SqL K H a xs):SqL K H' a xs:=by
 rcases h with(h|⟨o,h⟩)|h
 ·exact .inl (.inl (e _ _ h))
 ·exact .inl (.inr ⟨o,e _ _ h⟩)
 ·exact .inr h
section
variable {X:Cx}
end
section
variable {κ:Type}[DecidableEq κ]
theorem qiu:∀ {l:List κ} {k:κ},l.Nodup->¬ k∈l->(l++[k]).Nodup
 | [],k,_,_=>by simp
 | a::r,k,h,hk=>by
  obtain⟨h1,h2⟩:=List.nodup_cons.mp h
  show(a::(r++[k])).Nodup
  refine List.nodup_cons.mpr ⟨λm=>?_,qiu h2 λm=>hk (List.mem_cons.mpr (Or.inr m))⟩
  rcases List.mem_append.mp m with q|q
  ·exact h1 q
  ·exact hk (List.mem_cons.mpr (Or.inl (List.mem_singleton.mp q).symm))
end
end L2
set_option maxHeartbeats 4000000
namespace My
open PySem PySem.Spec PyProof.Rows L2
noncomputable def CBig(i j:Int):Prop:=(-(10^250)<i/\i<10^250)/\-(10^250)<j/\j<10^250
section
variable {X:Cx}
noncomputable def rIsi(K:zae):List V->Hp->VK->Prop:=λxs H Q=>∃x n t b,xs=[x,.ty n]/\TyOf K H x t/\PySem.W.kitOne K t (.type n)=some b/\Q (.bl b) H
theorem qk5:CallR X (.builtin "isinstance") (rIsi X.K):=by
 intro pins s σ H xs us Q I r h
 obtain⟨x,n,t,b,rfl,ty,e,q⟩:=h
 obtain⟨u,u',rfl,r1,r2⟩:=vals2 r
 cases r2
 exact qiC I r1 ty e λtk=>⟨.bl b,H,I.tok tk,rfl,q⟩
end
structure Ok(P:zai)(w:World)(K:zae)(mg:Str->Option Value)(base:Heap)(x:Str)(k:Nat)(ps:List Str)(sp:Sp):Prop where
 ex:∃f fd,zbL K (.ref f)=true/\Binds K fd ps []/\mg x=some (.ref f)/\FnOk P w K mg base CX0 k f fd ps sp
structure DefAt(K:zae)(mg:Str->Option Value)(x:Str)(st:Stmt)(ps:List Str):Prop where
 ex:∃f fd,Fun K x x st f fd/\Binds K fd ps []/\mg x=some (.ref f)
noncomputable def qp1(sp:Sp)(t:TA):TE:=λσ H Q=>t σ H λvs H1=>sp vs H1 Q E0
section
variable {X:Cx}{x:Str}{k:Nat}{ps:List Str}{sp:Sp}{e:Expr}{es:List Expr}{t:TA}{p pos:Pos}
theorem qkj(O:Ok X.prog X.w X.K X.mg X.base x k ps sp)(hr:Room k X.A)(hg:Gl X x)(ha:PA X (e::es) t)(hdb:(x == ("__debug__" : Str))=false:=by decide)
  (he:zaf (e::es) X.env=(false,eval e X.env)::zaf es X.env:=by rfl) (hpl:(backTo pos (zaf es X.env)).any (·.1)=false:=by rfl) :
  PE X (.Call (.Name x p) (e::es) [] pos) (qp1 sp t):=by
 obtain⟨f,fd,hk,hb,hm,F⟩:=O.ex
 have h:=qnu (p:=p) (pos:=pos) F hr hg hm hk hb .nil qqV ha hdb he hpl
 intro pins s σ H Q I hw
 refine h pins s σ H Q I ?_
 have e:(λ(vs:List V) (H1:Hp)=>sp (vs++[]) H1 Q E0)=λvs H1=>sp vs H1 Q E0:=by
  funext vs H1
  rw[List.append_nil]
 show t σ H λvs H1=>sp (vs++[]) H1 Q E0
 rw[e]
 exact hw
end
section
variable {P:zai}{w:World}{K:zae}{mg:Str->Option Value}{base:Heap}
noncomputable def BodyOk(P:zai)(w:World)(K:zae)(mg:Str->Option Value)(base:Heap)(x:Str)(st:Stmt)(N:List Str)(k:Nat)(sp:Sp):Prop:=
 ∀(f:Addr) (cdv:Value) (A:Around) (outer:List Env) (s:Shared) (H:Hp) (vs:List V) (Q:VK) (E:XK),Room k (A.deeper (envOfC x (qt st) s.heap.objs.size f cdv))->sp vs H Q E->
   ∃t,PSs (cxOf CX0 P w K mg base N x (qt st) f cdv A outer s H E).nox (qaa st) t/\t {nx:=λ_ H'=>Q .non H',rt:=Q} (start N vs) H
theorem BodyOk.fn{x:Str}{st:Stmt}{N ps:List Str}{k:Nat}{sp:Sp}{f:Addr}{fd:FuncData}(hbody:BodyOk P w K mg base x st N k sp)(F:Fun K x x st f fd)(S:FnScope N ps (qt st))(len:∀vs H Q E,sp vs H Q E->vs.length=ps.length) :
  FnOk P w K mg base CX0 (k+1) f fd ps sp:=F.ok S len λcdv A outer s H vs Q E hr h=>hbody f cdv A outer s H vs Q E hr h
theorem BodyOk.ok{x:Str}{st:Stmt}{N ps:List Str}{k:Nat}{sp:Sp}(hbody:BodyOk P w K mg base x st N k sp)(D:DefAt K mg x st ps)(S:FnScope N ps (qt st))(len:∀vs H Q E,sp vs H Q E->vs.length=ps.length) :
  Ok P w K mg base x (k+1) ps sp:=by
 obtain⟨f,fd,F,B,hm⟩:=D.ex
 exact⟨f,fd,F.kp,B,hm,hbody.fn F S len⟩
theorem Ok.mono{x:Str}{j k:Nat}{ps:List Str}{sp:Sp}(O:Ok P w K mg base x j ps sp)(h:j<=k):Ok P w K mg base x k ps sp:=by
 obtain⟨f,fd,hk,hb,hm,F⟩:=O.ex
 exact⟨f,fd,hk,hb,hm,F.mono h⟩
end
noncomputable def qif(K:zae):Sp:=λvs H Q _=>∃(a:Addr) (ns:List Int),vs=[.ref a]/\SqL K H a (ns.map V.int)/\ns.length<=63/\∀H',Q (.bl true) H'
theorem walk{l:PySem.W.OpenLaw}{q:zai}{loose:List Str}{XP:(Str->Option Value)->Heap->Prop}{YP:World->Heap->Prop}{d:DefRec}{K:Params->zae}{k:Nat}(hk:k<=100)(hn:l.most=some 63)(hdf:d.params.defaults=[])
  (hY:∀(w:World) (h:Heap),YP w h->(K w.params).In h)
  (F:∀(w:World) (mg:Str -> Option Value) (fa:Addr) (h:Heap), (K w.params).In h -> h.Ns zaR mg -> mg d.name = some (.ref fa) ->
   ∃fd:FuncData,(∀(s:Shared) (u:Value),BindsTo s fd ⟨[u],[]⟩ [("script",u)])/\∀base:Heap,(K w.params).In base->base.Ns zaR mg->FnOk l.prog w (K w.params) mg base CX0 k fa fd ["script"] (qif (K w.params))) :
  PySem.W.WalkO q loose XP YP l.row.toRowW d [] (λf vs=>PySem.call f vs):=
 L2.qnT (n:=63) (k:=k) (x := "script") (CX:=λ_=>CX0) (sp:=λw=>qif (K w.params)) hn (by decide) hdf (Room.mono (k:=100) ⟨rfl,by decide,by decide⟩ hk) hY F (λ_ _ a ns hl _ hS=>⟨a,ns,rfl,hS,hl,λ_=>rfl⟩) λ_ _ _ _ _ z=>z
theorem qg2{H:Hp}{p:Addr}{o:HO}(h:H p=none):Same H (upd H p o):=λb u e=>by
 rw[qi (qy e h)]
 exact e
theorem Same.tupR{K:zae}{H H':Hp}{a:Addr}{xs:List V}(e:Same H H')(h:SqT K H a xs):SqT K H' a xs:=by
 rcases h with(h|⟨o,h⟩)|h
 ·exact .inl (.inl (e _ _ h))
 ·exact .inl (.inr ⟨o,e _ _ h⟩)
 ·exact .inr h
theorem boot_len:zaE "len" = some (.builtin "len"):=by decide +kernel
theorem boot_max:zaE "max" = some (.builtin "max"):=by decide +kernel
theorem boot_min:zaE "min" = some (.builtin "min"):=by decide +kernel
theorem boot_isinstance:zaE "isinstance" = some (.builtin "isinstance"):=by decide +kernel
theorem boot_sorted:zaE "sorted" = some (.builtin "sorted"):=by decide +kernel
theorem boot_int:zaE "int" = some (.type "int"):=by decide +kernel
theorem boot_bool:zaE "bool" = some (.type "bool"):=by decide +kernel
theorem boot_tuple:zaE "tuple" = some (.type "tuple"):=by decide +kernel
theorem boot_list:zaE "list" = some (.type "list"):=by decide +kernel
theorem boot_dict:zaE "dict" = some (.type "dict"):=by decide +kernel
theorem boot_range:zaE "range" = some (.type "range"):=by decide +kernel
theorem boot_zip:zaE "zip" = some (.type "zip"):=by decide +kernel
theorem boot_all:zaE "all" = some (.builtin "all"):=by decide +kernel
end My
namespace My
open PySem PySem.Spec PyProof.Rows L2 PySem.SeqAt
inductive Dx where
 | non|bl (b:Bool)|int (i:Int)|str (x:Str)|tup (l:List Dx)|lst (l:List Dx)
mutual
noncomputable def Rep(K:zae)(H:Hp):Dx->V->Prop
 | .non,v=>v=.non
 | .bl b,v=>v=.bl b
 | .int i,v=>v=.int i
 | .str x,v=>v=.str x
 | .tup l,v=>∃a xs,v=.ref a/\SqT K H a xs/\RepL K H l xs
 | .lst l,v=>∃a xs,v=.ref a/\SqL K H a xs/\RepL K H l xs
noncomputable def RepL(K:zae)(H:Hp):List Dx->List V->Prop
 | [],vs=>vs=[]
 | d::ds,vs=>∃x xs,vs=x::xs/\Rep K H d x/\RepL K H ds xs
end
section
variable {K:zae}{H H':Hp}
mutual
theorem Rep.same(e:Same H H'):∀(d:Dx) (v:V),Rep K H d v->Rep K H' d v
 | .non,v,h=>by rw[Rep]at h ⊢;exact h
 | .bl b,v,h=>by rw[Rep]at h ⊢;exact h
 | .int i,v,h=>by rw[Rep]at h ⊢;exact h
 | .str x,v,h=>by rw[Rep]at h ⊢;exact h
 | .tup l,v,h=>by
  rw[Rep]at h ⊢
  obtain⟨a,xs,e1,h1,h2⟩:=h
  exact⟨a,xs,e1,Same.tupR e h1,RepL.same e l xs h2⟩
 | .lst l,v,h=>by
  rw[Rep]at h ⊢
  obtain⟨a,xs,e1,h1,h2⟩:=h
  exact⟨a,xs,e1,e.seq h1,RepL.same e l xs h2⟩
theorem RepL.same(e:Same H H'):∀(ds:List Dx) (vs:List V),RepL K H ds vs->RepL K H' ds vs
 | [],vs,h=>by rw[RepL]at h ⊢;exact h
 | d::ds,vs,h=>by
  rw[RepL]at h ⊢
  obtain⟨x,xs,e1,h1,h2⟩:=h
  exact⟨x,xs,e1,Rep.same e d x h1,RepL.same e ds xs h2⟩
end
theorem RepL.nil:RepL K H [] []:=by rw[RepL]
theorem RepL.cons{d:Dx}{ds:List Dx}{v:V}{vs:List V}(h1:Rep K H d v)(h2:RepL K H ds vs):RepL K H (d::ds) (v::vs):=by
 rw[RepL]
 exact⟨v,vs,rfl,h1,h2⟩
theorem RepL.length:∀ {ds:List Dx} {vs:List V},RepL K H ds vs->vs.length=ds.length
 | [],vs,h=>by rw[RepL]at h;rw[h];rfl
 | d::ds,vs,h=>by
  rw[RepL]at h
  obtain⟨x,xs,rfl,_,h2⟩:=h
  rw[zaT,zaT,RepL.length h2]
theorem RepL.get':∀ {ds:List Dx} {vs:List V} {i:Nat} {d:Dx},RepL K H ds vs->ds[i]?=some d->∃v,vs[i]?=some v/\Rep K H d v
 | [],vs,i,d,h,e=>by simp at e
 | d'::ds,vs,i,d,h,e=>by
  rw[RepL]at h
  obtain⟨x,xs,rfl,h1,h2⟩:=h
  cases i with
  | zero=>simp at e;subst e;exact⟨x,rfl,h1⟩
  | succ i=>exact RepL.get' (i:=i) (ds:=ds) h2 (by simpa using e)
mutual
noncomputable def Dx.dep:Dx->Nat
 | .tup l=>depL l+1
 | .lst l=>depL l+1
 | .non=>0
 | .bl _=>0
 | .int _=>0
 | .str _=>0
noncomputable def depL:List Dx->Nat
 | []=>0
 | d::ds=>max d.dep (depL ds)
end
mutual
noncomputable def Dx.nb:Dx->Bool
 | .bl _=>false
 | .tup l=>nbL l
 | .lst l=>nbL l
 | .non=>true
 | .int _=>true
 | .str _=>true
noncomputable def nbL:List Dx->Bool
 | []=>true
 | d::ds=>d.nb && nbL ds
end
theorem qjy:∀ {ds:List Dx} {i:Nat} {d:Dx},ds[i]?=some d->d.dep<=depL ds
 | [],i,d,e=>by simp at e
 | d'::ds,0,d,e=>by simp at e;subst e;rw[depL];omega
 | d'::ds,i+1,d,e=>by
  have:=qjy (ds:=ds) (i:=i) (by simpa using e)
  rw[depL];omega
theorem qii:∀ {ds:List Dx} {i:Nat} {d:Dx},nbL ds=true->ds[i]?=some d->d.nb=true
 | [],i,d,_,e=>by simp at e
 | d'::ds,0,d,h,e=>by simp at e;subst e;rw[nbL,zaC]at h;exact h.1
 | d'::ds,i+1,d,h,e=>by
  rw[nbL,zaC]at h
  exact qii h.2 (by simpa using e)
end
section
variable {X:Cx}{pins:List (Addr×Obj)}{σ:L2.St}{H:Hp}{s:Shared}
theorem qix(I:Inv X pins σ H s){a:Addr}{xs ys:List V}(h1:SqL X.K H a xs)(h2:SqT X.K H a ys):False:=by
 obtain⟨its,_,⟨o,n,e,c,_⟩,_⟩:=I.list h1
 obtain⟨its',_,⟨o',e',c',_⟩,_⟩:=I.tuple h2
 rw[e]at e'
 cases e'
 rw[c]at c'
 exact absurd c' (by decide)
mutual
theorem Rep.inj(I:Inv X pins σ H s):∀(d e:Dx) (v:V),Rep X.K H d v->Rep X.K H e v->d=e
 | .non,e,v,h,h'=>by
  rw[Rep]at h;subst h
  cases e <;> (rw[Rep]at h') <;> first|rfl|(cases h';done)|(obtain⟨_,_,z,_⟩:=h';cases z)
 | .bl b,e,v,h,h'=>by
  rw[Rep]at h;subst h
  cases e <;> (rw[Rep]at h') <;> first|(cases h';rfl)|(cases h';done)|(obtain⟨_,_,z,_⟩:=h';cases z)
 | .int i,e,v,h,h'=>by
  rw[Rep]at h;subst h
  cases e <;> (rw[Rep]at h') <;> first|(cases h';rfl)|(cases h';done)|(obtain⟨_,_,z,_⟩:=h';cases z)
 | .str x,e,v,h,h'=>by
  rw[Rep]at h;subst h
  cases e <;> (rw[Rep]at h') <;> first|(cases h';rfl)|(cases h';done)|(obtain⟨_,_,z,_⟩:=h';cases z)
 | .tup l,e,v,h,h'=>by
  rw[Rep]at h
  obtain⟨a,xs,rfl,h1,h2⟩:=h
  cases e with
  | tup m=>
   rw[Rep]at h'
   obtain⟨b,ys,e1,h3,h4⟩:=h'
   cases e1
   have e2:=I.tuple_inj h1 h3
   subst e2
   rw[RepL.inj I l m xs h2 h4]
  | lst m=>
   rw[Rep]at h'
   obtain⟨b,ys,e1,h3,h4⟩:=h'
   cases e1
   exact(qix I h3 h1).elim
  | non=>rw[Rep]at h';cases h'
  | bl b=>rw[Rep]at h';cases h'
  | int i=>rw[Rep]at h';cases h'
  | str x=>rw[Rep]at h';cases h'
 | .lst l,e,v,h,h'=>by
  rw[Rep]at h
  obtain⟨a,xs,rfl,h1,h2⟩:=h
  cases e with
  | lst m=>
   rw[Rep]at h'
   obtain⟨b,ys,e1,h3,h4⟩:=h'
   cases e1
   have e2:=I.list_inj h1 h3
   subst e2
   rw[RepL.inj I l m xs h2 h4]
  | tup m=>
   rw[Rep]at h'
   obtain⟨b,ys,e1,h3,h4⟩:=h'
   cases e1
   exact(qix I h1 h3).elim
  | non=>rw[Rep]at h';cases h'
  | bl b=>rw[Rep]at h';cases h'
  | int i=>rw[Rep]at h';cases h'
  | str x=>rw[Rep]at h';cases h'
theorem RepL.inj(I:Inv X pins σ H s):∀(ds es:List Dx) (vs:List V),RepL X.K H ds vs->RepL X.K H es vs->ds=es
 | [],es,vs,h,h'=>by
  rw[RepL]at h;subst h
  cases es with
  | nil=>rfl
  | cons e es=>rw[RepL]at h';obtain⟨_,_,z,_⟩:=h';cases z
 | d::ds,es,vs,h,h'=>by
  rw[RepL]at h
  obtain⟨x,xs,rfl,h1,h2⟩:=h
  cases es with
  | nil=>rw[RepL]at h';cases h'
  | cons e es=>
   rw[RepL]at h'
   obtain⟨_,_,z,h3,h4⟩:=h'
   cases z
   rw[Rep.inj I d e x h1 h3,RepL.inj I ds es xs h2 h4]
end
end
open Classical in
theorem qgy:∀(ds es:List Dx),((zav (min ds.length es.length)).all (λj=>decide (ds.getD j .non=es.getD j .non)) && ds.length == es.length)=decide (ds=es):=by
 intro ds es
 by_cases h:ds=es
 ·subst h
  simp
 ·rw[decide_eq_false h]
  by_cases hl:ds.length=es.length
  ·simp only[hl,Nat.min_self,beq_self_eq_true,Bool.and_true]
   rw[Bool.eq_false_iff]
   intro ha
   rw[zbW]at ha
   refine h (List.ext_getElem hl λi h1 h2=>?_)
   have:=of_decide_eq_true (ha i (List.mem_range.mpr h2))
   simpa[List.getD,h1,h2]using this
  ·have:(ds.length == es.length)=false:=by simpa using hl
   rw[this,Bool.and_false]
open Classical in
theorem qgJ(ds es:List Dx)(h:ds.length=es.length):((zav ds.length).all (λj=>decide (ds.getD j .non=es.getD j .non)))=decide (ds=es):=by
 have:=qgy ds es
 rw[h,Nat.min_self,beq_self_eq_true,Bool.and_true]at this
 rw[h]
 exact this
section
variable {X:Cx}{pins:List (Addr×Obj)}{σ:L2.St}{H:Hp}{s:Shared}
theorem EqAt.to{A:Around}{s:Shared}{u v:Value}{b c:Bool}(h:EqAt A s u v b)(e:b=c):EqAt A s u v c:=e ▸ h
open Classical in
theorem qct(I:Inv X pins σ H s){n:Nat}(ih:∀(A:Around) (d e:Dx) (x y:V) (u v:Value),d.dep<=n->A.units+n<cLine->d.nb=true->e.nb=true->Rep X.K H d x->Rep X.K H e y->RelV x u->RelV y v->EqAt A s u v (decide (d=e)))
  {A:Around} {ds es:List Dx} {xs ys:List V} {us vs:List Value} (hd:depL ds<=n) (hu:A.units+(n+1)<cLine) (h1:nbL ds=true) (h2:nbL es=true) (r1:RepL X.K H ds xs) (r2:RepL X.K H es ys) (v1:Vals xs us) (v2:Vals ys vs) :
  ∀j (h1:j<us.toArray.size) (h2:j<vs.toArray.size),EqAt A.in1 s us.toArray[j] vs.toArray[j] (decide (ds.getD j .non=es.getD j .non)):=by
 intro j j1 j2
 have l1:=r1.length
 have l2:=r2.length
 have l3:=v1.length
 have l4:=v2.length
 have k1:j<us.length:=by simpa using j1
 have k2:j<vs.length:=by simpa using j2
 have a1:ds[j]?=some (ds.getD j .non):=by simp[List.getD,show j<ds.length by omega]
 have a2:es[j]?=some (es.getD j .non):=by simp[List.getD,show j<es.length by omega]
 obtain⟨x,ex,rx⟩:=r1.get' a1
 obtain⟨y,ey,ry⟩:=r2.get' a2
 obtain⟨u,eu,ru⟩:=v1.get ex
 obtain⟨v,ev,rv⟩:=v2.get ey
 have b1:us.toArray[j]=u:=by
  rw[zaO k1]at eu
  simpa using zaA eu
 have b2:vs.toArray[j]=v:=by
  rw[zaO k2]at ev
  simpa using zaA ev
 rw[b1,b2]
 exact ih A.in1 _ _ x y u v (zaY (qjy a1) hd) (by show A.units+1+n<cLine;omega) (qii h1 a1) (qii h2 a2) rx ry ru rv
end
section
variable {X:Cx}{pins:List (Addr×Obj)}{σ:L2.St}{H:Hp}{s:Shared}
theorem PlainL.isList{h:Heap}{a:Addr}{its:Array Value}(p:PlainL h a its):h.IsList a its:=by
 obtain⟨o,n,e,c,_,d⟩:=p
 exact⟨o,e,c,n,d⟩
open Classical in
theorem qfK(I:Inv X pins σ H s) :
  ∀(n:Nat) (A:Around) (d e:Dx) (x y:V) (u v:Value),d.dep<=n->A.units+n<cLine->d.nb=true->e.nb=true->Rep X.K H d x->Rep X.K H e y->RelV x u->RelV y v->EqAt A s u v (decide (d=e)):=by
 intro n
 induction n with
 | zero=>
  intro A d e x y u v hd hu n1 n2 r1 r2 ru rv
  have hu':A.units<cLine:=by omega
  cases d with
  | bl b=>rw[Dx.nb]at n1;cases n1
  | tup l=>rw[Dx.dep]at hd;omega
  | lst l=>rw[Dx.dep]at hd;omega
  | non=>
   rw[Rep]at r1;subst r1;cases ru
   cases e with
   | bl b=>rw[Dx.nb]at n2;cases n2
   | non=>rw[Rep]at r2;subst r2;cases rv;exact EqAt.to (EqAt.same _) (by simp)
   | int i=>rw[Rep]at r2;subst r2;obtain⟨t,rfl⟩:=rv;exact EqAt.to (EqAt.none_int _ _) (by simp)
   | str i=>rw[Rep]at r2;subst r2;obtain⟨t,rfl⟩:=rv;exact EqAt.to (EqAt.none_str _ _) (by simp)
   | tup l=>
    rw[Rep]at r2;obtain⟨a,xs,rfl,h1,_⟩:=r2;cases rv
    obtain⟨its,_,ht,_⟩:=I.tuple h1
    exact EqAt.to (EqAt.none_tuple ht hu') (by simp)
   | lst l=>
    rw[Rep]at r2;obtain⟨a,xs,rfl,h1,_⟩:=r2;cases rv
    obtain⟨its,_,ht,_⟩:=I.list h1
    exact EqAt.to (EqAt.none_list ht.isList hu') (by simp)
  | int i=>
   rw[Rep]at r1;subst r1;obtain⟨t,rfl⟩:=ru
   cases e with
   | bl b=>rw[Dx.nb]at n2;cases n2
   | non=>rw[Rep]at r2;subst r2;cases rv;exact EqAt.to (EqAt.int_none _ _) (by simp)
   | int j=>rw[Rep]at r2;subst r2;obtain⟨t',rfl⟩:=rv;exact EqAt.to (EqAt.int_int _ _ _ _) (by simp[Bool.beq_eq_decide_eq])
   | str j=>rw[Rep]at r2;subst r2;obtain⟨t',rfl⟩:=rv;exact EqAt.to (EqAt.int_str _ _ _ _) (by simp)
   | tup l=>
    rw[Rep]at r2;obtain⟨a,xs,rfl,h1,_⟩:=r2;cases rv
    obtain⟨its,_,ht,_⟩:=I.tuple h1
    exact EqAt.to (EqAt.int_tuple _ _ ht hu') (by simp)
   | lst l=>
    rw[Rep]at r2;obtain⟨a,xs,rfl,h1,_⟩:=r2;cases rv
    obtain⟨its,_,ht,_⟩:=I.list h1
    exact EqAt.to (EqAt.int_list _ _ ht.isList hu') (by simp)
  | str i=>
   rw[Rep]at r1;subst r1;obtain⟨t,rfl⟩:=ru
   cases e with
   | bl b=>rw[Dx.nb]at n2;cases n2
   | non=>rw[Rep]at r2;subst r2;cases rv;exact EqAt.to (EqAt.str_none _ _) (by simp)
   | int j=>rw[Rep]at r2;subst r2;obtain⟨t',rfl⟩:=rv;exact EqAt.to (EqAt.str_int _ _ _ _) (by simp)
   | str j=>rw[Rep]at r2;subst r2;obtain⟨t',rfl⟩:=rv;exact EqAt.to (EqAt.str_str _ _ _ _) (by simp[Bool.beq_eq_decide_eq])
   | tup l=>
    rw[Rep]at r2;obtain⟨a,xs,rfl,h1,_⟩:=r2;cases rv
    obtain⟨its,_,ht,_⟩:=I.tuple h1
    exact EqAt.to (EqAt.str_tuple _ _ ht hu') (by simp)
   | lst l=>
    rw[Rep]at r2;obtain⟨a,xs,rfl,h1,_⟩:=r2;cases rv
    obtain⟨its,_,ht,_⟩:=I.list h1
    exact EqAt.to (EqAt.str_list _ _ ht.isList hu') (by simp)
 | succ n ih=>
  intro A d e x y u v hd hu n1 n2 r1 r2 ru rv
  have hu':A.units<cLine:=by omega
  cases d with
  | bl b=>rw[Dx.nb]at n1;cases n1
  | non=>exact ih A _ e x y u v (by rw[Dx.dep];omega) (by omega) n1 n2 r1 r2 ru rv
  | int i=>exact ih A _ e x y u v (by rw[Dx.dep];omega) (by omega) n1 n2 r1 r2 ru rv
  | str i=>exact ih A _ e x y u v (by rw[Dx.dep];omega) (by omega) n1 n2 r1 r2 ru rv
  | tup l=>
   have r1':=r1
   rw[Rep]at r1;obtain⟨a,xs,rfl,h1,q1⟩:=r1;cases ru
   obtain⟨its,v1,ht,_⟩:=I.tuple h1
   cases e with
   | bl b=>rw[Dx.nb]at n2;cases n2
   | non=>rw[Rep]at r2;subst r2;cases rv;exact EqAt.to (EqAt.tuple_none ht hu') (by simp)
   | int j=>rw[Rep]at r2;subst r2;obtain⟨t',rfl⟩:=rv;exact EqAt.to (EqAt.tuple_int _ _ ht hu') (by simp)
   | str j=>rw[Rep]at r2;subst r2;obtain⟨t',rfl⟩:=rv;exact EqAt.to (EqAt.tuple_str _ _ ht hu') (by simp)
   | lst m=>
    rw[Rep]at r2;obtain⟨b,ys,rfl,h2,q2⟩:=r2;cases rv
    obtain⟨its2,v2,ht2,_⟩:=I.list h2
    exact EqAt.to (EqAt.tuple_list ht ht2.isList hu') (by simp)
   | tup m=>
    by_cases hv:v=zal a
    ·subst hv
     obtain rfl:y=V.ref a:=RelV.inj rv rfl
     have:=Rep.inj I _ _ _ r1' r2
     rw[this]
     exact EqAt.to (EqAt.same _) (by simp)
    ·rw[Rep]at r2;obtain⟨b,ys,rfl,h2,q2⟩:=r2;cases rv
     obtain⟨its2,v2,ht2,_⟩:=I.tuple h2
     rw[Dx.dep]at hd
     rw[Dx.nb]at n1 n2
     refine EqAt.to (EqAt.of_refs (λz=>hv (by rw[z])) (RcAt.tuples ht ht2 hu' (qct I ih (by omega) hu n1 n2 q1 q2 v1 v2))) ?_
     have e1:its.toArray.size=l.length:=by rw[zau,<- v1.length,q1.length]
     have e2:its2.toArray.size=m.length:=by rw[zau,<- v2.length,q2.length]
     rw[e1,e2,qgy]
     simp
  | lst l=>
   have r1':=r1
   rw[Rep]at r1;obtain⟨a,xs,rfl,h1,q1⟩:=r1;cases ru
   obtain⟨its,v1,ht,_⟩:=I.list h1
   cases e with
   | bl b=>rw[Dx.nb]at n2;cases n2
   | non=>rw[Rep]at r2;subst r2;cases rv;exact EqAt.to (EqAt.list_none ht.isList hu') (by simp)
   | int j=>rw[Rep]at r2;subst r2;obtain⟨t',rfl⟩:=rv;exact EqAt.to (EqAt.list_int _ _ ht.isList hu') (by simp)
   | str j=>rw[Rep]at r2;subst r2;obtain⟨t',rfl⟩:=rv;exact EqAt.to (EqAt.list_str _ _ ht.isList hu') (by simp)
   | tup m=>
    rw[Rep]at r2;obtain⟨b,ys,rfl,h2,q2⟩:=r2;cases rv
    obtain⟨its2,v2,ht2,_⟩:=I.tuple h2
    exact EqAt.to (EqAt.list_tuple ht.isList ht2 hu') (by simp)
   | lst m=>
    by_cases hv:v=zal a
    ·subst hv
     obtain rfl:y=V.ref a:=RelV.inj rv rfl
     have:=Rep.inj I _ _ _ r1' r2
     rw[this]
     exact EqAt.to (EqAt.same _) (by simp)
    ·rw[Rep]at r2;obtain⟨b,ys,rfl,h2,q2⟩:=r2;cases rv
     obtain⟨its2,v2,ht2,_⟩:=I.list h2
     rw[Dx.dep]at hd
     rw[Dx.nb]at n1 n2
     have e1:its.toArray.size=l.length:=by rw[zau,<- v1.length,q1.length]
     have e2:its2.toArray.size=m.length:=by rw[zau,<- v2.length,q2.length]
     by_cases hl:l.length=m.length
     ·refine EqAt.to (EqAt.of_refs (λz=>hv (by rw[z])) (RcAt.lists ht.isList ht2.isList (by rw[e1,e2,hl]) hu' (qct I ih (by omega) hu n1 n2 q1 q2 v1 v2))) ?_
      rw[e1,qgJ _ _ hl]
      simp
     ·refine EqAt.to (EqAt.of_refs (λz=>hv (by rw[z])) (RcAt.lists_lengths ht.isList ht2.isList (by rw[e1,e2];simpa using hl) hu')) ?_
      rw[decide_eq_false]
      intro z
      cases z
      exact hl rfl
end
noncomputable def Dx.seq:Dx->Bool
 | .tup _=>true | .lst _=>true | .non=>false | .bl _=>false | .int _=>false | .str _=>false
open Classical in
noncomputable def rEqD(K:zae)(neg:Bool):R2:=λx y H Q=>∃d e,Rep K H d x/\Rep K H e y/\d.seq=true/\e.seq=true/\d.nb=true/\e.nb=true/\d.dep<=60/\Q (.bl (if neg then !decide (d=e)else decide (d=e))) H
section
variable {X:Cx}{pins:List (Addr×Obj)}{σ:L2.St}{H:Hp}{s:Shared}
open Classical in
theorem qop(I:Inv X pins σ H s)(hu:X.A.units+64<cLine){d e:Dx}{x y:V}{u v:Value}(r1:Rep X.K H d x)(r2:Rep X.K H e y)(q1:d.seq=true)(q2:e.seq=true)(n1:d.nb=true)(n2:e.nb=true)(hd:d.dep<=60)(ru:RelV x u)(rv:RelV y v) :
  RcAt X.A s u v (decide (d=e))/\RcNeAt X.A s u v (!decide (d=e)):=by
 have hu':X.A.units<cLine:=by omega
 cases d with
 | bl b=>cases q1
 | non=>cases q1
 | int b=>cases q1
 | str b=>cases q1
 | tup l=>
  rw[Rep]at r1;obtain⟨a,xs,rfl,h1,k1⟩:=r1;cases ru
  obtain⟨its,v1,ht,_⟩:=I.tuple h1
  have e1:its.toArray.size=l.length:=by rw[zau,<- v1.length,k1.length]
  cases e with
  | bl b=>cases q2
  | non=>cases q2
  | int b=>cases q2
  | str b=>cases q2
  | tup m=>
   rw[Rep]at r2;obtain⟨b,ys,rfl,h2,k2⟩:=r2;cases rv
   obtain⟨its2,v2,ht2,_⟩:=I.tuple h2
   have e2:its2.toArray.size=m.length:=by rw[zau,<- v2.length,k2.length]
   rw[Dx.dep]at hd
   rw[Dx.nb]at n1 n2
   have he:=qct I (qfK I 60) (A:=X.A) (by omega) (by omega) n1 n2 k1 k2 v1 v2
   have a1:=RcAt.tuples ht ht2 hu' he
   have a2:=RcNeAt.tuples ht ht2 hu' he
   rw[e1,e2,qgy]at a1 a2
   have z:decide (Dx.tup l=Dx.tup m)=decide (l=m):=by simp
   rw[z]
   exact⟨a1,a2⟩
  | lst m=>
   rw[Rep]at r2;obtain⟨b,ys,rfl,h2,k2⟩:=r2;cases rv
   obtain⟨its2,v2,ht2,_⟩:=I.list h2
   have z:decide (Dx.tup l=Dx.lst m)=false:=by simp
   rw[z]
   exact⟨RcAt.tuple_list ht ht2.isList hu',RcNeAt.tuple_list ht ht2.isList hu'⟩
 | lst l=>
  rw[Rep]at r1;obtain⟨a,xs,rfl,h1,k1⟩:=r1;cases ru
  obtain⟨its,v1,ht,_⟩:=I.list h1
  have e1:its.toArray.size=l.length:=by rw[zau,<- v1.length,k1.length]
  cases e with
  | bl b=>cases q2
  | non=>cases q2
  | int b=>cases q2
  | str b=>cases q2
  | tup m=>
   rw[Rep]at r2;obtain⟨b,ys,rfl,h2,k2⟩:=r2;cases rv
   obtain⟨its2,v2,ht2,_⟩:=I.tuple h2
   have z:decide (Dx.lst l=Dx.tup m)=false:=by simp
   rw[z]
   exact⟨RcAt.list_tuple ht.isList ht2 hu',RcNeAt.list_tuple ht.isList ht2 hu'⟩
  | lst m=>
   rw[Rep]at r2;obtain⟨b,ys,rfl,h2,k2⟩:=r2;cases rv
   obtain⟨its2,v2,ht2,_⟩:=I.list h2
   have e2:its2.toArray.size=m.length:=by rw[zau,<- v2.length,k2.length]
   rw[Dx.dep]at hd
   rw[Dx.nb]at n1 n2
   have z:decide (Dx.lst l=Dx.lst m)=decide (l=m):=by simp
   rw[z]
   by_cases hl:l.length=m.length
   ·have he:=qct I (qfK I 60) (A:=X.A) (by omega) (by omega) n1 n2 k1 k2 v1 v2
    have a1:=RcAt.lists ht.isList ht2.isList (by rw[e1,e2,hl]) hu' he
    have a2:=RcNeAt.lists ht.isList ht2.isList (by rw[e1,e2,hl]) hu' he
    rw[e1,qgJ _ _ hl]at a1 a2
    exact⟨a1,a2⟩
   ·have z2:decide (l=m)=false:=decide_eq_false λz=>hl (by rw[z])
    rw[z2]
    exact⟨RcAt.lists_lengths ht.isList ht2.isList (by rw[e1,e2];simpa using hl) hu',RcNeAt.lists_lengths ht.isList ht2.isList (by rw[e1,e2];simpa using hl) hu'⟩
end
section
variable {X:Cx}
theorem qpH(hu:X.A.units+64<cLine):OpR X (zap .Eq) (rEqD X.K false):=by
 intro pins s σ H x y v u Q I rx ry h
 obtain⟨d,e,r1,r2,q1,q2,n1,n2,hd,q⟩:=h
 exact(qop I hu r1 r2 q1 q2 n1 n2 hd rx ry).1 X.prog X.w X.xe _ ⟨.bl _,H,I,rfl,q⟩
theorem qoU(hu:X.A.units+64<cLine):OpR X (zap .NotEq) (rEqD X.K true):=by
 intro pins s σ H x y v u Q I rx ry h
 obtain⟨d,e,r1,r2,q1,q2,n1,n2,hd,q⟩:=h
 exact(qop I hu r1 r2 q1 q2 n1 n2 hd rx ry).2 X.prog X.w X.xe _ ⟨.bl _,H,I,rfl,q⟩
end
noncomputable def ItrS(lo c:Int)(n:Nat):It:=⟨λi _=>i<n,λi H x H'=>H'=H/\x=.int (lo+i*c),λi _=>n<=i⟩
theorem qgj{P:zai}{w:World}{K:zae}{tg:Expr}(it:Addr)(lo c:Int)(n:Nat):Turn P w K tg (ItrS lo c n) [it] it (λi h=>IsRangeIter h it (lo+(i:Nat)*c) ((n:Int)-(i:Nat)) c) where
 mem:=by simp
 obj:=λi h st b hb=>by
  have e:b=it:=by simpa using hb
  subst e
  exact⟨_,st,λv z=>by
   have z':Data.fields _=Data.cell v:=z
   cases z'⟩
 keep:=λi h h' st k=>k it (by simp) _ st
 item:=by
  intro X hP hw hK hc i pins s σ H E I hf st hg
  subst hP hw hK
  obtain⟨f0,f1,f2,f3,f4,f5⟩:=hf it (by simp)
  have W:=Walks.range (prog:=X.prog) (w:=X.w) (I.ok.hd hc) it lo c n
  refine W.item i s _ _ hg st λv h' tk hv st' kk=>?_
  obtain⟨t,rfl⟩:=hv
  have I1:Inv X pins σ H {s with heap:=h',toks:=tk}:=I.turned (λb o hb e=>kk b o (by simpa using hb) e) f0 f1 f3 f4 f5
  exact⟨_,rfl,qgf (s:={s with heap:=h',toks:=tk}) (n := "range_iterator") st' rfl rfl (by decide) ⟨.int (lo+i*c),H,I1,⟨t,rfl⟩,⟨rfl,rfl⟩,st',λb hb=>(hf b hb).1⟩⟩
 done:=by
  intro X hP hw hK hc i pins s σ H E I hf st hg
  subst hP hw hK
  obtain⟨f0,f1,f2,f3,f4,f5⟩:=hf it (by simp)
  exact wpAny_pyNext_range_end (I.ok.hd hc) st (by have:n<=i:=hg;omega) λh' eb=>⟨rfl,I.turned (t':=s.toks) (λb o hb e=>eb b o hb e) f0 f1 f3 f4 f5⟩
 self:=λ_ _ _ _ _ st h=>wpAny_pyIter_rangeiter st h
noncomputable def rsz(a b c:Int):Nat:=(zbp a b c).toNat
theorem qpD(a b c:Int)(hc:c≠0):zbp a b c=(rsz a b c:Int):=by
 unfold rsz
 have:0<=zbp a b c:=by
  unfold zbp
  split
  ·rename_i h
   split
   ·have:=Int.ediv_nonneg (show 0<=b-a-1 by omega) (show 0<=c by omega)
    omega
   ·omega
  ·split
   ·have:=Int.ediv_nonneg (show 0<=a-b-1 by omega) (show 0<=-c by omega)
    omega
   ·omega
 omega
noncomputable def qqU(ta:TA):TI:=λσ H R=>ta σ H λvs H1=>∃i j c:Int,vs=[.int i,.int j,.int c]/\(c≠0/\c.natAbs<1000/\zbE i j c=true)/\R (ItrS i c (rsz i j c)) H1
theorem qir{X:Cx}{tg:Expr}{a b c:Expr}{ta:TA}{p pos:Pos}(hg:Gl X "range")(hm:X.mg "range" = none)(ha:PA X [a,b,c] ta)(hs:zaf [a,b,c] X.env=[(false,eval a X.env),(false,eval b X.env),(false,eval c X.env)]:=by rfl)(hs2:zaf [b,c] X.env=[(false,eval b X.env),(false,eval c X.env)]:=by rfl) :
  PI X tg (.Call (.Name "range" p) [a,b,c] [] pos) (qqU ta):=by
 intro pins s σ H R I h
 refine Call_ (qbs I hg hm My.boot_range (zbZ (thn (ha pos pins s σ H _ I h) λus s1 ⟨vs,H1,I1,r1,q1⟩=>?_) (by rw[hs,hs2]) (by rw[hs2];rfl)))
 obtain⟨i,j,c',e,⟨c0,c1,sm⟩,q⟩:=q1
 subst e
 cases r1 with
 | cons r rr=>
  cases rr with
  | cons r' rr=>
   cases rr with
   | cons r'' rr=>
    cases rr
    obtain⟨t,rfl⟩:=r
    obtain⟨t',rfl⟩:=r'
    obtain⟨t'',rfl⟩:=r''
    refine call_range_3 c0 ?_ (Or.inl (PyProof.noPylong_small (by omega)))
    refine wpAny_pyIter_range (IsRange.new ..) sm ?_
    have I2:Inv X pins σ H1 {s1 with heap:=s1.heap.push {cls:=.type "range",data:=.fields #[.int i t,.int j t',.int c' t'']},toks:=s1.toks}:=I1.kept λb o e=>zag _ e
    refine⟨(s1.heap.push {cls:=.type "range",data:=.fields #[.int i t,.int j t',.int c' t'']}).objs.size,[(s1.heap.push {cls:=.type "range",data:=.fields #[.int i t,.int j t',.int c' t'']}).objs.size],_,_,H1,rfl,
     I2.kept (t':=s1.toks) λb o e=>zag _ e,qgj _ i c' (rsz i j c'),?_,λb hb=>?_,q⟩
    ·show IsRangeIter _ _ (i+((0:Nat):Int)*c') (((rsz i j c':Nat):Int)-((0:Nat):Int)) c'
     rw[<- qpD i j c' c0]
     have e1:i+((0:Nat):Int)*c'=i:=by simp
     have e2:zbp i j c'-((0:Nat):Int)=zbp i j c':=by simp
     rw[e1,e2]
     exact zat _ rfl
    ·have e:b=(s1.heap.push {cls:=.type "range",data:=.fields #[.int i t,.int j t',.int c' t'']}).objs.size:=by simpa using hb
     subst e
     exact I2.fpOk (zam _) (I2.hok.fresh (zam _))
theorem qjl{a b c:Int}(hc:1<=c)(hc':c<=1000)(ha:-1000000<=a)(ha':a<=1000000)(hb:-1000000<=b)(hb':b<=1000000):zbE a b c=true:=by
 have h1:a<b->0<=(b-a-1)/c/\(b-a-1)/c<=b-a-1:=λh=>⟨Int.ediv_nonneg (by omega) (by omega),Int.ediv_le_self _ (by omega)⟩
 unfold zbE zbp
 simp only[Builtin.Range.rangeFitsLong,zaC,Bool.or_eq_true,decide_eq_true_eq,beq_iff_eq,show c>0 by omega,if_true]
 split
 ·rename_i h
  have:=h1 h
  generalize (b-a-1)/c=z at *
  omega
 ·omega
noncomputable def TSame(H H':Hp):Prop:=∀b xs,Rd H b (.tup xs)->Rd H' b (.tup xs)
theorem Same.t{H H':Hp}(e:Same H H'):TSame H H':=λb xs h=>by
 rcases h with h|⟨o,h⟩
 ·exact .inl (e _ _ h)
 ·exact .inr ⟨o,e _ _ h⟩
theorem TSame.trans{H H1 H2:Hp}(a:TSame H H1)(b:TSame H1 H2):TSame H H2:=λc o h=>b c o (a c o h)
theorem TSame.put{H:Hp}{l:Addr}{us:List V}{o:HO}(h:H l=some (.lst us)):TSame H (upd H l o):=λb xs hb=>by
 have ne:b≠l:=λz=>by
  subst z
  rcases hb with hb|⟨ob,hb⟩ <;> (rw[h]at hb;cases hb)
 rcases hb with hb|⟨ob,hb⟩
 ·exact .inl (by rw[qi ne];exact hb)
 ·exact .inr ⟨ob,by rw[qi ne];exact hb⟩
theorem TSame.sq{K:zae}{H H':Hp}{a:Addr}{xs:List V}(e:TSame H H')(h:SqT K H a xs):SqT K H' a xs:=by
 rcases h with h|h
 ·exact .inl (e _ _ h)
 ·exact .inr h
mutual
noncomputable def Dx.nl:Dx->Bool
 | .lst _=>false
 | .tup l=>nlL l
 | .non=>true
 | .bl _=>true
 | .int _=>true
 | .str _=>true
noncomputable def nlL:List Dx->Bool
 | []=>true
 | d::ds=>d.nl && nlL ds
end
section
variable {K:zae}{H H':Hp}
mutual
theorem Rep.tsame(e:TSame H H'):∀(d:Dx) (v:V),d.nl=true->Rep K H d v->Rep K H' d v
 | .non,v,_,h=>by rw[Rep]at h ⊢;exact h
 | .bl b,v,_,h=>by rw[Rep]at h ⊢;exact h
 | .int i,v,_,h=>by rw[Rep]at h ⊢;exact h
 | .str x,v,_,h=>by rw[Rep]at h ⊢;exact h
 | .tup l,v,n,h=>by
  rw[Rep]at h ⊢
  rw[Dx.nl]at n
  obtain⟨a,xs,e1,h1,h2⟩:=h
  exact⟨a,xs,e1,e.sq h1,RepL.tsame e l xs n h2⟩
 | .lst l,v,n,h=>by rw[Dx.nl]at n;cases n
theorem RepL.tsame(e:TSame H H'):∀(ds:List Dx) (vs:List V),nlL ds=true->RepL K H ds vs->RepL K H' ds vs
 | [],vs,_,h=>by rw[RepL]at h ⊢;exact h
 | d::ds,vs,n,h=>by
  rw[RepL]at h ⊢
  rw[nlL,zaC]at n
  obtain⟨x,xs,e1,h1,h2⟩:=h
  exact⟨x,xs,e1,Rep.tsame e d x n.1 h1,RepL.tsame e ds xs n.2 h2⟩
end
end
theorem Same.put{H H':Hp}{l:Addr}{o:HO}(e:Same H H')(h:H l=none):Same H (upd H' l o):=λb u hb=>by
 rw[qi (qy hb h)]
 exact e b u hb
noncomputable def qH(X:Cx)(N:List Str)(scope:Scope)(cl:List (Str×Addr))(C:Addr)(s:Shared)(H:Hp)(fp:List Addr):Cx where
 prog:=X.prog
 w:=X.w
 K:=X.K
 mg:=X.mg
 base:=X.base
 A:=X.A
 N:=N
 s₀:=s
 H₀:=H
 env:=compEnvC scope cl C X.env
 outer:=X.stack
 stack:=X.stack
 ex:=fp
 fn:=λ_=>false
 calm:=X.calm
 pn:=[]
 xe:=λ_ _=>False
noncomputable def PTs(X:Cx)(ifs:List Expr)(t:TT):Prop:=
 ∀(pins:List (Addr×Obj)) (s:Shared) (σ:L2.St) (H:Hp) (Q:Bool->Hp->Prop),Inv X pins σ H s->t σ H Q->
  wpAny (model X.prog X.w) X.A (forIn ifs true λc r=>if r=true then do let ok <- isTrue c X.env (eval c X.env);pure (ForInStep.yield ok)else pure (ForInStep.yield r)) (TP X pins σ Q) X.xe s
noncomputable def tYes:TT:=λ_ H Q=>Q true H
theorem qnU{X:Cx}:PTs X [] tYes:=λpins s σ H Q I h=>wpAny_tests_nil ⟨H,I,h⟩
theorem qmA{X:Cx}{c:Expr}{t:TT}(h:PT X c t):PTs X [c] t:=λpins s σ H Q I hw=>wpAny_tests_one (h pins s σ H Q I hw)
structure Clo(X:Cx)(N:List Str)(scope:Scope)(cl:List (Str×Addr)):Prop where
 clos:closureFor scope X.env=pure cl
 kind:scope.kind=.function
 nocell:∀y∈scope.names,y.2≠.cell
 names:∀y∈scope.names,y.2=.local->scope.names.lookup y.1=some .local
 sub:∀x c,cl.lookup x=some c->X.env.cells.lookup x=some c
 has:∀x,((relabel scope X.env).names.lookup x=some .cell\/(relabel scope X.env).names.lookup x=some .free)->∃c,cl.lookup x=some c
noncomputable def Start(X:Cx)(N:List Str)(scope:Scope)(σ σ':L2.St):Prop:=
 σ'.length=N.length/\∀(j:Nat) (x:Str) (v:V),N[j]?=some x->σ'[j]?=some (some v)->Vis (relabel scope X.env) x->¬ (relabel scope X.env).names.lookup x=some .local/\∃i:Nat,X.N[i]?=some x/\σ[i]?=some (some v)/\(X.env.kindOf x=some .cell\/X.env.kindOf x=some .free)
noncomputable def qmt(wi:TI)(g:TG)(tt:TT)(te:TE)(S:L2.St->L2.St->Prop):TE:=λσ H Q=>∃σ',S σ σ'/\wi σ H λJ H1=>∀D,H1 D=none->∃W:Nat->Nat->L2.St->List V->Hp->Prop,(∃m,W 0 m σ' [] (upd H1 D (.lst []))) /\
 ∀i m σ2 us H2,W i m σ2 us H2->(J.stop i H2/\Q (.ref D) H2)\/(J.go i H2/\us.length<zaj/\∀x H3,J.yld i H2 x H3->g x σ2 H3 λσ3 H4=>tt σ3 H4 λok H5=>
  if ok=true then te σ3 H5 λv H6=>H6 D=some (.lst us)/\∃m',m'<m/\W (i+1) m' σ3 (us++[v]) (upd H6 D (.lst (us++[v])))else H5 D=some (.lst us)/\∃m',m'<m/\W (i+1) m' σ3 us H5)
section
variable {X:Cx}
theorem qmP{pins:List (Addr×Obj)}{σ:L2.St}{H3:Hp}{s3:Shared}{N:List Str}{scope:Scope}{cl:List (Str×Addr)}{fp:List Addr}(I3:Inv X pins σ H3 s3)(cc:Clo X N scope cl)(ff:∀b∈fp,FpOk X pins H3 b)(fe:∀b∈fp,∃o,s3.heap.get? b=some o) :
  (qH X N scope cl s3.heap.objs.size s3 H3 fp).Ok where
 mod:=I3.ok.mod
 kind:=cc.kind
 glob:=I3.ok.glob
 blt:=I3.ok.blt
 above:=zam _
 inj:=λx y c h1 h2=>I3.ok.inj x y c (cc.sub x c h1) (cc.sub y c h2)
 has:=λx h=>cc.has x h
 cab:=λx c h _=>nomatch h
 hd:=I3.ok.hd
 frames:=I3.ok.frames
 stk:=.inl rfl
 exf:=λb hb=>by
  obtain⟨o,e⟩:=fe b hb
  exact⟨zaw (zah e),λx c h=>(ff b hb).2.2.2.2.1 x c (cc.sub x c h)⟩
 bs:=I3.bs
 bsz:=zaY I3.ok.bsz I3.sz
 noex:=λb o e hb=>by
  rcases(ff b hb).2.2.2.1 with z|z
  ·exact I3.ok.noex b o e z
  ·exact absurd (za0 (zah e) I3.ok.bsz) (Nat.not_lt.mpr z)
 exfs:=λb hb z=>by
  rcases List.mem_cons.mp (I3.stkSub b z)with q|q
  ·exact(ff b hb).2.1 q
  ·exact(ff b hb).2.2.1 q
 funs:=I3.stack
 frf:=I3.stkFree
theorem qkg{pins:List (Addr×Obj)}{σ σ':L2.St}{H3:Hp}{s3 s4:Shared}{N:List Str}{scope:Scope}{cl:List (Str×Addr)}{fp:List Addr}{m:Str->Option Value}(I3:Inv X pins σ H3 s3)(cc:Clo X N scope cl)(ff:∀b∈fp,FpOk X pins H3 b)(fe:∀b∈fp,∃o,s3.heap.get? b=some o)
  (st:Start X N scope σ σ') (ho:s4.os=s3.os) (hg:s4.gens=s3.gens) (hk:∀b o,s3.heap.get? b=some o->s4.heap.get? b=some o) (hn:s4.heap.Ns s3.heap.objs.size m) :
  Inv (qH X N scope cl s3.heap.objs.size s3 H3 fp) [] σ' H3 s4 where
 ok:=qmP I3 cc ff fe
 os:=ho
 bare:=by rw[hg];exact I3.bare
 base:=Un.kept hk
 loc:=by
  refine⟨m,hn,λj x v h1 h2 h3=>?_⟩
  obtain⟨nl,i,e1,e2,e3⟩:=st.2 j x v h1 h2 h3
  obtain⟨m0,hn0,hl0⟩:=I3.loc
  have vis:Vis X.env.scope x:=by
   rcases e3 with e3|e3
   ·exact .inr (.inl e3)
   ·exact .inr (.inr e3)
  obtain⟨u,ru,l⟩:=hl0 i x v e1 e2 vis
  refine⟨u,ru,?_⟩
  rcases l with⟨lk,_⟩|⟨_,c,hc,hcell⟩
  ·rcases e3 with e3|e3 <;> (rw[lk]at e3;cases e3)
  ·have kk:(relabel scope X.env).names.lookup x=some .cell\/(relabel scope X.env).names.lookup x=some .free:=by
    rcases h3 with h3|h3|h3
    ·exact absurd h3 nl
    ·exact .inl h3
    ·exact .inr h3
   obtain⟨c',hc'⟩:=cc.has x kk
   have ec:=cc.sub x c' hc'
   rw[hc]at ec
   cases ec
   obtain⟨o,ho1,hd1⟩:=hcell
   exact .inr ⟨kk,c,hc',o,hk c o ho1,hd1⟩
 cell:=λx c e=>by
  obtain⟨v,o,e1,d1⟩:=I3.cell x c (cc.sub x c e)
  exact⟨v,o,hk c o e1,d1⟩
 free:=I3.hok.fresh (zam _)
 freeC:=λx c e=>I3.freeC x c (cc.sub x c e)
 pin:=λp hp=>nomatch hp
 hok:=I3.hok.kept hk
 len:=st.1
theorem comp_back{pins:List (Addr×Obj)}{σ σ5:L2.St}{H3 H5:Hp}{s3 s5:Shared}{h':Heap}{N:List Str}{scope:Scope}{cl:List (Str×Addr)}{fp:List Addr}(I3:Inv X pins σ H3 s3)(ff:∀b∈fp,FpOk X pins H3 b)
  (I5:Inv (qH X N scope cl s3.heap.objs.size s3 H3 fp) [] σ5 H5 s5) (hs:zaM s3.heap.objs.size s5.heap h'):Inv X pins σ H5 {s5 with heap:=h'}:=by
 have ne:∀b o,s3.heap.get? b=some o->b≠s3.heap.objs.size:=λb o e=>zaw (zah e)
 have u:=I5.base
 refine I3.call' (s':={s5 with heap:=h'}) (ch:=fp) I5.os ⟨λb o e n hb hx=>?_,λb o e n hb hx=>?_,u.free,λb o e hx=>?_,u.tups,u.frzs,u.tbls⟩ ?_ I5.bare λb hb=>?_
 ·exact(hs.2 b (ne b o e)).trans (u.keep b o e n hb hx)
 ·obtain⟨sl,q⟩:=u.slot b o e n hb hx
  exact⟨sl,(hs.2 b (ne b o e)).trans q⟩
 ·obtain⟨o',q⟩:=u.there b o e hx
  exact⟨o',(hs.2 b (ne b o e)).trans q⟩
 ·intro b ob e
  have fC:H5 s3.heap.objs.size=none:=I5.free
  refine(I5.hok b ob e).stay (λc w' hc q=>(hs.2 c ?_).trans q) (λ_ q=>q) λ_ _ q=>q
  rintro rfl
  rcases hc with z|z
  ·subst z;rw[fC]at e;cases e
  ·rw[fC]at z;cases z
 ·obtain⟨_,f1,_,f3,f4,f5⟩:=ff b hb
  exact⟨f3,f1,f4,f5⟩
theorem qiW{prog:zai}{w:World}{A:Around}{R:Result->Shared->Prop}{s:Shared}{elt target iter:Expr}{ifs:List Expr}{scope:Scope}{pos:Pos}{it acc:Value}{env:Env}(I:Nat->Shared->Prop)
  (turn:∀n s, I n s -> wpAny (model prog w) A (pyNext it) (λr s₁ => match r with
   | none=>R (.ok .next) s₁
   | some v=>wpAny (model prog w) A (letOwnedTupleGo target it v) (λ_ s₁'=>wpAny (model prog w) A (assign target env v) (λ_ s₂=>
     wpAny (model prog w) A (forIn ifs true λc r=>if r=true then do let ok <- isTrue c env (eval c env);pure (ForInStep.yield ok)else pure (ForInStep.yield r)) (λok s₃=>
      if ok=true then wpAny (model prog w) A (eval elt env) (λx s₄=>
       wpAny (model prog w) A (call (.builtin "list.append") [acc,x]) (λ_ s₅=>∃m,m<n/\I m s₅) (λ_ _=>False) s₄) (λ_ _=>False) s₃
      else ∃m,m<n/\I m s₃) (λ_ _=>False) s₂) (λ_ _=>False) s₁') (λ_ _=>False) s₁) (λ_ _=>False) s)
  (n:Nat) (h:I n s) :
  codeAny (model prog w) A (.compLoop (.ListComp elt [⟨target,iter,ifs,0⟩] scope pos) 0 it acc env) R s:=by
 refine codeAny_loop rfl I (λn s hI=>?_) n h
 show wpAny _ A ((compTurn (.ListComp elt [⟨target,iter,ifs,0⟩] scope pos) 0 it acc env).onRaise (λx=>do noteFrame x env;theTreesLotGoes x)) _ _ s
 refine wpAny_noted ?_
 rw[compTurn_list]
 have ff:∀(e:Value) (s':Shared),False->notedBy (model prog w) A env (λe s'=>R (.error e) s') e s':=λ_ _ h=>h.elim
 refine zaa (wpAny_standAt (zaa (zaZ (turn n s hI) (λr s₁ h₁=>?_) ff)))
 cases r with
 | none=>exact zab h₁
 | some v=>
  refine zaa (zaZ h₁ (λ_ s₁' h₁'=>?_) ff)
  refine zaa (zaZ h₁' (λ_ s₂ h₂=>zaa (zaZ h₂ (λok s₃ h₃=>?_) ff)) ff)
  cases ok with
  | false=>exact zab ⟨rfl,h₃⟩
  | true=>
   exact zaa (zaa (zaZ h₃ (λx s₄ h₄=>zaa (zaZ h₄ (λ_ s₅ h₅=>zab (zab ⟨rfl,h₅⟩)) ff)) ff))
theorem qfs{elt tg iter:Expr}{ifs:List Expr}{scope:Scope}{pos:Pos}{N:List Str}{cl:List (Str×Addr)}{wi:TI}{g:TG}{tt:TT}{te:TE}{RR:Value->Addr->Result->Shared->Prop}{pins:List (Addr×Obj)}{σ σ':L2.St}{Q:VK}{J:It}{H2:Hp}{s2:Shared}{it:Addr}{fp:List Addr}{tn:Nat->Heap->Prop}{E:Value->Shared->Prop}
  (hc:X.calm=true) (cc:Clo X N scope cl) (hg:∀C s H fp,PG (qH X N scope cl C s H fp) tg g) (ht:∀C s H fp,PTs (qH X N scope cl C s H fp) ifs tt) (he:∀C s H fp,PE (qH X N scope cl C s H fp) elt te)
  (I2:Inv X pins σ H2 s2) (T:Turn X.prog X.w X.K tg J fp it tn) (st2:tn 0 s2.heap) (f2:∀b∈fp,FpOk X pins H2 b) (sS:Start X N scope σ σ')
  (q2:∀D, H2 D = none -> ∃W:Nat -> Nat -> L2.St -> List V -> Hp -> Prop, (∃m, W 0 m σ' [] (upd H2 D (.lst []))) /\
   ∀i m σ2 us H2,W i m σ2 us H2->(J.stop i H2/\Q (.ref D) H2)\/(J.go i H2/\us.length<zaj/\∀x H3,J.yld i H2 x H3->g x σ2 H3 λσ3 H4=>tt σ3 H4 λok H5=>
    if ok=true then te σ3 H5 λv H6=>H6 D=some (.lst us)/\∃m',m'<m/\W (i+1) m' σ3 (us++[v]) (upd H6 D (.lst (us++[v])))else H5 D=some (.lst us)/\∃m',m'<m/\W (i+1) m' σ3 us H5))
  (hRR:∀(s3 s5:Shared) (H3 H5:Hp) (σ5:L2.St) (D:Addr),Inv X pins σ H3 s3->(∀b∈fp,FpOk X pins H3 b)->Inv (qH X N scope cl s3.heap.objs.size s3 H3 fp) [] σ5 H5 s5->Q (.ref D) H5->RR (.ref D) s3.heap.objs.size (.ok .next) s5) :
  wpAny (model X.prog X.w) X.A (newList []) (λacc s₃=>wpAny (model X.prog X.w) X.A (newFunctionEnv scope X.env.globals cl [] X.env.qual none .none (some X.env)) (λcenv s₄=>
   codeAny (model X.prog X.w) X.A (.compStart (.ListComp elt [⟨tg,iter,ifs,0⟩] scope pos) 0 (.ref it) acc {cenv with scope:=relabel scope X.env}) (RR acc cenv.locals) s₄) E s₃) E s2:=by
 refine zbc (wpAny_newFunctionEnv cc.nocell (by intro y hy;simp at hy) (λh1 hns1 hsb1=>?_) cc.kind)
 dsimp only at hns1 hsb1 ⊢
 have I3:Inv X pins σ (upd H2 s2.heap.objs.size (.lst [])) {s2 with heap:=s2.heap.push {cls:=.type "list",dict:=none,data:=.seq ([]:List Value).toArray} }:=I2.lnew (t':=s2.toks) .nil (zaX _)
 have hD:H2 s2.heap.objs.size=none:=I2.fresh
 have fne:∀b∈fp,b≠s2.heap.objs.size:=λb hb=>by
  obtain⟨o,e,_⟩:=T.obj 0 _ st2 b hb
  exact zaw (zah e)
 have fe:∀b∈fp,∃o,(s2.heap.push {cls:=.type "list",dict:=none,data:=.seq ([]:List Value).toArray}).get? b=some o:=λb hb=>by
  obtain⟨o,e,_⟩:=T.obj 0 _ st2 b hb
  exact⟨o,zag _ e⟩
 have f3:∀b∈fp,FpOk X pins (upd H2 s2.heap.objs.size (.lst [])) b:=λb hb=>⟨by rw[qi (fne b hb)];exact(f2 b hb).1,(f2 b hb).2⟩
 obtain⟨W,⟨m0,w0⟩,turn⟩:=q2 s2.heap.objs.size hD
 have hDl:(upd H2 s2.heap.objs.size (.lst [])) s2.heap.objs.size=some (.lst []):=ql
 generalize hs3:({s2 with heap:=s2.heap.push {cls:=.type "list",dict:=none,data:=.seq ([]:List Value).toArray} }:Shared)=s3 at I3
 have e3:s2.heap.push {cls:=.type "list",dict:=none,data:=.seq ([]:List Value).toArray}=s3.heap:=by rw[<- hs3]
 rw[e3]at hns1 hsb1 fe ⊢
 generalize s2.heap.objs.size=D at *
 generalize upd H2 D (.lst [])=H3 at *
 have hk4:∀b o,s3.heap.get? b=some o->h1.get? b=some o:=λb o e=>(hsb1.2 b (zaw (zah e))).trans (zag _ e)
 have st3:tn 0 s3.heap:=by
  refine T.keep 0 _ _ st2 λb hb o e=>?_
  rw[<- e3]
  exact zag _ e
 have loop:∀s4:Shared,s4={s2 with heap:=h1,toks:=s2.toks+([]:List (Str×Value)).length}->
   codeAny (model X.prog X.w) X.A (.compLoop (.ListComp elt [⟨tg,iter,ifs,0⟩] scope pos) 0 (.ref it) (.ref D) (compEnvC scope cl s3.heap.objs.size X.env)) (RR (.ref D) s3.heap.objs.size) s4:=by
  rintro s4 rfl
  have I4:Inv (qH X N scope cl s3.heap.objs.size s3 H3 fp) [] σ' H3 {s2 with heap:=h1,toks:=s2.toks+([]:List (Str×Value)).length}:=
   qkg (m:=λx=>([]:List (Str×Value)).reverse.lookup x) I3 cc f3 fe sS (by rw[<- hs3]) (by rw[<- hs3]) hk4 hns1
  have fp0:∀ {H':Hp},(∀b∈fp,H' b=none)->∀b∈fp,FpOk (qH X N scope cl s3.heap.objs.size s3 H3 fp) [] H' b:=λhn b hb=>by
   have ok:=I4.ok
   exact⟨hn b hb,(ok.exf b hb).1,ok.exfs b hb,.inl hb,(ok.exf b hb).2,λp hp=>nomatch hp⟩
  refine qiW (λn s'=>∃i σ2 us H',Inv (qH X N scope cl s3.heap.objs.size s3 H3 fp) [] σ2 H' s'/\tn i s'.heap/\(∀b∈fp,H' b=none)/\H' D=some (.lst us)/\W i n σ2 us H') ?_ m0 ⟨0,σ',[],H3,I4,T.keep 0 _ _ st3 λb hb o e=>hk4 b o e,λb hb=>(f3 b hb).1,hDl,w0⟩
  rintro n s5 ⟨i,σ5,us,H5,I5,st5,fr5,hD5,w5⟩
  rcases turn i n σ5 us H5 w5 with⟨stop,qn⟩|⟨go,hlen,step⟩
  ·refine thn (T.done (qH X N scope cl s3.heap.objs.size s3 H3 fp) rfl rfl rfl hc i [] s5 σ5 H5 _ I5 (fp0 fr5) st5 stop) λr s6 ⟨hr,I6⟩=>?_
   subst hr
   exact hRR s3 s6 H3 H5 σ5 D I3 f3 I6 qn
  ·refine thn (T.item (qH X N scope cl s3.heap.objs.size s3 H3 fp) rfl rfl rfl hc i [] s5 σ5 H5 _ I5 (fp0 fr5) st5 go) λr s6 ⟨u,hr,h6⟩=>?_
   subst hr
   refine thn h6 λ_ s7 ⟨x,H7,I7,r7,y7,st7,fr7⟩=>?_
   have I7':=I7.pinned (fp0 fr7) (T.obj _ _ st7)
   refine thn (hg _ _ _ _ _ s7 σ5 H7 x u _ I7' r7 (step x H7 y7)) λ_ s8 ⟨σ8,H8,I8,q8⟩=>?_
   refine thn (ht _ _ _ _ _ s8 σ8 H8 _ I8 q8) λok s9 ⟨H9,I9,q9⟩=>?_
   have fin:∀ {s10:Shared} {H10:Hp} {vs:List V},Inv (qH X N scope cl s3.heap.objs.size s3 H3 fp) ([]++qfJ fp s7.heap) σ8 H10 s10->H10 D=some (.lst vs)->(∃m',m'<n/\W (i+1) m' σ8 vs H10)->
     ∃m,m<n/\∃i σ2 us H',Inv (qH X N scope cl s3.heap.objs.size s3 H3 fp) [] σ2 H' s10/\tn i s10.heap/\(∀b∈fp,H' b=none)/\H' D=some (.lst us)/\W i m σ2 us H':=λ{s10 H10 vs} I10 hd ⟨m',hm,w10⟩=>by
    refine⟨m',hm,i+1,σ8,vs,H10,I10.unpinned,T.keep _ _ _ st7 λb hb o e=>(I10.pin (b,o) (zbi _ (zbi _ (qa7 hb e)))).1,λb hb=>?_,hd,w10⟩
    obtain⟨o,e,d⟩:=T.obj _ _ st7 b hb
    exact(I10.pin (b,o) (zbi _ (zbi _ (qa7 hb e)))).2.1
   cases ok with
   | false=>
    rw[if_neg zaq]at q9 ⊢
    exact fin I9 q9.1 q9.2
   | true=>
    rw[if_pos rfl]at q9 ⊢
    refine thn (he _ _ _ _ _ s9 σ8 H9 _ I9 q9) λy s10 ⟨v,H10,I10,r10,hD10,q10⟩=>?_
    refine thn (qft (X:=qH X N scope cl s3.heap.objs.size s3 H3 fp) _ s10 σ8 H10 (.ref D) [v] (.ref D) [y] (λ_ H11=>H11 D=some (.lst (us++[v]))/\∃m',m'<n/\W (i+1) m' σ8 (us++[v]) H11) I10 rfl (.cons r10 .nil) ⟨D,us,v,rfl,rfl,hD10,hlen,ql,q10⟩) λ_ s11 ⟨z,H11,I11,_,hD11,q11⟩=>?_
    exact fin I11 hD11 q11
 exact codeAny_compStart_list (loop _ rfl) (T.self X.A 0 _ _ _ (T.keep 0 _ _ st3 λb hb o e=>hk4 b o e) (loop _ rfl))
theorem qno{elt tg iter:Expr}{ifs:List Expr}{scope:Scope}{pos:Pos}{N:List Str}{cl:List (Str×Addr)}{wi:TI}{g:TG}{tt:TT}{te:TE}
  (hc:X.calm=true) (cc:Clo X N scope cl) (hi:PI X tg iter wi) (hg:∀C s H fp,PG (qH X N scope cl C s H fp) tg g) (ht:∀C s H fp,PTs (qH X N scope cl C s H fp) ifs tt) (he:∀C s H fp,PE (qH X N scope cl C s H fp) elt te)
  (hs:∀x,zbq iter X.env x=pure x:=by intro _;rfl) :
  PE X (.ListComp elt [⟨tg,iter,ifs,0⟩] scope pos) (qmt wi g tt te (Start X N scope)):=by
 intro pins s σ H Q I h
 obtain⟨σ',sS,hw⟩:=h
 rw[eval_ListComp]
 refine wpAny_comprehension_free (use:=none) rfl hs cc.clos cc.kind cc.names (thn (hi pins s σ H _ I hw) λv s1 h1=>thn h1 λitv s2 h2=>?_)
 obtain⟨it,fp,tn,J,H2,e,I2,T,st2,f2,q2⟩:=h2
 subst e
 refine qfs (wi:=wi) (Q:=Q) (RR:=λacc C=>compPost (model X.prog X.w) X.A X.xe none (EP X pins σ Q) acc C) hc cc hg ht he I2 T st2 f2 sS q2 ?_
 intro s3 s5 H3 H5 σ5 D I3 f3 I5 q
 obtain⟨m,hn,_⟩:=id I5.loc
 exact⟨m,hn,λh' hs'=>⟨.ref D,H5,comp_back I3 f3 I5 hs',rfl,q⟩⟩
end
end My
namespace My
open PySem PySem.W PyProof.Rows
structure Ord(n:Nat)(lt:Nat->Nat->Bool):Prop where
 irr:∀i,i<n->lt i i=false
 tr:∀i j k,i<n->j<n->k<n->lt i j=true->lt j k=true->lt i k=true
 tot:∀i j,i<n->j<n->i≠j->lt i j=true\/lt j i=true
noncomputable def cmpP(n:Nat)(lt:Nat->Nat->Bool):Nat->Nat->(Bool->Shared->Prop)->Shared->Prop:=λi j C s=>i<n/\j<n/\i≠j/\C (lt i j) s
noncomputable def PermR(n:Nat)(p:Array Nat):Prop:=p.Perm (List.toArray (zav n))
theorem PermR.size{n:Nat}{p:Array Nat}(h:PermR n p):p.size=n:=by
 have:=Array.Perm.size_eq h
 simpa using this
theorem PermR.lt{n:Nat}{p:Array Nat}(h:PermR n p){i:Nat}(hi:i<n):p.getD i 0<n:=by
 have hs:=h.size
 have hi':i<p.size:=by omega
 have e:p.getD i 0=p[i]:=by simp[Array.getD,hi']
 rw[e]
 have hm:p[i]∈p.toList:=by simp
 have:=(Array.perm_iff_toList_perm.mp h).mem_iff.mp hm
 simpa using this
theorem PermR.nodup{n:Nat}{p:Array Nat}(h:PermR n p):p.toList.Nodup:=by
 have:=Array.perm_iff_toList_perm.mp h
 exact this.symm.nodup (by simpa using List.nodup_range)
theorem PermR.ne{n:Nat}{p:Array Nat}(h:PermR n p){i j:Nat}(hi:i<n)(hj:j<n)(hne:i≠j):p.getD i 0≠p.getD j 0:=by
 have hs:=h.size
 have hi':i<p.toList.length:=by rw[za7];omega
 have hj':j<p.toList.length:=by rw[za7];omega
 have e1:p.getD i 0=p.toList[i]:=by simp[Array.getD,show i<p.size by omega]
 have e2:p.getD j 0=p.toList[j]:=by simp[Array.getD,show j<p.size by omega]
 rw[e1,e2]
 intro z
 exact hne ((List.getElem_inj h.nodup).mp z)
noncomputable def qaU(lt:Nat->Nat->Bool)(p:Array Nat)(k:Nat):Prop:=∀i j,i<j->j<k->lt (p.getD i 0) (p.getD j 0)=true
section
variable {n:Nat}{lt:Nat->Nat->Bool}(O:Ord n lt)
include O
theorem qb0{p:Array Nat}(hp:PermR n p){r:Nat}(hr:r<=n)(h:∀i,i+1<r->lt (p.getD i 0) (p.getD (i+1) 0)=true):qaU lt p r:=by
 intro i j hij hj
 obtain⟨d,rfl⟩:∃d,j=i+1+d:=⟨j-i-1,by omega⟩
 clear hij
 induction d with
 | zero=>exact h i (by omega)
 | succ d ih=>exact O.tr _ _ _ (hp.lt (by omega)) (hp.lt (by omega)) (hp.lt (by omega)) (ih (by omega)) (h (i+1+d) (by omega))
theorem tot'{p:Array Nat}(hp:PermR n p){i j:Nat}(hi:i<n)(hj:j<n)(hne:i≠j)(h:lt (p.getD i 0) (p.getD j 0)=false):lt (p.getD j 0) (p.getD i 0)=true:=by
 rcases O.tot _ _ (hp.lt hi) (hp.lt hj) (hp.ne hi hj hne)with z|z
 ·rw[h]at z;cases z
 ·exact z
theorem qjk{p:Array Nat}(hp:PermR n p){G:Nat->Shared->Prop}{s:Shared}:∀(f m:Nat),1<=m->m+f<=n->(∀i,i+1<m->lt (p.getD i 0) (p.getD (i+1) 0)=true)->
  (∀r,m<=r->r<=m+f->(∀i,i+1<r->lt (p.getD i 0) (p.getD (i+1) 0)=true)->(r<m+f->lt (p.getD r 0) (p.getD (r-1) 0)=true)->G r s)->(kas_asc p f m).kasWp (cmpP n lt) G s
 | 0,m,h1,h2,ha,hG=>hG m (zam _) (zam _) ha λz=>absurd z (by omega)
 | f+1,m,h1,h2,ha,hG=>by
  show cmpP n lt _ _ _ s
  refine⟨hp.lt (by omega),hp.lt (by omega),hp.ne (by omega) (by omega) (by omega),?_⟩
  cases hc:lt (p.getD m 0) (p.getD (m-1) 0)with
  | true=>
   show(KasT.ret m).kasWp (cmpP n lt) G s
   exact hG m (zam _) (by omega) ha λ_=>hc
  | false=>
   show(kas_asc p f (m+1)).kasWp (cmpP n lt) G s
   refine qjk hp f (m+1) (by omega) (by omega) (λi hi=>?_) (λr h3 h4 h5 h6=>hG r (by omega) (by omega) h5 λz=>h6 (by omega))
   by_cases e:i+1<m
   ·exact ha i e
   ·have:i=m-1:=by omega
    subst this
    have e2:m-1+1=m:=by omega
    rw[e2]
    exact tot' O hp (by omega) (by omega) (by omega) hc
theorem qiA{p:Array Nat}(hp:PermR n p){G:Array Nat×Nat×Nat->Shared->Prop}{s:Shared}:∀(f m:Nat),1<=m->m+f<=n->(∀i,i+1<m->lt (p.getD (i+1) 0) (p.getD i 0)=true)->
  (∀r,m<=r->r<=m+f->(∀i,i+1<r->lt (p.getD (i+1) 0) (p.getD i 0)=true)->G (p,r,0) s)->(kas_desc f p m 0).kasWp (cmpP n lt) G s
 | 0,m,h1,h2,ha,hG=>hG m (zam _) (zam _) ha
 | f+1,m,h1,h2,ha,hG=>by
  show cmpP n lt _ _ _ s
  refine⟨hp.lt (by omega),hp.lt (by omega),hp.ne (by omega) (by omega) (by omega),?_⟩
  cases hc:lt (p.getD m 0) (p.getD (m-1) 0)with
  | true=>
   show(kas_desc f p (m+1) 0).kasWp (cmpP n lt) G s
   refine qiA hp f (m+1) (by omega) (by omega) (λi hi=>?_) (λr h3 h4 h5=>hG r (by omega) (by omega) h5)
   by_cases e:i+1<m
   ·exact ha i e
   ·have:i=m-1:=by omega
    subst this
    have e2:m-1+1=m:=by omega
    rw[e2]
    exact hc
  | false=>
   show cmpP n lt _ _ _ s
   refine⟨hp.lt (by omega),hp.lt (by omega),hp.ne (by omega) (by omega) (by omega),?_⟩
   rw[tot' O hp (by omega) (by omega) (by omega) hc]
   exact hG m (zam _) (by omega) ha
theorem qlO{p:Array Nat}(hp:PermR n p){r:Nat}(hr:r<=n)(k:Nat):(kas_rev p 0 r).getD k 0=if k<r then p.getD (r-1-k) 0 else p.getD k 0:=by
 have hs:=hp.size
 have e:=getElem?_mirror_all (xs:=p) (i:=0) (j:=r) (by omega) k
 have g:∀(q:Array Nat) (k:Nat),q.getD k 0=(q[k]?).getD 0:=λq k=>by
  by_cases h:k<q.size <;> simp[Array.getD,h]
 unfold kas_rev
 rw[g,e]
 by_cases h:k<r
 ·rw[if_pos ⟨zaX _,h⟩,if_pos h,g]
  congr 2
  omega
 ·rw[if_neg (λz=>h z.2),if_neg h,g]
omit O in
theorem qkB{p:Array Nat}(hp:PermR n p)(r:Nat):PermR n (kas_rev p 0 r):=(mirror_perm p 0 r _).trans hp
theorem qlp{p:Array Nat}(hp:PermR n p)(hn:1<=n){G:Nat×Array Nat->Shared->Prop}{s:Shared}(hG:∀m p',1<=m->m<=n->PermR n p'->qaU lt p' m->G (m,p') s):(kas_count n p).kasWp (cmpP n lt) G s:=by
 unfold kas_count
 rw[KasT.kasWp_bind]
 refine qjk O hp (n-1) 1 (zam _) (by omega) (λi hi=>absurd hi (by omega)) λr h1 h2 h3 h4=>?_
 by_cases e:r=n
 ·have:(r == n)=true:=by simp[e]
  rw[if_pos this]
  exact hG r p h1 (by omega) hp (qb0 O hp (by omega) h3)
 ·have:¬ (r == n)=true:=by simp[e]
  rw[if_neg this]
  have hs:=qb0 O hp (r:=r) (by omega) h3
  by_cases h5:r>1
  ·rw[if_pos h5]
   show cmpP n lt _ _ _ s
   refine⟨hp.lt (by omega),hp.lt (by omega),hp.ne (by omega) (by omega) (by omega),?_⟩
   rw[hs 0 (r-1) (by omega) (by omega)]
   exact hG r p h1 (by omega) hp hs
  ·rw[if_neg h5]
   have r1:r=1:=by omega
   subst r1
   unfold kas_descPart
   rw[KasT.kasWp_bind]
   have h10:=h4 (by omega)
   refine qiA O hp (n-(1+1)) (1+1) (by omega) (by omega) (λi hi=>?_) λr' h6 h7 h8=>?_
   ·have:i=0:=by omega
    subst this
    exact h10
   ·show(kas_tail3 r' n p).kasWp (cmpP n lt) G s
    unfold kas_tail3
    rw[KasT.kasWp_bind]
    have hr':r'<=n:=by omega
    have hp':PermR n (kas_rev p 0 r'):=qkB hp r'
    refine qjk O hp' (n-r') r' (by omega) (by omega) (λi hi=>?_) λm h9 h11 h12 _=>?_
    ·rw[qlO O hp hr',qlO O hp hr',if_pos (by omega),if_pos hi]
     have:=h8 (r'-1-(i+1)) (by omega)
     have e2:r'-1-(i+1)+1=r'-1-i:=by omega
     rw[e2]at this
     exact this
    ·exact hG m _ (by omega) (by omega) hp' (qb0 O hp' (by omega) h12)
theorem qel{p:Array Nat}(hp:PermR n p){k:Nat}(hk:k<n)(hs:qaU lt p k){G:Nat->Shared->Prop}{s:Shared}:∀(f l r:Nat),l<=r->r<=k->r-l<=f->(∀i,i<l->lt (p.getD i 0) (p.getD k 0)=true)->(∀i,r<=i->i<k->lt (p.getD k 0) (p.getD i 0)=true)->
  (∀l,l<=k->(∀i,i<l->lt (p.getD i 0) (p.getD k 0)=true)->(∀i,l<=i->i<k->lt (p.getD k 0) (p.getD i 0)=true)->G l s)->(kas_place p k f l r).kasWp (cmpP n lt) G s
 | 0,l,r,h1,h2,h3,h4,h5,hG=>by
  have:l=r:=by omega
  subst this
  exact hG l h2 h4 h5
 | f+1,l,r,h1,h2,h3,h4,h5,hG=>by
  unfold kas_place
  by_cases e:l ≥ r
  ·rw[if_pos e]
   have:l=r:=by omega
   subst this
   exact hG l h2 h4 h5
  ·rw[if_neg e]
   show cmpP n lt _ _ _ s
   refine⟨hp.lt (by omega),hp.lt (by omega),hp.ne (by omega) (by omega) (by omega),?_⟩
   have hm:(l+r)/2<k:=by omega
   have hm1:l<=(l+r)/2:=by omega
   have hm2:(l+r)/2<r:=by omega
   generalize (l+r)/2=mid at *
   cases hc:lt (p.getD k 0) (p.getD mid 0)with
   | true=>
    show(kas_place p k f l mid).kasWp (cmpP n lt) G s
    refine qel hp hk hs f l mid hm1 (by omega) (by omega) h4 (λi hi hik=>?_) hG
    by_cases z:i=mid
    ·rw[z];exact hc
    ·exact O.tr _ _ _ (hp.lt (by omega)) (hp.lt (by omega)) (hp.lt (by omega)) hc (hs mid i (by omega) hik)
   | false=>
    show(kas_place p k f (mid+1) r).kasWp (cmpP n lt) G s
    have hc':=tot' O hp (by omega) (by omega) (by omega) hc
    refine qel hp hk hs f (mid+1) r (by omega) h2 (by omega) (λi hi=>?_) h5 hG
    by_cases z:i=mid
    ·rw[z];exact hc'
    ·exact O.tr _ _ _ (hp.lt (by omega)) (hp.lt (by omega)) (hp.lt (by omega)) (hs i mid (by omega) hm) hc'
theorem ql1{p:Array Nat}(hp:PermR n p){k l:Nat}(hk:k<n)(hl:l<=k)(j:Nat):(bubble p k (k-l)).getD j 0=if j=l then p.getD k 0 else if l<j/\j<=k then p.getD (j-1) 0 else p.getD j 0:=by
 have hs:=hp.size
 have e:=getElem?_bubble (xs:=p) (src:=k) (by omega) (k-l) (by omega) j
 have g:∀(q:Array Nat) (k:Nat),q.getD k 0=(q[k]?).getD 0:=λq k=>by
  by_cases h:k<q.size <;> simp[Array.getD,h]
 have e2:k-(k-l)=l:=by omega
 rw[e2]at e
 rw[g,e]
 by_cases h:j=l
 ·rw[if_pos h,if_pos h,g]
 ·rw[if_neg h,if_neg h]
  by_cases h2:l<j/\j<=k
  ·rw[if_pos h2,if_pos h2,g]
  ·rw[if_neg h2,if_neg h2,g]
theorem qme{G:Array Nat->Shared->Prop}{s:Shared}(hG:∀p,PermR n p->qaU lt p n->G p s):∀(f:Nat) (p:Array Nat) (k:Nat),k+f=n->PermR n p->qaU lt p k->(kas_bin f p k).kasWp (cmpP n lt) G s
 | 0,p,k,h1,hp,hs=>by
  have:k=n:=by omega
  subst this
  exact hG p hp hs
 | f+1,p,k,h1,hp,hs=>by
  unfold kas_bin
  rw[KasT.kasWp_bind]
  have hk:k<n:=by omega
  refine qel O hp hk hs k 0 k (zaX _) (zam _) (by omega) (λi hi=>absurd hi (by omega)) (λi h2 h3=>absurd h3 (by omega)) λl hl h4 h5=>?_
  refine qme hG f _ (k+1) (by omega) ((bubble_perm p k _).trans hp) λi j hij hj=>?_
  rw[ql1 O hp hk hl,ql1 O hp hk hl]
  by_cases a1:i=l
  ·rw[if_pos a1,if_neg (by omega),if_pos (by omega)]
   exact h5 (j-1) (by omega) (by omega)
  ·rw[if_neg a1]
   by_cases b1:j=l
   ·rw[if_pos b1,if_neg (by omega)]
    exact h4 i (by omega)
   ·rw[if_neg b1]
    by_cases a2:l<i/\i<=k
    ·rw[if_pos a2,if_pos (by omega)]
     exact hs (i-1) (j-1) (by omega) (by omega)
    ·rw[if_neg a2]
     by_cases b2:l<j/\j<=k
     ·rw[if_pos b2]
      by_cases c:i=j-1
      ·omega
      ·exact hs i (j-1) (by omega) (by omega)
     ·rw[if_neg b2]
      exact hs i j hij (by omega)
theorem qnQ(hn:1<=n){G:Array Nat->Shared->Prop}{s:Shared}(hG:∀p,PermR n p->qaU lt p n->G p s):(kas_sort n).kasWp (cmpP n lt) G s:=by
 unfold kas_sort
 rw[KasT.kasWp_bind]
 refine qlp O (Array.Perm.refl _) hn λm p' h1 h2 hp hs=>?_
 show(if m<n then kas_bin (n-max m 1) p' (max m 1)else KasT.ret p').kasWp (cmpP n lt) G s
 have e:max m 1=m:=by omega
 rw[e]
 by_cases h:m<n
 ·rw[if_pos h]
  exact qme O hG (n-m) p' m (by omega) hp hs
 ·rw[if_neg h]
  have:m=n:=by omega
  subst this
  exact hG p' hp hs
end
theorem qjD{α:Type}{n:Nat}{lt:Nat->Nat->Bool}{c:Nat->Nat->(Bool->Shared->Prop)->Shared->Prop}{s:Shared}(hc:∀i j C,i<n->j<n->i≠j->C (lt i j) s->c i j C s){Q:α->Shared->Prop}:∀(t:KasT α),t.kasWp (cmpP n lt) Q s->t.kasWp c Q s
 | .ret a,h=>h
 | .ask i j k,h=>by
  obtain⟨h1,h2,h3,h4⟩:=(show i<n/\j<n/\i≠j/\(k (lt i j)).kasWp (cmpP n lt) Q s from h)
  exact hc i j _ h1 h2 h3 (qjD hc (k (lt i j)) h4)
end My
namespace My
open PySem PySem.Spec PyProof.Rows PySem.W
section
variable {prog:zai}{w:World}{A:Around}{E:Value->Shared->Prop}{s:Shared}{it d:Addr}{i ep:Nat}{od:Obj}{es:Array DictEntry}
noncomputable def RawD(h:Heap)(d:Addr)(es:Array DictEntry)(ep:Nat):Prop:=∃o,h.get? d=some o/\o.ExactDict/\o.data=.dict es ep
theorem RawD.at'{h h':Heap}(x:RawD h d es ep)(k:∀o,h.get? d=some o->h'.get? d=some o):RawD h' d es ep:=let ⟨o,a,b⟩:=x;⟨o,k o a,b⟩
theorem RawD.typ(x:RawD s.heap d es ep):s.TypeIs (.ref d) "dict" := let ⟨o,a,b,_⟩:=x;⟨o,a,b.1⟩
theorem qkO{Q:Value->Shared->Prop}(hd:(d == za6)=false)(hm:RawD s.heap d es ep)
  (hQ:Q (.ref s.heap.objs.size) {s with heap:=s.heap.push {cls:=.type "dict_keyiterator",data:=.fields #[.ref d,.int 0 0,.int es.size 0,.int ep 0]} }):wpAny (model prog w) A (pyIter (.ref d)) Q E s:=by
 have tt:=hm.typ
 obtain⟨o,g1,g2,g3⟩:=hm
 refine wpAny_pyIter_slot tt PySem.F.slot_dict_iter (za9 PySem.F.slot_dict_iter tt PySem.F.entry_dict_iter ?_ (PySem.F.args_dict_iter_1 _));unfold Builtin.«dict.__iter__»
 refine zaa ?_;unfold Builtin.Dict.dictSlotNone
 refine zaa (wpAny_notOrdered_dict tt ?_);show wpAny _ _ (pure (zal d)) _ _ s;refine zab ?_
 show wpAny _ _ (zb5 d >>= _) _ _ s;unfold zb5;rw[if_neg (by rw[hd];exact zaq)]
 refine zaa (zab (zaa (zbx g1 g3 (zaa (zbX g1 g3 ?_)))))
 refine zaa (zbc (zab ⟨_,rfl, "dict_keyiterator",_,⟨_,zat _ rfl,rfl⟩,PySem.F.slot_dict_keyiterator_next.lookup,?_⟩));simpa[rawInt]using hQ
theorem qkl{Q:Option Value->Shared->Prop}(hit:s.heap.IsKeyIter it d i es.size ep)(hm:RawD s.heap d es ep)(hx:i<es.size)
  (hQ:∀h',h'.IsKeyIter it d (i+1) es.size ep->zaM it s.heap h'->Q (some es[i].key) {s with heap:=h'}):wpAny (model prog w) A (pyNext (.ref it)) Q E s:=by
 have tt:=hit.typeIs
 obtain⟨o,ho,hc,hd⟩:=id hit;obtain⟨od,g1,g2,g3⟩:=hm
 unfold pyNext;refine zaa (wpAny_attempt (zbk (name:=zaU "__next__") tt zca (za9 zca tt PySem.F.entry_dict_keyiterator_next ?_ (PySem.F.args_dict_keyiterator_next_1 _))))
 refine zaa (zab (zaa (zaa ?_)))
 first|refine zaa (zcb tt (zab ?_))|refine zaa (wpAny_typeNameOf_keyiter tt (zab ?_))
 refine zaa (wpAny_fieldsOf ho hd ?_);simp only[show zb6 "dict_keyiterator" = false by decide,zby,if_false]
 show wpAny _ _ (if(zal d == zaD)=true then _ else _) _ _ s;rw[if_neg (show ¬ ((zal d == zaD)=true)from zaq)]
 refine zaa (zab (zaa (zbx g1 g3 ?_)));rw[if_neg (by simp)]
 refine zaa (zab (zaa (zbX g1 g3 ?_)));rw[if_neg (by simp)]
 refine zab ?_;simp only[show ¬ ((i:Int)<0)from by omega,if_false,zbz,Array.getElem?_eq_getElem hx]
 refine zaa ?_;first|refine zaa (zcb tt (zab ?_))|refine zaa (wpAny_typeNameOf_keyiter tt (zab ?_))
 refine zaa (wpAny_isOneOf_keyiter tt ?_);show wpAny _ _ (setField (.ref it) 1 (rawInt ((i:Int)+1)) >>= _) _ _ s
 refine zaa (wpAny_setField ho hd (by simp) ?_)
 have nx:(s.heap.update it (Obj.mapFields (·.setIfInBounds 1 (rawInt ((i:Int)+1))))).IsKeyIter it d (i+1) es.size ep:=⟨_,zbv _ ho (Obj.isFreed_of_fields (Obj.data_mapFields hd _)),(Obj.cls_mapFields ..).trans hc,by rw[Obj.data_mapFields hd];simp[rawInt]⟩
 refine zaa (zbb (zaa (wpAny_isOneOf_keyiter (s:={s with heap:=s.heap.update it (Obj.mapFields (·.setIfInBounds 1 (rawInt ((i:Int)+1))))}) nx.typeIs ?_)))
 show wpAny _ _ (pure es[i].key) _ _ _;exact zab (zab ⟨_,rfl,zab (hQ _ nx (zbO ..))⟩)
theorem qnf{Q:Option Value->Shared->Prop}(hh:A.handled=none)(hit:s.heap.IsKeyIter it d i es.size ep)(hm:RawD s.heap d es ep)(hx:es.size<=i)
  (hQ:∀h',Heap.ExtBut it s.heap h'->Q none {s with heap:=h'}):wpAny (model prog w) A (pyNext (.ref it)) Q E s:=by
 have tt:=hit.typeIs
 obtain⟨o,ho,hc,hd⟩:=id hit;obtain⟨od,g1,g2,g3⟩:=hm
 unfold pyNext;refine zaa (wpAny_attempt (zbk (name:=zaU "__next__") tt zca (za9 zca tt PySem.F.entry_dict_keyiterator_next ?_ (PySem.F.args_dict_keyiterator_next_1 _))))
 refine zaa (zab (zaa (zaa ?_)))
 first|refine zaa (zcb tt (zab ?_))|refine zaa (wpAny_typeNameOf_keyiter tt (zab ?_))
 refine zaa (wpAny_fieldsOf ho hd ?_);simp only[show zb6 "dict_keyiterator" = false by decide,zby,if_false]
 show wpAny _ _ (if(zal d == zaD)=true then _ else _) _ _ s;rw[if_neg (show ¬ ((zal d == zaD)=true)from zaq)]
 refine zaa (zab (zaa (zbx g1 g3 ?_)));rw[if_neg (by simp)]
 refine zaa (zab (zaa (zbX g1 g3 ?_)));rw[if_neg (by simp)]
 refine zab ?_;simp only[show ¬ ((i:Int)<0)from by omega,if_false,zbz,Array.getElem?_eq_none hx]
 refine zaa ?_;first|refine zaa (zcb tt (zab ?_))|refine zaa (wpAny_typeNameOf_keyiter tt (zab ?_))
 show wpAny _ _ (setField (.ref it) 0 .none >>= _) _ _ s;refine zaa (wpAny_setField ho hd (by simp) ?_)
 show wpAny _ _ (newExc (.type "StopIteration") [] >>= _) _ _ _;refine zaa ?_;simp only[newExc,newTuple]
 refine zaa (zbc ?_ (by size_fits));refine zaa (m:=firstArgMember _ _) (wpAny_of_eq (a:=zaD) (by first|rfl|(simp only[firstArgMember];rfl)) ?_)
 refine zbc ?_ (by size_fits);simp only[raiseNew]
 refine zaa (wpAny_handled ?_);rw[show A.in1.handled=none from hh]
 refine zaa (zab (wpAny_throw ?_));refine zaa (wpAny_isInstance (T := "StopIteration") (b:=true) ⟨_,zat _ rfl,rfl⟩ isSubtype_stop ?_)
 exact zab (hQ _ (((zbO ..).extBut.push _).push _))
noncomputable def ItI(h:Heap)(it d:Addr)(i n ep:Nat)(own fl:Value)(ok ov:Value):Prop:=
 h.get? it=some {cls:=.type "dict_itemiterator",dict:=none,data:=.fields #[own,fl,.ref d,.int i 0,.int n 0,.int ep 0,ok,ov],slots:=#[]}
noncomputable def ItSt(h:Heap)(it d S:Addr)(i n ep:Nat):Prop:=
 (i=0/\∃ok ov,ItI h it d i n ep .none (.bool false) ok ov)\/∃ok ov a f oa,ItI h it d i n ep (rawInt (a:Nat)) (.bool f) ok ov/\h.get? a=some oa/\a≠it/\a≠S
theorem qfw{own fl ok ov:Value}{Q:Option Value->Shared->Prop}(hit:ItI s.heap it d i es.size ep own fl ok ov)(hm:RawD s.heap d es ep)(hx:i<es.size)
  (hQ:∀h1:Heap, ItI h1 it d (i+1) es.size ep own fl ok ov -> zaM it s.heap h1 ->
   wpAny (model prog w) A.in1 (zcc (.ref it) 6 es[i].key es[i].val) (λv s'=>Q (some v) s') (λ_ _=>False) {s with heap:=h1}):wpAny (model prog w) A (pyNext (.ref it)) Q E s:=by
 obtain⟨od,g1,g2,g3⟩:=hm
 have tt:s.TypeIs (.ref it) "dict_itemiterator" := ⟨_,hit,rfl⟩
 unfold pyNext;refine zaa (wpAny_attempt (zbk (name:=zaU "__next__") tt zcd (za9 zcd tt PySem.F.entry_dict_itemiterator_next ?_ (PySem.F.args_dict_itemiterator_next_1 _))))
 refine zaa (zab (zaa (zaa ?_)))
 first|refine zaa (zce tt (zab ?_))|refine zaa (wpAny_typeNameOf_itemiter tt (zab ?_))
 refine zaa (wpAny_fieldsOf hit rfl ?_);simp only[show zb6 "dict_itemiterator" = true by decide,if_true]
 show wpAny _ _ (if(zal d == zaD)=true then _ else _) _ _ s;rw[if_neg (show ¬ ((zal d == zaD)=true)from zaq)]
 refine zaa (zab (zaa (zbx g1 g3 ?_)));rw[if_neg (by simp)]
 refine zaa (zab (zaa (zbX g1 g3 ?_)));rw[if_neg (by simp)]
 refine zab ?_;simp only[show ¬ ((i:Int)<0)from by omega,if_false,zbz,Array.getElem?_eq_getElem hx]
 refine zaa ?_;first|refine zaa (zce tt (zab ?_))|refine zaa (wpAny_typeNameOf_itemiter tt (zab ?_))
 refine zaa (wpAny_isOneOf_itemiter tt ?_);show wpAny _ _ (setField (.ref it) 3 (rawInt ((i:Int)+1)) >>= _) _ _ s
 refine zaa (za5 hit (by simp) λh1 k1 k2=>?_)
 have k3:ItI h1 it d (i+1) es.size ep own fl ok ov:=by
  have e:((i+1:Nat):Int)=(i:Int)+1:=by omega
  unfold ItI;rw[e];simpa[rawInt]using k1
 have t1:Shared.TypeIs {s with heap:=h1} (.ref it) "dict_itemiterator" := ⟨_,k3,rfl⟩
 refine zaa (zbb (zaa (wpAny_isOneOf_itemiter t1 ?_)));refine zaa (wpAny_isOneOf_itemiter t1 ?_)
 show wpAny _ _ (zcc (.ref it) 6 es[i].key es[i].val) _ _ {s with heap:=h1}
 exact zaZ (hQ h1 k3 k2) (λv s' q=>zab ⟨_,rfl,zab q⟩) λ_ _ z=>z.elim
theorem qjE{S:Addr}{Q:Option Value->Shared->Prop}(hst:ItSt s.heap it d S i es.size ep)(hS:S<s.heap.objs.size)(hm:RawD s.heap d es ep)(hx:i<es.size)
  (hQ:∀h', ItSt h' it d S (i+1) es.size ep -> h'.get? s.heap.objs.size = some {cls := .type "tuple", data := .seq #[es[i].key, es[i].val]} -> h'.objs.size = s.heap.objs.size+1 ->
   (∀b o,b≠it->s.heap.get? b=some o->h'.get? b=some o)->Q (some (.ref s.heap.objs.size)) {s with heap:=h'}):wpAny (model prog w) A (pyNext (.ref it)) Q E s:=by
 have hil:it<s.heap.objs.size:=by
  rcases hst with⟨_,ok,ov,hit⟩|⟨ok,ov,a,f,oa,hit,_⟩ <;> exact zah hit
 rcases hst with⟨_,ok,ov,hit⟩|⟨ok,ov,a,f,oa,hit,ha,hai,haS⟩
 ·refine qfw hit hm hx λh1 k1 k2=>?_
  have z1:h1.objs.size=s.heap.objs.size:=k2.1
  unfold zcc;refine zaa (wpAny_newTuple ?_)
  have m1:ItI (h1.push {cls:=.type "tuple",data:=.seq #[es[i].key,es[i].val]}) it d (i+1) es.size ep .none (.bool false) ok ov:=zag _ k1
  have m2:(h1.push {cls:=.type "tuple",data:=.seq #[es[i].key,es[i].val]}).get? s.heap.objs.size=some {cls:=.type "tuple",data:=.seq #[es[i].key,es[i].val]}:=by rw[<- z1];exact zat _ rfl
  have m3:(h1.push {cls:=.type "tuple",data:=.seq #[es[i].key,es[i].val]}).objs.size=s.heap.objs.size+1:=by rw[zbA,z1]
  have m4:∀b o,b≠it->s.heap.get? b=some o->(h1.push {cls:=.type "tuple",data:=.seq #[es[i].key,es[i].val]}).get? b=some o:=λb o hb e=>zag _ (k2.extBut b o hb e)
  show wpAny _ _ (zcf (.ref it) >>= _) _ _ {s with heap:=h1.push {cls:=.type "tuple",data:=.seq #[es[i].key,es[i].val]} }
  dsimp only;rw[z1]
  generalize h1.push {cls:=.type "tuple",data:=.seq #[es[i].key,es[i].val]}=h2 at *
  refine zaa ?_;unfold zcf;refine zaa (zaI m1 rfl (x:=.none) rfl (zab ?_));simp only[if_true]
  refine zaa (zaI m1 rfl (x:=ok) rfl (zaa (zaI m1 rfl (x:=ov) rfl ?_)))
  refine zaa (za5 m1 (by simp) λh3 e3 s3=>?_)
  have e3':ItI h3 it d (i+1) es.size ep .none (.bool false) es[i].key ov:=e3
  refine zaa (za5 e3' (by simp) λh4 e4 s4=>?_)
  have e4':ItI h4 it d (i+1) es.size ep .none (.bool false) es[i].key es[i].val:=e4
  refine zaa (za5 e4' (by simp) λh5 e5 s5=>?_)
  have e5':ItI h5 it d (i+1) es.size ep (rawInt (s.heap.objs.size:Nat)) (.bool false) es[i].key es[i].val:=e5
  refine zaa (za5 e5' (by simp) λh6 e6 s6=>?_)
  have e6':ItI h6 it d (i+1) es.size ep (rawInt (s.heap.objs.size:Nat)) (.bool false) es[i].key es[i].val:=e6
  have ex:∀b o,b≠it->h2.get? b=some o->h6.get? b=some o:=λb o hb e=>(show zaM it h5 h6 from s6).extBut b o hb ((show zaM it h4 h5 from s5).extBut b o hb ((show zaM it h3 h4 from s4).extBut b o hb ((show zaM it h2 h3 from s3).extBut b o hb e)))
  have sz:h6.objs.size=s.heap.objs.size+1:=by
   rw[(show zaM it h5 h6 from s6).1,(show zaM it h4 h5 from s5).1,(show zaM it h3 h4 from s4).1,(show zaM it h2 h3 from s3).1,m3]
  exact zaa (wpAny_letGo (zab (hQ h6 (.inr ⟨_,_,_,false,_,e6',ex _ _ (zaF hil) m2,zaF hil,zaF hS⟩) (ex _ _ (zaF hil) m2) sz λb o hb e=>ex b o hb (m4 b o hb e))))
 ·refine qfw hit hm hx λh1 k1 k2=>?_
  have z1:h1.objs.size=s.heap.objs.size:=k2.1
  unfold zcc;refine zaa (wpAny_newTuple ?_)
  have m1:ItI (h1.push {cls:=.type "tuple",data:=.seq #[es[i].key,es[i].val]}) it d (i+1) es.size ep (rawInt (a:Nat)) (.bool f) ok ov:=zag _ k1
  have m2:(h1.push {cls:=.type "tuple",data:=.seq #[es[i].key,es[i].val]}).get? s.heap.objs.size=some {cls:=.type "tuple",data:=.seq #[es[i].key,es[i].val]}:=by rw[<- z1];exact zat _ rfl
  have m3:(h1.push {cls:=.type "tuple",data:=.seq #[es[i].key,es[i].val]}).objs.size=s.heap.objs.size+1:=by rw[zbA,z1]
  have m4:∀b o,b≠it->s.heap.get? b=some o->(h1.push {cls:=.type "tuple",data:=.seq #[es[i].key,es[i].val]}).get? b=some o:=λb o hb e=>zag _ (k2.extBut b o hb e)
  show wpAny _ _ (zcf (.ref it) >>= _) _ _ {s with heap:=h1.push {cls:=.type "tuple",data:=.seq #[es[i].key,es[i].val]} }
  dsimp only;rw[z1]
  generalize h1.push {cls:=.type "tuple",data:=.seq #[es[i].key,es[i].val]}=h2 at *
  refine zaa ?_;unfold zcf;refine zaa (zaI m1 rfl (x:=rawInt (a:Nat)) rfl ?_)
  show wpAny _ _ (loadIfAlive ((a:Int).toNat) >>= _) _ _ _;rw[zbz]
  refine zaa (kdx_alive (m4 a oa hai ha) ?_);simp only[Option.isNone_some,zby,if_false]
  refine zaa (zaI m1 rfl (x:=.bool f) rfl ?_)
  have fin:∀h3:Heap,ItI h3 it d (i+1) es.size ep (rawInt (a:Nat)) (.bool true) ok ov->zaM it h2 h3->Q (some (.ref s.heap.objs.size)) {s with heap:=h3}:=λh3 e3 s3=>
   hQ h3 (.inr ⟨_,_,a,true,oa,e3,s3.extBut a oa hai (m4 a oa hai ha),hai,haS⟩) (s3.extBut _ _ (zaF hil) m2) (by rw[s3.1,m3]) λb o hb e=>s3.extBut b o hb (m4 b o hb e)
  cases f with
  | true=>
   rw[if_neg (show ¬ ((Value.bool true != Value.bool true)=true)from zaq)];refine zab ?_
   simp only[zby,if_false];exact zab (fin h2 m1 (Heap.SameBut.refl _ _))
  | false=>
   rw[if_pos (show(Value.bool false != Value.bool true)=true from rfl)];refine zaa (za5 m1 (by simp) λh3 e3 s3=>?_)
   refine zab ?_;simp only[zby,if_false];exact zab (fin h3 e3 s3)
theorem qhd{own fl ok ov:Value}{Q:Option Value->Shared->Prop}(hh:A.handled=none)(hit:ItI s.heap it d i es.size ep own fl ok ov)(hm:RawD s.heap d es ep)(hx:es.size<=i)
  (hQ:∀h',Heap.ExtBut it s.heap h'->Q none {s with heap:=h'}):wpAny (model prog w) A (pyNext (.ref it)) Q E s:=by
 obtain⟨od,g1,g2,g3⟩:=hm
 have tt:s.TypeIs (.ref it) "dict_itemiterator" := ⟨_,hit,rfl⟩
 unfold pyNext;refine zaa (wpAny_attempt (zbk (name:=zaU "__next__") tt zcd (za9 zcd tt PySem.F.entry_dict_itemiterator_next ?_ (PySem.F.args_dict_itemiterator_next_1 _))))
 refine zaa (zab (zaa (zaa ?_)))
 first|refine zaa (zce tt (zab ?_))|refine zaa (wpAny_typeNameOf_itemiter tt (zab ?_))
 refine zaa (wpAny_fieldsOf hit rfl ?_);simp only[show zb6 "dict_itemiterator" = true by decide,if_true]
 show wpAny _ _ (if(zal d == zaD)=true then _ else _) _ _ s;rw[if_neg (show ¬ ((zal d == zaD)=true)from zaq)]
 refine zaa (zab (zaa (zbx g1 g3 ?_)));rw[if_neg (by simp)]
 refine zaa (zab (zaa (zbX g1 g3 ?_)));rw[if_neg (by simp)]
 refine zab ?_;simp only[show ¬ ((i:Int)<0)from by omega,if_false,zbz,Array.getElem?_eq_none hx]
 refine zaa ?_;first|refine zaa (zce tt (zab ?_))|refine zaa (wpAny_typeNameOf_itemiter tt (zab ?_))
 show wpAny _ _ (setField (.ref it) 2 .none >>= _) _ _ s;refine zaa (wpAny_setField hit rfl (by simp) ?_)
 show wpAny _ _ (newExc (.type "StopIteration") [] >>= _) _ _ _;refine zaa ?_;simp only[newExc,newTuple]
 refine zaa (zbc ?_ (by size_fits));refine zaa (m:=firstArgMember _ _) (wpAny_of_eq (a:=zaD) (by first|rfl|(simp only[firstArgMember];rfl)) ?_)
 refine zbc ?_ (by size_fits);simp only[raiseNew]
 refine zaa (wpAny_handled ?_);rw[show A.in1.handled=none from hh]
 refine zaa (zab (wpAny_throw ?_));refine zaa (wpAny_isInstance (T := "StopIteration") (b:=true) ⟨_,zat _ rfl,rfl⟩ isSubtype_stop ?_)
 exact zab (hQ _ (((zbO ..).extBut.push _).push _))
theorem ItSt.keep{h h':Heap}{S:Addr}{n:Nat}(x:ItSt h it d S i n ep)(hk:∀b o,b≠S->h.get? b=some o->h'.get? b=some o)(hI:it≠S):ItSt h' it d S i n ep:=by
 rcases x with⟨e,ok,ov,hit⟩|⟨ok,ov,a,f,oa,hit,ha,hai,haS⟩
 ·exact .inl ⟨e,ok,ov,hk _ _ hI hit⟩
 ·exact .inr ⟨ok,ov,a,f,oa,hk _ _ hI hit,hk _ _ haS ha,hai,haS⟩
structure Made(es:Array DictEntry)(lo:Addr)(h:Heap)(as:List Addr):Prop where
 above:∀a∈as,lo<a
 pair:∀(j:Nat) (a:Addr),as[j]?=some a->∃e,es[j]?=some e/\h.get? a=some {cls:=.type "tuple",data:=.seq #[e.key,e.val]}
end
section
variable {prog:zai}{w:World}{A:Around}{s:Shared}{R:Result->Shared->Prop}{es:Array DictEntry}{ep:Nat}
theorem qjN{S I d:Addr}(hh:A.handled=none)(hSI:S<I)(hSd:d≠S)(hId:d≠I)(hn:es.size<=zaj)(res:Value){h0:Heap}
  (hR:∀h' tk acc c as,(∀b o,b≠S->b≠I->h0.get? b=some o->h'.get? b=some o)->h'.get? S=some {cls:=.type "list",dict:=none,data:=.seq acc c,slots:=#[]}->as.length=es.size->Made es I h' as->acc.toList=as.map zal->R (.ok (.ret res)) {s with heap:=h',toks:=tk}) :
  ∀(k i:Nat) (h:Heap) (tk c:Nat) (acc:Array Value) (as:List Addr),es.size-i=k->i<=es.size->ItSt h I d S i es.size ep->RawD h d es ep->(∀b o,b≠S->b≠I->h0.get? b=some o->h.get? b=some o)->
   h.get? S=some {cls:=.type "list",dict:=none,data:=.seq acc c,slots:=#[]}->acc.toList=as.map zal->as.length=i->Made es I h as->I<h.objs.size->
   codeAny (model prog w) A (.builtin "list.extend.loop" ⟨[.ref S,.ref I,res],[]⟩) R {s with heap:=h,toks:=tk}:=by
 have hne:S≠I:=zaw hSI
 intro k
 induction k with
 | zero=>
  intro i h tk c acc as hk hi hst hD hkeep hS hacc hal hG hIs
  have hin:es.size<=i:=by omega
  refine zbF PySem.F.entry_extend_loop ?_;rw[zbG zb7 _]
  show wpAny _ A.in1 (pyNext (.ref I) >>= _) _ _ _
  have fin:∀h',Heap.ExtBut I h h'->R (.ok (.ret res)) {s with heap:=h',toks:=tk}:=λh' he=>by
   refine hR h' tk acc c as (λb o h1 h2 e=>he b o h2 (hkeep b o h1 h2 e)) (he S _ hne hS) (by omega) ⟨hG.above,λj a hj=>?_⟩ hacc
   obtain⟨e,e1,e2⟩:=hG.pair j a hj
   exact⟨e,e1,he a _ (zaF (hG.above a (zaH hj))) e2⟩
  rcases hst with⟨_,ok,ov,hit⟩|⟨ok,ov,a,f,oa,hit,_⟩
  ·exact zaa (qhd (s:={s with heap:=h,toks:=tk}) (A:=A.in1) hh hit hD hin λh' he=>zab (fin h' he))
  ·exact zaa (qhd (s:={s with heap:=h,toks:=tk}) (A:=A.in1) hh hit hD hin λh' he=>zab (fin h' he))
 | succ k ih=>
  intro i h tk c acc as hk hi hst hD hkeep hS hacc hal hG hIs
  have hlt:i<es.size:=by omega
  have hsz:acc.size=i:=by rw[<- za7,hacc,zan,hal]
  refine zbF PySem.F.entry_extend_loop ?_;rw[zbG zb7 _]
  show wpAny _ A.in1 (pyNext (.ref I) >>= _) _ _ _
  refine zaa (qjE (s:={s with heap:=h,toks:=tk}) (S:=S) hst (zah hS) hD hlt λh' hst' ht hz hkp=>?_)
  dsimp only at ht hz hkp ⊢
  have hS':=hkp S _ hne hS
  have hSl:S<h.objs.size:=zah hS
  have up:∀b o,b≠S->h'.get? b=some o->(h'.update S (zba (·.push (zal h.objs.size)))).get? b=some o:=λb o hb e=>(zbl _ _ (zaJ hb)).trans e
  show wpAny _ A.in1 (updateSeq S (·.push (zal h.objs.size)) >>= _) _ _ _
  refine zaa (zbY hS' rfl ?_ (by rw[hsz];omega) (by show(acc.push (zal h.objs.size)).size<=zaj+1;rw[Array.size_push,hsz];omega))
  refine zab ⟨zbf zb7 _,ih (i+1) _ tk _ (acc.push (zal h.objs.size)) (as++[h.objs.size]) (by omega) hlt (hst'.keep up (zaJ hne)) (hD.at' λo e=>up d o hSd (hkp d o hId e)) (λb o h1 h2 e=>up b o h1 (hkp b o h2 (hkeep b o h1 h2 e))) (zbv _ hS' rfl) (by rw[Array.toList_push,hacc,zbm];rfl) (by rw[za8,hal];rfl) ⟨λa ha=>?_,λj b hj=>?_⟩ ?_⟩
  ·rcases List.mem_append.mp ha with ha|ha
   ·exact hG.above a ha
   ·rw[List.mem_singleton.mp ha];exact hIs
  ·by_cases h1:j<as.length
   ·rw[zb4 h1]at hj
    obtain⟨e,e1,e2⟩:=hG.pair j b hj
    have hb:=hG.above b (zaH hj)
    exact⟨e,e1,up b _ (zaF (Nat.lt_trans hSI hb)) (hkp b _ (zaF hb) e2)⟩
   ·rw[List.getElem?_append_right (by omega)]at hj
    have:j-as.length=0:=by
     by_cases z:j-as.length=0
     ·exact z
     ·rw[List.getElem?_eq_none (by simp only[List.length_singleton];omega)]at hj;cases hj
    rw[this]at hj
    cases hj
    have e:j=i:=by omega
    subst e
    exact⟨es[j],by simp[hlt],up _ _ (zaF hSl) ht⟩
  ·have e:=up _ _ (zaF hSl) ht
   exact Nat.lt_trans hIs (zah e)
end
section
variable {prog:zai}{w:World}{A:Around}{E:Value->Shared->Prop}{s:Shared}{r d:Addr}{es:Array DictEntry}{ep:Nat}
theorem qjp{Q:Value->Shared->Prop}(hv:s.heap.IsItemsView r d)(hm:RawD s.heap d es ep)
  (hQ:Q (.ref s.heap.objs.size) {s with heap:=s.heap.push {cls:=.type "dict_itemiterator",data:=.fields #[.none,.bool false,.ref d,.int 0 0,.int es.size 0,.int ep 0,.none,.none]} }):wpAny (model prog w) A (pyIter (.ref r)) Q E s:=by
 have tt:=hv.typeIs
 obtain⟨ov,v1,v2,v3⟩:=id hv;obtain⟨o,g1,g2,g3⟩:=hm
 refine wpAny_pyIter_slot tt PySem.F.slot_dict_items_iter (za9 PySem.F.slot_dict_items_iter tt PySem.F.entry_dict_items_iter ?_ (PySem.F.args_dict_items_iter_1 _));unfold Builtin.«dict_items.__iter__»
 refine zaa (zab (zaa ?_));unfold Builtin.Dict_items.dictOf;refine zaa (zaI v1 v3 (x:=.ref d) rfl (zab ?_))
 refine zaa ?_;unfold Builtin.Dict_items.newIterator
 refine zaa (zbx g1 g3 (zaa (zbX g1 g3 ?_)));simp only[show zb6 "dict_itemiterator" = true by decide,if_true]
 refine zbc (zab ⟨_,rfl, "dict_itemiterator",_,⟨_,zat _ rfl,rfl⟩,PySem.F.slot_dict_itemiterator_next.lookup,?_⟩) (by simp only[sizeOk,Builtin.Dict_items.ownedTupleFields,zau,za8,zaT,List.length_nil,sizeLine_eq];omega)
 simpa[rawInt,Builtin.Dict_items.ownedTupleFields]using hQ
theorem qgl{R:Result->Shared->Prop}(hh:A.handled=none)(hv:s.heap.IsItemsView r d)(hm:RawD s.heap d es ep)(S:Addr)(hSr:S≠r)(hSd:d≠S)(res:Value)(c₀:Nat)(hS:s.heap.get? S=some {cls:=.type "list",data:=.seq #[] c₀})
  (hR:∀h' tk acc c as,(∀b o,b≠S->s.heap.get? b=some o->h'.get? b=some o)->h'.get? S=some {cls:=.type "list",dict:=none,data:=.seq acc c,slots:=#[]}->as.length=es.size->Made es s.heap.objs.size h' as->acc.toList=as.map zal->R (.ok (.ret res)) {s with heap:=h',toks:=tk}) (hn:es.size<=zaj) :
  wpAny (model prog w) A.in1 (Builtin.List.listExtendWith (.ref S) (.ref r) res)
   (λfin s'=>match fin with | .done f=>R (.ok f) s' | .again c'=>c'.quiet=true/\codeAny (model prog w) A c' R s') (λe s'=>R (.error e) s') s:=by
 have hSI:S<s.heap.objs.size:=zah hS
 have hdI:d<s.heap.objs.size:=by
  obtain⟨o,e,_⟩:=hm
  exact zah e
 have key:∀(h:Heap) (c₁ tk:Nat),(∀b o,b≠S->(s.heap.push {cls:=.type "dict_itemiterator",data:=.fields #[.none,.bool false,.ref d,.int 0 0,.int es.size 0,.int ep 0,.none,.none]}).get? b=some o->h.get? b=some o)->
   h.get? S=some {cls:=.type "list",data:=.seq #[] c₁}->codeAny (model prog w) A (.builtin "list.extend.loop" ⟨[.ref S,.ref s.heap.objs.size,res],[]⟩) R {s with heap:=h,toks:=tk}:=by
  intro h c₁ tk hk hS1
  have hI:=hk s.heap.objs.size _ (zaF hSI) (zat _ rfl)
  exact qjN (es:=es) (ep:=ep) (s:=s) (h0:=s.heap) hh hSI hSd (zaw hdI) hn res (λh' tk' acc c as hk' hS' hl hG hacc=>hR h' tk' acc c as (λb o hb e=>hk' b o hb (zaw (zah e)) e) hS' hl hG hacc)
   es.size 0 h tk c₁ #[] [] (Nat.sub_zero _) (zaX _) (.inl ⟨rfl,.none,.none,hI⟩) (hm.at' λo e=>hk d o hSd (zag _ e)) (λb o hb _ e=>hk b o hb (zag _ e)) hS1 rfl rfl ⟨(λ_ ha=>nomatch ha),(λj a hj=>by simp at hj)⟩ (zah hI)
 unfold Builtin.List.listExtendWith;refine zaa (wpAny_typeOf (T := "dict_items") hv.typeIs ?_)
 simp only[show Builtin.List.listSameRef (.ref S) (.ref r)=false by simp[Builtin.List.listSameRef,hSr],show(Value.type "dict_items" == Value.type "list")=false by decide,show(Value.type "dict_items" == Value.type "tuple")=false by decide,Bool.or_false,zby,if_false]
 refine zaa (qjp hv hm ?_)
 have p1:=zag {cls:=.type "dict_itemiterator",data:=.fields #[.none,.bool false,.ref d,.int 0 0,.int es.size 0,.int ep 0,.none,.none]} hS
 refine zaa (zbb (kdx_hint (let ⟨o,ho,hc,_⟩:=hv;⟨o,zag _ ho,hc⟩) ?_));refine wpAny_ite_split (λ_=>?_) (λ_=>zab ⟨zbf zb7 _,key _ c₀ _ (λb o _ e=>e) p1⟩)
 refine zaa (wpAny_rule (zaa ?_));show wpAny _ _ (updateSeq S (·.push .none) >>= λ_=>updateSeq S (·.pop)) _ _ _
 refine zaa (zbY p1 rfl ?_)
 have p2:=zbv (zba (·.push zaD)) p1 rfl
 refine zbY (hz:=by seq_fits) p2 rfl ?_
 have p3:=zbv (zba (·.pop)) p2 rfl
 exact zab ⟨zbf zb7 _,key _ _ _ (λb o hb e=>(zbl _ _ (zaJ hb)).trans ((zbl _ _ (zaJ hb)).trans e)) p3⟩
theorem qfI{R:List Value->Shared->Prop}(hh:A.handled=none)(hv:s.heap.IsItemsView r d)(hm:RawD s.heap d es ep)(hn:es.size<=zaj)
  (h:∀(h':Heap) (tk:Nat) (as:List Addr),(∀b o,s.heap.get? b=some o->h'.get? b=some o)->as.length=es.size->Made es s.heap.objs.size h' as->R (as.map zal) {s with heap:=h',toks:=tk}) :
  wpAny (model prog w) A (collect (.ref r)) R E s:=by
 have hr:r<s.heap.objs.size:=let ⟨_,ho,_⟩:=hv;zah ho
 have hd:d<s.heap.objs.size:=let ⟨_,ho,_⟩:=hm;zah ho
 unfold collect;refine zaa (wpAny_runValue (zbF entry_proto_collect' ?_));rw[zbG PySem.F.plain_proto_collect _]
 show wpAny _ A.in1 (newList [] >>= λl=>again (.builtin "list.__iadd__" ⟨[l,.ref r],[]⟩)) _ _ s;refine zaa (zbc ?_)
 refine zab ⟨zbf PySem.F.plain_list_iadd _,zbF entry_list_iadd' ?_⟩;rw[zbG PySem.F.plain_list_iadd _]
 have p1:(s.heap.push {cls:=.type "list",data:=.seq ([]:List Value).toArray}).get? s.heap.objs.size=some {cls:=.type "list",data:=.seq #[]}:=zat _ rfl
 show wpAny _ A.in1 (Builtin.List.listExtendWith (.ref s.heap.objs.size) (.ref r) (.ref s.heap.objs.size)) _ _ _
 have key:=qgl (prog:=prog) (w:=w) (A:=A) (s:={s with heap:=s.heap.push {cls:=.type "list",data:=.seq ([]:List Value).toArray} }) (es:=es) (ep:=ep)
  (R:=λ(q:Result) (s':Shared) => ∃(h':Heap) (tk:Nat) (acc':Array Value) (c':Nat) (as:List Addr), q = .ok (.ret (.ref s.heap.objs.size)) /\ s' = {s with heap:=h', toks:=tk} /\
   (∀b o,s.heap.get? b=some o->h'.get? b=some o)/\h'.get? s.heap.objs.size=some {cls:=.type "list",dict:=none,data:=.seq acc' c',slots:=#[]}/\as.length=es.size/\Made es s.heap.objs.size h' as/\acc'.toList=as.map zal)
  hh (let ⟨o,ho,x⟩:=hv;⟨o,zag _ ho,x⟩) (hm.at' λo e=>zag _ e) s.heap.objs.size (zaF hr) (zaw hd) (.ref s.heap.objs.size) 0 p1
  (λh' tk acc' c' as hk hS' hl hG hacc=>⟨h',tk,acc',c',as,rfl,rfl,λb o e=>hk b o (zaw (zah e)) (zag _ e),hS',hl,⟨λa ha=>Nat.lt_of_le_of_lt (by show s.heap.objs.size<=(s.heap.push _).objs.size;rw[zbA];exact Nat.le_succ _) (hG.above a ha),hG.pair⟩,hacc⟩) hn
 refine zaZ key (λfin s' x=>?_) λe s' x=>?_
 ·cases fin with
  | done f=>
   obtain⟨h',tk,acc',c',as,e,rfl,hk,hS',hl,hG,hacc⟩:=x
   cases e;show wpAny _ A (load s.heap.objs.size >>= _) _ _ _;refine zaa (wpAny_load hS' (zab ?_))
   rw[hacc];exact h h' tk as hk hl hG
  | again c₁=>
   refine⟨x.1,codeAny_mono x.2 λq s₂ y=>?_⟩
   obtain⟨h',tk,acc',c',as,e,rfl,hk,hS',hl,hG,hacc⟩:=y
   cases e;show wpAny _ A (load s.heap.objs.size >>= _) _ _ _;refine zaa (wpAny_load hS' (zab ?_))
   rw[hacc];exact h h' tk as hk hl hG
 ·obtain⟨_,_,_,_,_,z,_⟩:=x
  cases z
end
section
variable {prog:zai}{w:World}{A:Around}{E:Value->Shared->Prop}{s:Shared}{a L:Addr}{vs:List Value}{m:Str->Option Value}
theorem qlB{n:Nat}{P:PySem.Fin->Shared->Prop}{lt:Nat->Nat->Bool}(O:Ord vs.length lt)(hns:s.heap.Ns L m)(ho:s.heap.get? a=some (seqObj "list" vs.toArray n))(haL:a≠L)(h64:vs.length<64)
  (hkk:2 <= vs.length -> ∀h':Heap, (∀b o, b≠a -> b≠L -> s.heap.get? b = some o -> h'.get? b = some o) -> ∃κ, (∀Q':SortKind -> Shared -> Prop, Q' κ {s with heap:=h'} -> wpAny (model prog w) A (keyKind' vs.toArray) Q' (λ_ _ => False) {s with heap:=h'}) /\
   ∀i j C,i<vs.length->j<vs.length->i≠j->C (lt i j) {s with heap:=h'}->kas_ask prog w A κ vs i j C {s with heap:=h'})
  (hP:∀(p:Array Nat) (h':Heap) (c:Nat), PermR vs.length p -> qaU lt p vs.length -> h'.get? a = some (seqObj "list" (List.toArray (p.toList.map λi => vs.getD i zaD)) c) ->
   (∀b o,b≠a->b≠L->s.heap.get? b=some o->h'.get? b=some o)->h'.Ns L m->P (.done (.ret .none)) {s with heap:=h'}) :
  wpAny (model prog w) A (Builtin.«list.sort» ⟨[.ref a],[]⟩) P E s:=by
 by_cases h2:2<=vs.length
 ·have N:News (Att.qhu s.heap) L s.heap (Att.ledger s.heap L a):=λ⟨b,o⟩ hp=>⟨(Att.qan.mp hp).2.2,(Att.qan.mp hp).1,Att.qb6 _ _⟩
  refine kat_list_sort (Att.qok hns) N ho haL (Att.qb6 _ _) (λ⟨b,o⟩ hp=>(Att.qan.mp hp).2.1) h2 h64 λe1 h' F' N'=>?_
  have keep:∀b o,b≠a->b≠L->s.heap.get? b=some o->h'.get? b=some o:=λb o hb hL e=>(N' (b,o) (zaz _ (Att.qan.mpr ⟨hL,hb,e⟩))).1
  obtain⟨κ,k1,k2⟩:=hkk h2 h' keep
  refine k1 _ (qjD k2 _ (qnQ O (by omega) λp hp hs=>?_))
  refine KasFin.intro F' N' (.head λ⟨b,o⟩ hb=>(Att.qan.mp hb).2.1) λh'' c F'' N''=>?_
  exact hP p h'' c hp hs (N'' _ (zay ..)).1 (λb o hb hL e=>(N'' (b,o) (zaz _ (Att.qan.mpr ⟨hL,hb,e⟩))).1) F''.ns
 ·have hlt:vs.toArray.size<2:=by rw[zau];omega
  rw[list_sort_plain]
  obtain⟨e1,ho1⟩:∃e1,(s.heap.update a (zba λ_=>(#[]:Array Value))).get? a=some (seqObj "list" #[] e1):=⟨_,get?_update_seq ho λ_=>#[]⟩
  refine zaa (listItems_at ho rfl (zaa (listUpdate_at ho rfl ?_ (by rw[zau,sizeLine_eq];omega) (zaX _))))
  refine zaa (seqEpoch_at ho1 rfl (zaa (wpAny_newTuple ?_ (by show vs.length<=_;rw[sizeLine_eq];omega))))
  refine zaa (wpAny_newList ?_ (zaX _));refine zbb ?_
  show wpAny (model prog w) A _ P E {s with heap:=((s.heap.update a (zba λ_=>(#[]:Array Value))).push (seqObj "tuple" vs.toArray 0)).push (seqObj "list" #[] 0)}
  dsimp only;rw[if_pos hlt,if_pos hlt]
  have g1:(((s.heap.update a (zba λ_=>(#[]:Array Value))).push (seqObj "tuple" vs.toArray 0)).push (seqObj "list" #[] 0)).get? a=some (seqObj "list" #[] e1):=zag _ (zag _ ho1)
  refine zaa (zab ?_);rw[StateT.run_pure];refine zaa (zab ?_);dsimp only
  refine zaa (seqEpoch_at g1 rfl (zaa (listUpdate_at g1 rfl ?_ (zaX _) ?_)))
  ·simp only[bne_self_eq_false,zby,if_false]
   have s1:=zbO s.heap a (zba λ_=>(#[]:Array Value))
   have s2:=zbO (((s.heap.update a (zba λ_=>(#[]:Array Value))).push (seqObj "tuple" vs.toArray 0)).push (seqObj "list" #[] 0)) a (zba λ_=>(arrOf (SortSt.mk' general' (vs.toArray.zip vs.toArray) #[] 7 none)).map (·.2))
   have keep:∀b o,b≠a->s.heap.get? b=some o->_:=λb o hb e=>s2.extBut b o hb (zag (seqObj "list" #[] 0) (zag (seqObj "tuple" vs.toArray 0) (s1.extBut b o hb e)))
   have eo:(arrOf (SortSt.mk' general' (vs.toArray.zip vs.toArray) #[] 7 none)).map (·.2)=List.toArray ((List.toArray (zav vs.length)).toList.map λi=>vs.getD i zaD):=by
    show((vs.toArray.zip vs.toArray).map (·.2))=_
    apply Array.toList_inj.mp
    rw[Array.toList_map,Array.toList_zip]
    show(vs.zip vs).map (·.2)=(zav vs.length).map λi=>vs.getD i zaD
    apply List.ext_getElem
    ·simp
    ·intro i h5 h6
     have:i<vs.length:=by simpa using h6
     simp[this]
   obtain⟨c,hc⟩:∃c,((((s.heap.update a (zba λ_=>(#[]:Array Value))).push (seqObj "tuple" vs.toArray 0)).push (seqObj "list" #[] 0)).update a (zba λ_=>(arrOf (SortSt.mk' general' (vs.toArray.zip vs.toArray) #[] 7 none)).map (·.2))).get? a=some (seqObj "list" ((arrOf (SortSt.mk' general' (vs.toArray.zip vs.toArray) #[] 7 none)).map (·.2)) c):=⟨_,get?_update_seq g1 _⟩
   exact zab (hP (List.toArray (zav vs.length)) _ c (Array.Perm.refl _) (λi j h1 h3=>absurd h3 (by omega)) (by rw[<- eo];exact hc) (λb o hb _ e=>keep b o hb e) (hns.at' λo e=>keep L o (zaJ haL) e))
  ·rw[Array.size_map]
   show(vs.toArray.zip vs.toArray).size<=_
   rw[sizeLine_eq]
   simp
   omega
end
end My
namespace My
open PySem PySem.Spec PyProof.Rows PySem.W PySem.SeqAt
theorem qf8:∀ns:List Int,HT.lexLt ns ns=false
 | []=>rfl
 | x::xs=>by rw[HT.qaG,if_pos rfl];exact qf8 xs
theorem qgK:∀a b c:List Int,HT.lexLt a b=true->HT.lexLt b c=true->HT.lexLt a c=true
 | [],[],c,h,_=>by cases h
 | [],_::_,[],_,h=>by cases h
 | [],_::_,_::_,_,_=>rfl
 | _::_,[],_,h,_=>by cases h
 | _::_,_::_,[],_,h=>by cases h
 | x::xs,y::ys,z::zs,h1,h2=>by
  rw[HT.qaG]at h1 h2 ⊢
  by_cases e1:x=y
  ·by_cases e2:y=z
   ·rw[if_pos e1]at h1;rw[if_pos e2]at h2;rw[if_pos (e1.trans e2)];exact qgK xs ys zs h1 h2
   ·rw[if_neg e2]at h2;rw[if_neg (λq=>e2 (e1.symm.trans q)),e1];exact h2
  ·rw[if_neg e1]at h1
   have h1:=of_decide_eq_true h1
   by_cases e2:y=z
   ·rw[if_neg (λq=>e1 (q.trans e2.symm))];exact decide_eq_true (by omega)
   ·rw[if_neg e2]at h2
    have h2:=of_decide_eq_true h2
    rw[if_neg (by omega)];exact decide_eq_true (by omega)
theorem qf1:∀a b:List Int,a≠b->HT.lexLt a b=true\/HT.lexLt b a=true
 | [],[],h=>absurd rfl h
 | [],_::_,_=>.inl rfl
 | _::_,[],_=>.inr rfl
 | x::xs,y::ys,h=>by
  rw[HT.qaG,HT.qaG]
  by_cases e:x=y
  ·rw[if_pos e,if_pos e.symm]
   exact qf1 xs ys λq=>h (by rw[e,q])
  ·rw[if_neg e,if_neg (λq=>e q.symm)]
   rcases Int.lt_or_gt_of_ne e with q|q
   ·exact .inl (decide_eq_true q)
   ·exact .inr (decide_eq_true q)
noncomputable def ltK(ks:List (List Int))(i j:Nat):Bool:=HT.lexLt (ks.getD i []) (ks.getD j [])
theorem qle{ks:List (List Int)}(hn:ks.Nodup):Ord ks.length (ltK ks) where
 irr:=λi _=>qf8 _
 tr:=λi j k _ _ _ h1 h2=>qgK _ _ _ h1 h2
 tot:=λi j hi hj hne=>qf1 _ _ λe=>hne (by
  have e1:ks.getD i []=ks[i]:=by simp[hi]
  have e2:ks.getD j []=ks[j]:=by simp[hj]
  rw[e1,e2]at e
  exact(List.getElem_inj hn).mp e)
section
variable {prog:zai}{w:World}{A:Around}{E:Value->Shared->Prop}{s:Shared}
noncomputable def TupI(h:Heap)(a:Addr)(ns:List Int):Prop:=∃its:List Value,IsTup h a its.toArray/\zaW its ns
theorem TupI.at'{h h':Heap}{a:Addr}{ns:List Int}(x:TupI h a ns)(k:∀o,h.get? a=some o->h'.get? a=some o):TupI h' a ns:=by
 obtain⟨its,⟨o,e,c⟩,i⟩:=x
 exact⟨its,⟨o,k o e,c⟩,i⟩
theorem qnB{x y:Addr}{ns ms:List Int}(hx:TupI s.heap x ns)(hy:TupI s.heap y ms)(hne:ns≠ms)(hu:A.units<cLine):EqAt A s (.ref x) (.ref y) false:=by
 obtain⟨us,tx,i1⟩:=hx
 obtain⟨vs,ty,i2⟩:=hy
 have ne:x≠y:=λe=>by
  subst e
  obtain⟨o,e1,c1,n,d1⟩:=tx
  obtain⟨o',e2,c2,n',d2⟩:=ty
  rw[e1]at e2;cases e2
  rw[d1]at d2
  injection d2 with d3 _
  have:us=vs:=by simpa using congrArg Array.toList d3
  subst this
  have:∀ {us:List Value} {a b:List Int},zaW us a->zaW us b->a=b:=by
   intro us a b h1
   induction h1 generalizing b with
   | nil=>intro h2;cases h2;rfl
   | cons n t _ ih=>intro h2;cases h2 with|cons _ _ r=>rw[ih r]
  exact hne (this i1 i2)
 have he:∀j (h1:j<us.toArray.size) (h2:j<vs.toArray.size),EqAt A.in1 s us.toArray[j] vs.toArray[j] (decide (ns.getD j 0=ms.getD j 0)):=by
  intro j h1 h2
  have g:∀ {us:List Value} {ns:List Int} {j:Nat} (_:zaW us ns) (h:j<us.length),∃t,us[j]=.int (ns.getD j 0) t:=by
   intro us ns j r
   induction r generalizing j with
   | nil=>intro h;cases h
   | cons n t r ih=>
    intro h
    cases j with
    | zero=>exact⟨t,rfl⟩
    | succ j=>
     obtain⟨t',e⟩:=ih (j:=j) (by simpa using h)
     exact⟨t',by simpa using e⟩
  obtain⟨t,e1⟩:=g i1 (j:=j) (by simpa using h1)
  obtain⟨t',e2⟩:=g i2 (j:=j) (by simpa using h2)
  have a1:us.toArray[j]=us[j]'(by simpa using h1):=by simp
  have a2:vs.toArray[j]=vs[j]'(by simpa using h2):=by simp
  rw[a1,a2,e1,e2]
  exact EqAt.to (EqAt.int_int _ _ _ _) (by simp[Bool.beq_eq_decide_eq])
 refine EqAt.to (EqAt.of_refs ne (RcAt.tuples tx ty hu he)) ?_
 have a1:us.toArray.size=ns.length:=by rw[zau];exact i1.length
 have a2:vs.toArray.size=ms.length:=by rw[zau];exact i2.length
 rw[a1,a2,Bool.eq_false_iff]
 intro z
 rw[zaC]at z
 obtain⟨z1,z2⟩:=z
 have hl:ns.length=ms.length:=by simpa using z2
 rw[zbW]at z1
 refine hne (List.ext_getElem hl λj h1 h2=>?_)
 have:=of_decide_eq_true (z1 j (List.mem_range.mpr (by omega)))
 simpa[h1,h2]using this
noncomputable def qkH(h:Heap)(p a:Addr)(v:Value)(ns:List Int):Prop:=IsTup h p #[.ref a,v]/\TupI h a ns
theorem qjj{p q a b:Addr}{u v:Value}{ns ms:List Int}{Q:Bool->Shared->Prop}(hx:qkH s.heap p a u ns)(hy:qkH s.heap q b v ms)(hne:ns≠ms)(hu:A.units<cLine)(h:Q (HT.lexLt ns ms) s) :
  wpAny (model prog w) A (keyLt' (tuples' false) (.ref p) (.ref q)) Q E s:=by
 obtain⟨⟨ox,x1,x2,n,x3⟩,tx⟩:=hx
 obtain⟨⟨oy,y1,y2,m,y3⟩,ty⟩:=hy
 refine kat_lt x1 x3 y1 y3 ?_
 refine kat_cons (qnB tx ty hne hu prog w _ _ (kat_no ?_))
 obtain⟨us,t1,i1⟩:=tx
 obtain⟨ws,t2,i2⟩:=ty
 exact kat_one _ _ (HT.qdC t1 t2 i1 i2 hu h)
end
end My
namespace My
open PySem PySem.Spec PyProof.Rows L2 PySem.SeqAt
theorem obj_some{P:zai}{w:World}{H:Hp}{h:Heap}{a:Addr}{o:HO}(x:ObjOk P w H h a o):∃ob,h.get? a=some ob:=by
 cases o with
 | lst xs=>obtain⟨_,_,_,_,e⟩:=x;exact⟨_,e⟩
 | tup xs=>obtain⟨_,_,_,ob,e,_⟩:=x;exact⟨ob,e⟩
 | dK kvs=>obtain⟨_,_,_,_,ob,_,_,e,_⟩:=x;exact⟨ob,e⟩
 | dT kvs=>obtain⟨_,_,_,_,ob,_,_,e,_⟩:=x;exact⟨ob,e⟩
 | set S n=>obtain⟨ob,_,_,_,e,_⟩:=x;exact⟨ob,e⟩
 | ins C dx fs=>obtain⟨_,_,_,e,_⟩:=x;exact⟨_,e⟩
 | own y=>exact x
 | xd fs=>obtain⟨_,⟨ob,_,_,e,_⟩,_⟩:=x;exact⟨ob,e⟩
 | rng lo hi=>obtain⟨_,_,_,e⟩:=x;exact⟨_,e⟩
 | frz ob u=>obtain⟨e,_⟩:=x;exact⟨_,e⟩
 | tbl ps=>exact⟨_,(show h.get? a=some _ from x)⟩
 | met f y=>exact⟨_,(show h.get? a=some _ from x)⟩
 | ext φ=>exact x.2.1
theorem qlC{X:Cx}{pins:List (Addr×Obj)}{σ:L2.St}{H H':Hp}{s:Shared}{h':Heap}{t':Nat}(I:Inv X pins σ H s)(keep:∀b o,b≠X.env.locals->s.heap.get? b=some o->h'.get? b=some o)(ns:∀m,s.heap.Ns X.env.locals m->h'.Ns X.env.locals m)
  (same:∀b o,s.heap.get? b=some o->H' b=H b) (new:∀b o,H b=none->H' b=some o->ObjOk X.prog X.w H' h' b o):Inv X pins σ H' {s with heap:=h',toks:=t'}:=by
 have nl:∀b o,H b=some o->b≠X.env.locals:=λb o e z=>by rw[z,I.free]at e;cases e
 have sm:∀b o,H b=some o->H' b=some o:=λb o e=>by
  obtain⟨ob,q⟩:=obj_some (I.hok b o e)
  rw[same b ob q];exact e
 refine I.step (g':=s.gens) (d':=s.drawn) (ch:=[]) (λ_ z=>nomatch z) (λb o hL _ _ e _=>keep b o hL e) (λb o hL _ _ e _=>⟨o.slots,keep b o hL e⟩) (λb o _ e n=>by rw[same b o e];exact n) (λb o _ e=>?_)
  (λb xs e=>sm b _ e) (λb o u e=>sm b _ e) (λb ps e=>⟨#[],by rw[sm b _ e];simp⟩) ns (λb u e=>?_) I.bare
 ·by_cases hb:b=X.env.locals
  ·obtain⟨m,hn,_⟩:=I.loc
   obtain⟨o',_,_,e',_⟩:=ns m hn
   exact⟨o',by rw[hb];exact e'⟩
  ·exact⟨o,keep b o hb e⟩
 ·cases e0:H b with
  | some v=>
   have:v=u:=by
    have:=sm b v e0
    rw[e]at this
    exact(zaA this).symm
   subst this
   refine(I.hok b v e0).stay (λc v hc q=>keep c v ?_ q) (λc q=>sm c _ q) λc xs q=>sm c _ q
   rcases hc with z|z
   ·rw[z];exact nl b _ e0
   ·exact nl c _ z
  | none=>exact new b u e0 e
noncomputable def kI(p:List Int×V):List Key×V:=(p.1.map zao,p.2)
theorem qms(ns:List Int):(ns.map (zao:Int->Key)).map kV=ns.map V.int:=by
 rw[zaB]
 rfl
noncomputable def qhf(qs:List (List Int×V)):Prop:=qs.Pairwise λa b=>HT.lexLt a.1 b.1=true
theorem qf5:∀ {ns:List Int} {us:List Value},Vals (ns.map V.int) us->zaW us ns:=λr=>L2.intsAre_of r
theorem qi8{X:Cx}{pins:List (Addr×Obj)}{σ:L2.St}{H:Hp}{s:Shared}{d:Addr}{ps:List (List Int×V)}(I:Inv X pins σ H s)(hd:Rd H d (.dT (ps.map kI))) :
  ps.length<=zaj/\(d == za6)=false/\(ps.map (·.1)).Nodup/\∃es ep,RawD s.heap d es ep/\es.size=ps.length/\∀(j:Nat) (p:List Int×V),ps[j]?=some p->∃(e:DictEntry) (b:Addr),es[j]?=some e/\e.key=.ref b/\H b=some (.tup (p.1.map V.int))/\RelV p.2 e.val:=by
 obtain⟨z,y,xs,r,o,es,ep,h1,h2,h3,h4,h5⟩:=(show ObjOk X.prog X.w H s.heap d (.dT (ps.map kI))from hd.ok I.hok)
 have hl:xs.length=ps.length:=by rw[<- zbt r,zan]
 have hes:es.size=ps.length:=by
  have:=congrArg zbr h4
  rw[za7,zan]at this
  omega
 have get:∀ {ps:List (List Int×V)} {xs:List (List Key×Addr×Value)},Paired (λ(p:List Key×V) (q:List Key×Addr×Value)=>p.1=q.1/\H q.2.1=some (.tup (p.1.map kV))/\RelV p.2 q.2.2) (ps.map kI) xs->
   ∀(j:Nat) (p:List Int×V),ps[j]?=some p->∃q,xs[j]?=some q/\(kI p).1=q.1/\H q.2.1=some (.tup ((kI p).1.map kV))/\RelV p.2 q.2.2:=by
  intro ps
  induction ps with
  | nil=>intro xs r j p e;simp at e
  | cons p0 ps ih=>
   intro xs r j p e
   rw[zak]at r
   cases r with
   | cons h t=>
    cases j with
    | zero=>simp at e;subst e;exact⟨_,rfl,h⟩
    | succ j=>exact ih t j p (by simpa using e)
 have keys:∀ {ps:List (List Int×V)} {xs:List (List Key×Addr×Value)},Paired (λ(p:List Key×V) (q:List Key×Addr×Value)=>p.1=q.1/\H q.2.1=some (.tup (p.1.map kV))/\RelV p.2 q.2.2) (ps.map kI) xs->
   xs.map (·.1)=ps.map λp=>p.1.map zao:=by
  intro ps
  induction ps with
  | nil=>intro xs r;rw[zbu]at r;cases r;rfl
  | cons p0 ps ih=>
   intro xs r
   rw[zak]at r
   cases r with
   | cons h t=>rw[zak,zak,ih t,<- h.1];rfl
 refine⟨by rw[zan]at z;exact z,y,?_,es,ep,⟨o,h1,h2,h3⟩,hes,λj p e=>?_⟩
 ·rw[keys r]at h5
  have:(ps.map λp=>p.1.map (zao:Int->Key))=(ps.map (·.1)).map λns=>ns.map zao:=by rw[zaB];rfl
  rw[this]at h5
  exact List.Pairwise.of_map _ (λa b h e=>h (by rw[e])) h5
 ·obtain⟨q,e1,e2,e3,e4⟩:=get r j p e
  have e5:es[j]?=some (entryOfKey (zaS (qC X.prog X.w)) q):=by
   rw[<- zb8,h4,zax,e1]
   rfl
  exact⟨_,q.2.1,e5,rfl,by rw[e3];show some (HO.tup (((p.1.map zao):List Key).map kV))=_;rw[qms],e4⟩
theorem qmW{X:Cx}{pins:List (Addr×Obj)}{σ:L2.St}{H:Hp}{s:Shared}{b:Addr}{ns:List Int}(I:Inv X pins σ H s)(h:H b=some (.tup (ns.map V.int))):TupI s.heap b ns:=by
 obtain⟨its,r,t,_⟩:=I.tuple (SqT.of h)
 exact⟨its,t,qf5 r⟩
theorem qgs{ps:List (List Int×V)}{p:Array Nat}(hp:PermR ps.length p)(hs:qaU (ltK (ps.map (·.1))) p ps.length) :
  (p.toList.map λi=>ps.getD i ([],.non)).Perm ps/\qhf (p.toList.map λi=>ps.getD i ([],.non)):=by
 have e0:(zav ps.length).map (λi=>ps.getD i ([],.non))=ps:=by
  apply List.ext_getElem
  ·simp
  ·intro i h1 h2
   simp[h2]
 constructor
 ·have:=(Array.perm_iff_toList_perm.mp hp).map λi=>ps.getD i (([],.non):List Int×V)
  rw[e0]at this
  exact this
 ·unfold qhf
  rw[List.pairwise_map]
  rw[List.pairwise_iff_getElem]
  intro i j hi hj hij
  have hsz:=hp.size
  rw[za7]at hi hj
  have h1:=hs i j hij (by omega)
  have g:∀k (hk:k<p.size),p.getD k 0=p.toList[k]'(by rw[za7];exact hk):=λk hk=>by simp[Array.getD,hk]
  rw[g i hi,g j hj]at h1
  have gk:∀k,(ps.map (·.1)).getD k []=(ps.getD k ([],.non)).1:=λk=>by
   by_cases h:k<ps.length
   ·simp[h]
   ·simp[Nat.le_of_not_lt h]
  unfold ltK at h1
  rw[gk,gk]at h1
  exact h1
end My
namespace My
open PySem PySem.Spec PyProof.Rows L2 PySem.SeqAt PySem.W
theorem qa6{α β γ:Type}{R:β->γ->Prop}{f:α->β}{g:α->γ}:∀(l:List α),(∀i∈l,R (f i) (g i))->Paired R (l.map f) (l.map g)
 | [],_=>.nil
 | i::l,h=>.cons (h i (zay ..)) (qa6 l λj hj=>h j (zaz _ hj))
theorem qcy{α β:Type}{f:β->Value}{R:β->α->Prop}:∀(ps:List α) (vs:List Value),vs.length=ps.length->(∀(j:Nat) (p:α),ps[j]?=some p->∃b,vs[j]?=some (f b)/\R b p)->∃bs:List β,vs=bs.map f/\Paired R bs ps
 | [],[],_,_=>⟨[],rfl,.nil⟩
 | [],_::_,h,_=>by cases h
 | _::_,[],h,_=>by cases h
 | p::ps,v::vs,hl,h=>by
  obtain⟨b,e,r⟩:=h 0 p rfl
  obtain⟨bs,e2,r2⟩:=qcy ps vs (by simpa using hl) λj q hq=>h (j+1) q (by simpa using hq)
  have:v=f b:=by simpa using e
  exact⟨b::bs,by rw[zak,<- e2,this],.cons r r2⟩
theorem qdw{α β:Type}{R:α->β->Prop}:∀ {as:List α} {bs:List β},Paired R as bs->∀(j:Nat) (b:β),bs[j]?=some b->∃a,as[j]?=some a/\R a b
 | _,_,.nil,j,b,e=>by simp at e
 | _,_,.cons h t,0,b,e=>by simp at e;subst e;exact⟨_,rfl,h⟩
 | _,_,.cons h t,j+1,b,e=>qdw t j b (by simpa using e)
section
variable {X:Cx}
noncomputable def qiw(el:Hp->V->List Int×V->Prop)(H:Hp)(ps:List (List Int×V))(Q:VK):Prop:=
 ∀(l:Addr) (us:List V) (qs:List (List Int×V)) (H2:Hp),Same H H2->H l=none->H2 l=some (.lst us)->Paired (el H2) us qs->qs.Perm ps->qhf qs->Q (.ref l) H2
noncomputable def elP:Hp->V->List Int×V->Prop:=λH u q=>∃a b,u=.ref a/\H a=some (.tup [.ref b,q.2])/\H b=some (.tup (q.1.map V.int))
theorem qj2{pins:List (Addr×Obj)}{σ:L2.St}{H H1:Hp}{s:Shared}{h1:Heap}{tk:Nat}{A:Around}{E:Value->Shared->Prop}{Q:VK}{ps:List (List Int×V)}{as:List Addr}{el:Hp->V->List Int×V->Prop}{P:PySem.Fin->Shared->Prop}
  (I:Inv X pins σ H s) (keep1:∀b o,s.heap.get? b=some o->h1.get? b=some o) (h64:ps.length<64) (hn:(ps.map (·.1)).Nodup) (hl:as.length=ps.length)
  (same1:∀b o,s.heap.get? b=some o->H1 b=H b) (there1:∀b o,H1 b=some o->b<h1.objs.size)
  (new1:∀(b:Addr) (o:HO),H b=none->H1 b=some o->∀(h':Heap) (H':Hp),(∀c u,c≠h1.objs.size->c≠X.env.locals->h1.get? c=some u->h'.get? c=some u)->ObjOk X.prog X.w H' h' b o)
  (hel:∀(j:Nat) (p:List Int×V) (a:Addr),ps[j]?=some p->as[j]?=some a->∀H',Same H1 H'->el H' (.ref a) p)
  (hkk:2 <= ps.length -> ∀h':Heap, (∀b o, b≠h1.objs.size -> b≠X.env.locals -> h1.get? b = some o -> h'.get? b = some o) -> ∃κ, (∀Q':SortKind -> Shared -> Prop, Q' κ {s with heap:=h', toks:=tk} -> wpAny (model X.prog X.w) A (keyKind' (as.map zal).toArray) Q' (λ_ _ => False) {s with heap:=h', toks:=tk}) /\
   ∀i j C,i<ps.length->j<ps.length->i≠j->C (ltK (ps.map (·.1)) i j) {s with heap:=h',toks:=tk}->kas_ask X.prog X.w A κ (as.map zal) i j C {s with heap:=h',toks:=tk})
  (q:qiw el H ps Q) (hP:∀s',EP X pins σ Q (.ref h1.objs.size) s'->P (.done (.ret .none)) s') :
  wpAny (model X.prog X.w) A (Builtin.«list.sort» ⟨[.ref h1.objs.size],[]⟩) P E {s with heap:=h1.push (seqObj "list" (as.map zal).toArray 0),toks:=tk}:=by
 obtain⟨m,hns,_⟩:=id I.loc
 have hvl:(as.map zal).length=ps.length:=by rw[zan,hl]
 have ltL:X.env.locals<h1.objs.size:=by
  obtain⟨o,_,_,e,_⟩:=id hns
  exact zah (keep1 _ o e)
 have ns1:(h1.push (seqObj "list" (as.map zal).toArray 0)).Ns X.env.locals m:=hns.at' λo e=>zag _ (keep1 _ o e)
 have O:Ord (as.map zal).length (ltK (ps.map (·.1))):=by
  rw[hvl,<- zan (f:=(·.1)) (as:=ps)]
  exact qle hn
 have hlH:H h1.objs.size=none:=by
  cases e:H h1.objs.size with
  | none=>rfl
  | some o=>
   obtain⟨ob,z⟩:=obj_some (I.hok _ o e)
   exact absurd (zah (keep1 _ ob z)) (za1 _)
 have hlH1:H1 h1.objs.size=none:=by
  cases e:H1 h1.objs.size with
  | none=>rfl
  | some o=>exact absurd (there1 _ o e) (za1 _)
 refine qlB (lt:=ltK (ps.map (·.1))) (n:=0) (L:=X.env.locals) (m:=m) (s:={s with heap:=h1.push (seqObj "list" (as.map zal).toArray 0),toks:=tk}) O ns1 (zat _ rfl) (zaF ltL) (by rw[hvl];exact h64) (λh2 h' k=>?_) λp h' c hp hs hl' keep2 ns2=>?_
 ·rw[hvl]at h2
  obtain⟨κ,k1,k2⟩:=hkk h2 h' λb o hb hL e=>k b o hb hL (zag _ e)
  exact⟨κ,k1,λi j C hi hj=>k2 i j C (by rw[hvl]at hi;exact hi) (by rw[hvl]at hj;exact hj)⟩
 ·rw[hvl]at hp hs
  obtain⟨g1,g2⟩:=qgs hp hs
  have keep3:∀c u,c≠h1.objs.size->c≠X.env.locals->h1.get? c=some u->h'.get? c=some u:=λc u h1' h2' e=>keep2 c u h1' h2' (zag _ e)
  have lt:∀i∈p.toList,i<ps.length:=λi hi=>by
   have:=(Array.perm_iff_toList_perm.mp hp).mem_iff.mp hi
   simpa using this
  have ga:∀i,i<ps.length->as[i]?=some (as.getD i 0)/\ps[i]?=some (ps.getD i ([],.non))/\(as.map zal).getD i zaD=.ref (as.getD i 0):=λi hi=>by
   have h1:i<as.length:=by omega
   refine⟨by simp[h1],by simp[hi],by simp[h1]⟩
  have sm1:Same H (upd H1 h1.objs.size (.lst (p.toList.map λi=>V.ref (as.getD i 0)))):=λb o e=>by
   obtain⟨ob,z⟩:=obj_some (I.hok b o e)
   rw[qi (qy e hlH),same1 b ob z]
   exact e
  have sm2:Same H1 (upd H1 h1.objs.size (.lst (p.toList.map λi=>V.ref (as.getD i 0)))):=qg2 hlH1
  have I2:Inv X pins σ (upd H1 h1.objs.size (.lst (p.toList.map λi=>V.ref (as.getD i 0)))) {s with heap:=h',toks:=tk}:=by
   refine qlC I (λb o hL e=>keep3 b o (λz=>absurd (zah (keep1 b o e)) (by rw[z];exact za1 _)) hL (keep1 b o e)) (λm' hm'=>?_) (λb o e=>?_) (λb o n e=>?_)
   ·obtain⟨o1,es1,ep1,e1,d1,r1⟩:=hns
    obtain⟨o2,es2,ep2,e2,d2,r2⟩:=hm'
    rw[e1]at e2;cases e2
    rw[d1]at d2
    injection d2 with d3 d4
    subst d3 d4
    have:m=m':=funext λx=>by rw[<- r1.2 x,<- r2.2 x]
    rw[<- this]
    exact ns2
   ·rw[qi (λz=>absurd (zah (keep1 b o e)) (by rw[z];exact za1 _))]
    exact same1 b o e
   ·by_cases hb:b=h1.objs.size
    ·subst hb
     rw[ql]at e
     cases e
     refine⟨?_,_,c,?_,hl'⟩
     ·rw[zan,za7,hp.size,sizeLine_eq]
      omega
     ·show Vals _ (p.toList.map λi=>(as.map zal).getD i zaD)
      exact qa6 p.toList λi hi=>by
       show(as.map zal).getD i zaD=zal (as.getD i 0)
       exact(ga i (lt i hi)).2.2
    ·rw[qi hb]at e
     exact new1 b o n e h' _ keep3
  refine hP _ ⟨.ref h1.objs.size,_,I2,rfl,q _ _ _ _ sm1 hlH ql (qa6 p.toList λi hi=>?_) g1 g2⟩
  obtain⟨a1,a2,_⟩:=ga i (lt i hi)
  exact hel i _ _ a2 a1 _ sm2
theorem qpg{A:Around}{κ:SortKind}{as:List Addr}{i j:Nat}{C:Bool->Shared->Prop}{s:Shared}(hi:i<as.length)(hj:j<as.length)(h:wpAny (model X.prog X.w) A (keyLt' κ (.ref (as.getD i 0)) (.ref (as.getD j 0))) C (λ_ _=>False) s):kas_ask X.prog X.w A κ (as.map zal) i j C s:=by
 unfold kas_ask
 have e1:(as.map zal).getD i zaD=.ref (as.getD i 0):=by simp[hi]
 have e2:(as.map zal).getD j zaD=.ref (as.getD j 0):=by simp[hj]
 rw[e1,e2]
 exact h
theorem qdV{h:Heap}:∀ {as:List Addr} {fs:List Value},Paired (λa f=>∃its:List Value,IsTup h a its.toArray/\its[0]?=some f) as fs->KatTups h (as.map zal) fs
 | _,_,.nil=>.nil
 | _,_,.cons ⟨its,⟨o,e,c,n,d⟩,z⟩ t=>KatTups.cons e c d (by simpa using z) (qdV t)
noncomputable def qlG:V->List V->Hp->VK->Prop:=λx vs H Q=>∃d kvs,x=.ref d/\vs=[]/\Rd H d (.dT kvs)/\∀r,H r=none->Q (.ref r) (upd H r (.ext λh=>h.IsItemsView r d))
theorem qkU:MtM X "dict.items" qlG:=by
 intro pins s σ H x vs v us Q I rx rv h
 obtain⟨d,kvs,rfl,rfl,hd,q⟩:=h
 cases rx
 have hus:=rv.zero
 subst hus
 obtain⟨z,y,xs,r,o,es,ep,h1,h2,h3,_⟩:=(show ObjOk X.prog X.w H s.heap d (.dT kvs)from hd.ok I.hok)
 have tt:s.TypeIs (.ref d) "dict" := ⟨o,h1,h2.1⟩
 refine za9 PySem.F.slot_dict_items tt PySem.F.entry_dict_items ?_ (PySem.F.args_dict_items_1 _);unfold Builtin.«dict.items»
 refine zaa ?_;unfold Builtin.Dict.noArgs;refine zaa (wpAny_notOrdered_dict tt ?_)
 show wpAny _ _ (pure d) _ _ s;refine zab ?_;show wpAny _ _ (zb5 d >>= _) _ _ s
 unfold zb5;rw[if_neg (by rw[y];exact zaq)]
 refine zaa (zab (zaa (zbc (zab ⟨_,rfl,?_⟩))))
 have hn:H s.heap.objs.size=none:=I.fresh
 refine⟨.ref s.heap.objs.size,_,I.laid (t':=s.toks) (o:=.ext λh=>h.IsItemsView s.heap.objs.size d) (λ_ _ q=>zag _ q) (zam _) ⟨⟨_,zat _ rfl,rfl,rfl⟩,⟨_,zat _ rfl⟩,λa b ⟨o,e1,e2⟩ k=>⟨o,k o e1,e2⟩⟩,rfl,q _ hn⟩
noncomputable def addP(H:Hp)(as:List Addr)(ds:List (List V)):Hp:=λb=>match as.findIdx? (λa=>decide (a=b))with
 | some j=>some (.tup (ds.getD j []))
 | none=>H b
theorem qcu{H:Hp}{as:List Addr}{ds:List (List V)}{b:Addr}(h:¬ b∈as):addP H as ds b=H b:=by
 unfold addP
 have:as.findIdx? (λa=>decide (a=b))=none:=by
  rw[List.findIdx?_eq_none_iff]
  intro a ha
  exact decide_eq_false λe=>h (e ▸ ha)
 rw[this]
theorem qjW{H:Hp}{as:List Addr}{ds:List (List V)}{b:Addr}(h:b∈as):∃j,as[j]?=some b/\addP H as ds b=some (.tup (ds.getD j [])):=by
 unfold addP
 cases e:as.findIdx? (λa=>decide (a=b))with
 | none=>
  rw[List.findIdx?_eq_none_iff]at e
  have:=e b h
  simp at this
 | some j=>
  rw[List.findIdx?_eq_some_iff_getElem]at e
  obtain⟨h1,h2,_⟩:=e
  exact⟨j,by rw[zaO h1,of_decide_eq_true h2],rfl⟩
theorem qfl(hc:X.calm=true)(hu:X.A.units+64<cLine):CallR X (.builtin "sorted") (λxs H Q=>∃r d ps,xs=[.ref r]/\H r=some (.ext λh=>h.IsItemsView r d)/\Rd H d (.dT (ps.map kI))/\ps.length<64/\qiw elP H ps Q):=by
 intro pins s σ H xs us Q I rr h
 obtain⟨r,d,ps,rfl,hr,hd,h64,q⟩:=h
 obtain⟨u,rfl,ru⟩:=vals1 rr
 cases ru
 obtain⟨hz,hlo,hnd,es,ep,raw,hes,hent⟩:=qi8 I hd
 have hv:s.heap.IsItemsView r d:=(I.hok r _ hr).1
 have nL:∀ {b:Addr} {o:HO},H b=some o->b≠X.env.locals:=λe z=>by rw[z,I.free]at e;cases e
 refine Calls.call_function_entry kind_sorted plain_sorted entry_sorted (args_sorted1 _) ?_;unfold Builtin.«sorted»
 refine zaa (m:=checkCount "sorted" 1 1 _) (zab (zaa (qfI (I.ok.hd hc) hv raw (by rw[hes];exact hz) λh1 tk as keep1 hal made=>?_)))
 have hal':as.length=ps.length:=by rw[hal,hes]
 obtain⟨bs,ebs,hbs⟩:=qcy (f:=zal) (R:=λb (p:List Int×V)=>H b=some (.tup (p.1.map V.int))) ps (es.toList.map (·.key)) (by rw[zan,za7,hes]) λj p hp=>by
  obtain⟨e,b,e1,e2,e3,_⟩:=hent j p hp
  exact⟨b,by rw[zax,zb8,e1];exact congrArg some e2,e3⟩
 have hbl:bs.length=ps.length:=zbt hbs
 -- the j-th pair
 have fact:∀(j:Nat) (p:List Int×V),ps[j]?=some p->∃a b v,as[j]?=some a/\bs[j]?=some b/\H b=some (.tup (p.1.map V.int))/\RelV p.2 v/\s.heap.objs.size<a/\h1.get? a=some {cls:=.type "tuple",data:=.seq #[.ref b,v]}:=λj p hp=>by
  obtain⟨e,b,e1,e2,e3,e4⟩:=hent j p hp
  have hj:j<ps.length:=(List.getElem?_eq_some_iff.mp hp).1
  obtain⟨b',f1,f2⟩:=qdw hbs j p hp
  have hja:as[j]?=some (as[j]'(by omega)):=zaO (by omega)
  obtain⟨e',g1,g2⟩:=made.pair j _ hja
  rw[e1]at g1;cases g1
  have hb:b=b':=by
   have z:(es.toList.map (·.key))[j]?=some (.ref b):=by rw[zax,zb8,e1];exact congrArg some e2
   rw[ebs,zax,f1]at z
   have:=zaA z
   injection this with this
   exact this.symm
  subst hb
  exact⟨_,b,e.val,hja,f1,e3,e4,made.above _ (List.getElem_mem _),by rw[g2,e2]⟩
 have same_ix:∀(i j:Nat) (a:Addr),as[i]?=some a->as[j]?=some a->i=j:=λi j a hi hj=>by
  have li:i<ps.length:=by rw[<- hal'];exact(List.getElem?_eq_some_iff.mp hi).1
  have lj:j<ps.length:=by rw[<- hal'];exact(List.getElem?_eq_some_iff.mp hj).1
  obtain⟨a1,b1,v1,x1,_,x2,_,_,x3⟩:=fact i _ (zaO li)
  obtain⟨a2,b2,v2,y1,_,y2,_,_,y3⟩:=fact j _ (zaO lj)
  rw[hi]at x1;cases x1
  rw[hj]at y1;cases y1
  rw[x3]at y3
  injection y3 with y3
  injection y3 with _ _ y3 _
  injection y3 with y3 _
  have hb:b1=b2:=by
   have:=congrArg (λz:Array Value=>z[0]?) y3
   simpa using this
  subst hb
  rw[x2]at y2
  injection y2 with y2
  injection y2 with y2
  have:ps[i].1=ps[j].1:=by
   have inj:∀ {a b:List Int},a.map V.int=b.map V.int->a=b:=by
    intro a
    induction a with
    | nil=>intro b h;cases b with
     | nil=>rfl
     | cons _ _=>cases h
    | cons x xs ih=>intro b h;cases b with
     | nil=>cases h
     | cons y ys=>
      rw[zak,zak]at h
      injection h with h1 h2
      injection h1 with h1
      rw[h1,ih h2]
   exact inj y2
  have e1:(ps.map (·.1))[i]'(by rw[zan];exact li)=(ps.map (·.1))[j]'(by rw[zan];exact lj):=by simpa using this
  exact(List.getElem_inj hnd).mp e1
 have dsj:∀(j:Nat) (p:List Int×V) (b:Addr),ps[j]?=some p->bs[j]?=some b->((bs.zip ps).map λx=>[V.ref x.1,x.2.2]).getD j []=[V.ref b,p.2]:=λj p b h1 h2=>by
  have:((bs.zip ps).map λx=>[V.ref x.1,x.2.2])[j]?=some [V.ref b,p.2]:=by
   rw[zax,(List.getElem?_zip_eq_some (z:=(b,p))).mpr ⟨h2,h1⟩]
   rfl
  simp[List.getD,this]
 have oldn:∀b o,s.heap.get? b=some o->¬ b∈as:=λb o e hb=>absurd (zah e) (Nat.not_lt.mpr (Nat.le_of_lt (made.above b hb)))
 have sm01:Same H (addP H as ((bs.zip ps).map λx=>[V.ref x.1,x.2.2])):=λb o e=>by
  obtain⟨ob,z⟩:=obj_some (I.hok b o e)
  rw[qcu (oldn b ob z)]
  exact e
 refine zaa (wpAny_newList ?_ (by rw[zan,hal'];exact hz))
 have hoL:(h1.push (seqObj "list" (as.map zal).toArray 0)).get? h1.objs.size=some (seqObj "list" (as.map zal).toArray 0):=zat _ rfl
 show wpAny _ _ _ _ _ {s with heap:=h1.push (seqObj "list" (as.map zal).toArray 0),toks:=tk}
 refine zaa (zbb (za9 slot_list_sort ⟨_,hoL,rfl⟩ entry_list_sort ?body (args_list_sort _)))
 case body=>
  refine qj2 (H1:=addP H as ((bs.zip ps).map λx=>[V.ref x.1,x.2.2])) (el:=elP) (Q:=Q) I keep1 h64 hnd hal' (λb o e=>qcu (oldn b o e)) (λb o e=>?_) (λb o n e h' H' k=>?_) (λj p a hp ha H' sm=>?_) (λh2 h' k=>?_) q λs' hE=>⟨_,rfl,zab ⟨_,rfl,hE⟩⟩
  ·by_cases hb:b∈as
   ·obtain⟨j,hj⟩:=List.mem_iff_getElem?.mp hb
    have lj:j<ps.length:=by rw[<- hal'];exact(List.getElem?_eq_some_iff.mp hj).1
    obtain⟨a,b',v,x1,_,_,_,_,x3⟩:=fact j _ (zaO lj)
    rw[hj]at x1;cases x1
    exact zah x3
   ·rw[qcu hb]at e
    obtain⟨ob,z⟩:=obj_some (I.hok b o e)
    exact zah (keep1 b ob z)
  ·have hb:b∈as:=Classical.byContradiction λz=>by rw[qcu z,n]at e;cases e
   obtain⟨j,hj,e2⟩:=qjW (H:=H) (ds:=(bs.zip ps).map λx=>[V.ref x.1,x.2.2]) hb
   rw[e2]at e
   cases e
   have lj:j<ps.length:=by rw[<- hal'];exact(List.getElem?_eq_some_iff.mp hj).1
   obtain⟨a,b',v,x1,x2,_,x4,x5,x3⟩:=fact j _ (zaO lj)
   rw[hj]at x1;cases x1
   rw[dsj j _ b' (zaO lj) x2]
   have nloc:b≠X.env.locals:=zaF (Nat.lt_trans I.lt x5)
   exact⟨by show 2<=zaj;decide,[.ref b',v],.cons rfl (.cons x4 .nil),_,k b _ (zaw (zah x3)) nloc x3,rfl,0,rfl,rfl⟩
  ·obtain⟨a',b,v,x1,x2,x3,x4,_,_⟩:=fact j p hp
   rw[ha]at x1;cases x1
   obtain⟨j',hj',e2⟩:=qjW (H:=H) (as:=as) (ds:=(bs.zip ps).map λx=>[V.ref x.1,x.2.2]) (zaH ha)
   have:=same_ix j' j a hj' ha
   subst this
   rw[dsj j' p b hp x2]at e2
   exact⟨a,b,rfl,sm _ _ e2,sm _ _ (sm01 _ _ x3)⟩
  ·have pI:∀(j:Nat) (p:List Int×V),ps[j]?=some p->∃a b v,as[j]?=some a/\bs[j]?=some b/\qkH h' a b v p.1:=λj p hp=>by
    obtain⟨a,b,v,x1,x2,x3,x4,x5,x6⟩:=fact j p hp
    refine⟨a,b,v,x1,x2,⟨_,k a _ (zaw (zah x6)) (zaF (Nat.lt_trans I.lt x5)) x6,rfl,0,rfl⟩,(qmW I x3).at' λo e=>k b o ?_ (nL x3) (keep1 b o e)⟩
    exact λz=>absurd (zah (keep1 b o e)) (by rw[z];exact za1 _)
   refine⟨tuples' (Value.type "tuple" != Value.type "tuple"),λQ' q'=>?_,λi j C hi hj hij hC=>?_⟩
   ·have pr:Paired (λa (f:Value)=>∃its:List Value,IsTup h' a its.toArray/\its[0]?=some f) as (bs.map zal):=by
     have:∀ {as bs:List Addr} {ps:List (List Int×V)},as.length=ps.length->bs.length=ps.length->(∀(j:Nat) (p:List Int×V),ps[j]?=some p->∃a b v,as[j]?=some a/\bs[j]?=some b/\qkH h' a b v p.1)->Paired (λa (f:Value)=>∃its:List Value,IsTup h' a its.toArray/\its[0]?=some f) as (bs.map zal):=by
      intro as
      induction as with
      | nil=>intro bs ps h1 h2 _;cases ps with
       | nil=>cases bs with
        | nil=>exact .nil
        | cons _ _=>cases h2
       | cons _ _=>cases h1
      | cons a as ih=>intro bs ps h1 h2 h3;cases ps with
       | nil=>cases h1
       | cons p ps=>cases bs with
        | nil=>cases h2
        | cons b bs=>
         obtain⟨a',b',v,y1,y2,y3,_⟩:=h3 0 p rfl
         have e1:a'=a:=by simpa using y1.symm
         have e2:b'=b:=by simpa using y2.symm
         subst e1 e2
         exact .cons ⟨[.ref b',v],y3,rfl⟩ (ih (by simpa using h1) (by simpa using h2) λj q hq=>h3 (j+1) q (by simpa using hq))
     exact this hal' hbl pI
    refine kat_kind (s:={s with heap:=h',toks:=tk}) (qdV pr) (by rw[zan,hbl];omega) (λv hv=>?_) (by decide) q'
    obtain⟨b,hb,rfl⟩:=List.mem_map.mp hv
    obtain⟨j,hj⟩:=List.mem_iff_getElem?.mp hb
    have lj:j<ps.length:=by rw[<- hbl];exact(List.getElem?_eq_some_iff.mp hj).1
    obtain⟨a,b',v,_,y2,_,its,⟨o,e1,e2,_⟩,_⟩:=pI j _ (zaO lj)
    rw[hj]at y2;cases y2
    rw[<- e2]
    exact(show Looks _ h' (typeOf (.ref b)) o.cls from(Looks.ld e1).andThen .now)
   ·refine qpg (by omega) (by omega) ?_
    obtain⟨x,b1,v1,x1,_,x2⟩:=pI i _ (zaO hi)
    obtain⟨y,b2,v2,y1,_,y2⟩:=pI j _ (zaO hj)
    have ex:as.getD i 0=x:=by simp[List.getD,x1]
    have ey:as.getD j 0=y:=by simp[List.getD,y1]
    rw[ex,ey]
    have hne:ps[i].1≠ps[j].1:=λz=>hij (by
     have e1:(ps.map (·.1))[i]'(by rw[zan];exact hi)=(ps.map (·.1))[j]'(by rw[zan];exact hj):=by simpa using z
     exact(List.getElem_inj hnd).mp e1)
    refine qjj (s:={s with heap:=h',toks:=tk}) x2 y2 hne (by show X.A.units+1+1<cLine;omega) ?_
    unfold ltK at hC
    have k1:(ps.map (·.1)).getD i []=ps[i].1:=by simp[hi]
    have k2:(ps.map (·.1)).getD j []=ps[j].1:=by simp[hj]
    rw[k1,k2]at hC
    exact hC
end
theorem qjM{prog:zai}{w:World}{A:Around}{E:Value->Shared->Prop}{s:Shared}{t sl:Addr}{items:Array Value}{vl vu:Value}{lo hi:Option Int}{Q:Value->Shared->Prop}(ht:IsTup s.heap t items)(hs:s.heap.IsSliceOf sl vl vu .none)(pl:IsPart vl lo)(pu:IsPart vu hi)
  (hw:HT.sIx items.size 0 lo=0/\HT.sIx items.size items.size hi=items.size) (h:Q (.ref t) s):wpAny (model prog w) A (getItem (.ref t) (.ref sl)) Q E s:=by
 obtain⟨os,hos,hcs,hds⟩:=id hs
 have tt:s.TypeIs (.ref sl) "slice" := ⟨os,hos,hcs⟩
 unfold getItem;try with_reducible refine zbb ?_
 first|refine zaa (zab ?_)|skip
 refine zaa (wpAny_sequenceKey ht.typeIs (by decide) ?_);refine zaa (zbk (name:=zaU "__getitem__") ht.typeIs zb9 (za9 zb9 ht.typeIs entry_tuple_getitem ?_ (args_tuple_getitem _ _)))
 show wpAny _ _ (Builtin.Tuple.tupleItemsOf (.ref t) >>= _) _ _ s;refine zaa (tupleItemsOf_ ht (zaa (wpAny_typeOf tt ?_)))
 rw[if_pos (by decide)];refine zaa (HT.qaS hs pl pu ?_)
 have yes:(((HT.sIx items.size 0 lo:Nat):Int) == 0 && (1:Int) == 1 && (HT.sIx items.size items.size hi-HT.sIx items.size 0 lo) == items.size)=true:=by
  rw[hw.1,hw.2]
  simp
 show wpAny _ _ (if(((HT.sIx items.size 0 lo:Nat):Int) == 0 && (1:Int) == 1 && (HT.sIx items.size items.size hi-HT.sIx items.size 0 lo) == items.size)=true then _ else _) _ _ s
 rw[if_pos yes]
 refine zaa (m:=Builtin.Tuple.tupleIsExact _) ?_;unfold Builtin.Tuple.tupleIsExact;refine zaa (wpAny_typeOf ht.typeIs (zab ?_))
 rw[if_pos (by decide)];exact zaa (wpAny_rule (zab ⟨_,rfl,zab h⟩))
section
variable {X:Cx}
noncomputable def rSlW(K:zae):V->Option Int->Option Int->Hp->VK->Prop:=λx lo hi H Q=>∃a xs,x=.ref a/\SqT K H a xs/\(HT.sIx xs.length 0 lo=0/\HT.sIx xs.length xs.length hi=xs.length)/\Q (.ref a) H
theorem qnm:SlR X (rSlW X.K):=by
 intro pins s σ H x v vl vu lo hi sl Q I rx hs pl pu h
 obtain⟨a,xs,rfl,hx,hw,q⟩:=h
 cases rx
 obtain⟨its,r,ht,hz⟩:=I.tuple hx
 have hlen:its.toArray.size=xs.length:=by rw[zau];exact r.length.symm
 exact⟨"tuple",_,PyProof.Rows.slot_tuple_getitem.lookup,ht.typeIs,qjM ht hs pl pu (by rw[hlen];exact hw) ⟨.ref a,H,I,rfl,q⟩⟩
theorem qnN:SlR X (λx lo hi H Q=>rSlT X.K x lo hi H Q\/rSlW X.K x lo hi H Q):=qoH.or qnm
end
theorem qfr{P:zai}{w:World}{H:Hp}{h:Heap}{d:Addr}{kvs:List (List Key×V)}(x:ObjOk P w H h d (.dT kvs)):(d == za6)=false/\kvs.length<=zaj/\∃es ep,RawD h d es ep/\es.size=kvs.length /\
  ∀(j:Nat) (p:List Key×V),kvs[j]?=some p->∃(e:DictEntry) (b:Addr),es[j]?=some e/\e.key=.ref b/\H b=some (.tup (p.1.map kV))/\RelV p.2 e.val/\e.hash=(zaS (qC P w)).hash p.1:=by
 obtain⟨z,y,xs,r,o,es,ep,h1,h2,h3,h4,h5⟩:=x
 have hl:xs.length=kvs.length:=(zbt r).symm
 have hes:es.size=kvs.length:=by
  have:=congrArg zbr h4
  rw[za7,zan]at this
  omega
 have get:∀ {kvs:List (List Key×V)} {xs:List (List Key×Addr×Value)},Paired (λ(p:List Key×V) (q:List Key×Addr×Value)=>p.1=q.1/\H q.2.1=some (.tup (p.1.map kV))/\RelV p.2 q.2.2) kvs xs->
   ∀(j:Nat) (p:List Key×V),kvs[j]?=some p->∃q,xs[j]?=some q/\p.1=q.1/\H q.2.1=some (.tup (p.1.map kV))/\RelV p.2 q.2.2:=by
  intro kvs xs r
  induction r with
  | nil=>intro j p e;simp at e
  | cons h t ih=>
   intro j p e
   cases j with
   | zero=>simp at e;subst e;exact⟨_,rfl,h⟩
   | succ j=>exact ih j p (by simpa using e)
 refine⟨y,z,es,ep,⟨o,h1,h2,h3⟩,hes,λj p e=>?_⟩
 obtain⟨q,e1,e2,e3,e4⟩:=get r j p e
 have e5:es[j]?=some (entryOfKey (zaS (qC P w)) q):=by
  rw[<- zb8,h4,zax,e1]
  rfl
 exact⟨_,q.2.1,e5,rfl,e3,e4,by show(zaS (qC P w)).hash q.1=_;rw[e2]⟩
noncomputable def ItD(d:Addr)(o:Obj)(kvs:List (List Key×V)):It:=
 ⟨λi H=>H d=some (.frz o (.dT kvs))/\i<kvs.length,λi H x H'=>H'=H/\∃k v b,kvs[i]?=some (k,v)/\x=.ref b/\H b=some (.tup (k.map kV)),λi H=>H d=some (.frz o (.dT kvs))/\kvs.length<=i⟩
theorem qj0{P:zai}{w:World}{K:zae}{tg:Expr}(d it:Addr)(o:Obj)(kvs:List (List Key×V))(es:Array DictEntry)(ep:Nat)(hd:o.data=.dict es ep)(hes:es.size=kvs.length):Turn P w K tg (ItD d o kvs) [it] it (λi h=>h.IsKeyIter it d i es.size ep) where
 mem:=by simp
 obj:=λi h st b hb=>by
  have e:b=it:=by simpa using hb
  subst e
  obtain⟨o,e1,e2,e3⟩:=st
  exact⟨o,e1,λv z=>by rw[e3]at z;cases z⟩
 keep:=λi h h' st k=>st.at λo e=>k it (by simp) o e
 item:=by
  intro X hP hw hK hc i pins s σ H E I hf st hg
  subst hP hw hK
  obtain⟨h1,h2⟩:=hg
  obtain⟨g1,g2⟩:=(show ObjOk X.prog X.w H s.heap d (.frz o (.dT kvs))from I.hok d _ h1)
  obtain⟨_,_,es',ep',⟨o',r1,r2,r3⟩,hes',hent⟩:=qfr g2
  rw[g1]at r1;cases r1
  rw[hd]at r3;injection r3 with r4 r5
  subst r4 r5
  obtain⟨f0,f1,f2,f3,f4,f5⟩:=hf it (by simp)
  have hi:i<es.size:=by omega
  refine qkl st ⟨o,g1,r2,hd⟩ hi λh' st' sb=>?_
  have I1:Inv X pins σ H {s with heap:=h'}:=I.turned (t':=s.toks) (λb o hb e=>(sb.2 b hb).trans e) f0 f1 f3 f4 f5
  obtain⟨e,b,e1,e2,e3,_⟩:=hent i _ (zaO h2)
  have ee:es[i]=e:=by
   rw[Array.getElem?_eq_getElem hi]at e1
   exact zaA e1
  obtain⟨o2,q1,q2,q3⟩:=id st'
  refine⟨_,rfl,qgf (s:={s with heap:=h'}) (n := "dict_keyiterator") q1 q2 q3 (by decide) ⟨.ref b,H,I1,?_,⟨rfl,kvs[i].1,kvs[i].2,b,zaO h2,rfl,e3⟩,st',λc hb=>(hf c hb).1⟩⟩
  rw[ee,e2]
  rfl
 done:=by
  intro X hP hw hK hc i pins s σ H E I hf st hg
  subst hP hw hK
  obtain⟨h1,h2⟩:=hg
  obtain⟨g1,g2⟩:=(show ObjOk X.prog X.w H s.heap d (.frz o (.dT kvs))from I.hok d _ h1)
  obtain⟨_,_,es',ep',⟨o',r1,r2,r3⟩,hes',hent⟩:=qfr g2
  rw[g1]at r1;cases r1
  obtain⟨f0,f1,f2,f3,f4,f5⟩:=hf it (by simp)
  exact qnf (I.ok.hd hc) st ⟨o,g1,r2,hd⟩ (by omega) λh' eb=>⟨rfl,I.turned (t':=s.toks) (λb o hb e=>eb b o hb e) f0 f1 f3 f4 f5⟩
 self:=λ_ _ _ _ _ st h=>wpAny_pyIter_keyiter st h
theorem qhT{X:Cx}{pins:List (Addr×Obj)}{σ:L2.St}{H:Hp}{s:Shared}{d:Addr}{kvs:List (List Key×V)}{o:Obj}(I:Inv X pins σ H s)(hd:H d=some (.dT kvs))(ho:s.heap.get? d=some o):Inv X pins σ (upd H d (.frz o (.dT kvs))) s:=by
 have ne:∀b u,H b=some u->(∀z,u≠.dT z)->b≠d:=λb u e n z=>by
  subst z
  rw[hd]at e
  exact n kvs (zaA e).symm
 have J:=I.un (h':=s.heap) (t':=s.toks) (H':=upd H d (.frz o (.dT kvs))) ⟨λb u q _ _ _=>q,λb u q _ _ _=>⟨u.slots,q⟩,λb u q n _=>by rw[qi (λz=>by rw[z,hd]at n;cases n)];exact n,λb u q _=>⟨u,q⟩,
  λb xs q=>by rw[qi (ne b _ q (λz h=>by cases h))];exact q,λb u xs q=>by rw[qi (ne b _ q (λz h=>by cases h))];exact q,λb ps q=>⟨#[],by rw[qi (ne b _ q (λz h=>by cases h)),q];simp⟩⟩ (λb u e=>?_)
 ·exact J
 ·have st:∀ {b:Addr} {u:HO},ObjOk X.prog X.w H s.heap b u->ObjOk X.prog X.w (upd H d (.frz o (.dT kvs))) s.heap b u:=λx=>x.stay (λ_ _ _ q=>q) (λc q=>by rw[qi (ne c _ q (λz h=>by cases h))];exact q) λc xs q=>by rw[qi (ne c _ q (λz h=>by cases h))];exact q
  by_cases hb:b=d
  ·subst hb
   rw[ql]at e
   cases e
   exact⟨ho,st (I.hok b _ hd)⟩
  ·rw[qi hb]at e
   exact st (I.hok b u e)
section
variable {X:Cx}{tg:Expr}
end
theorem qjL{M:Model}{A:Around}{E:Value->Shared->Prop}{s:Shared}{b:Addr}{Q:Bool->Shared->Prop}{prog:zai}{w:World}(hT:s.TypeIs (.ref b) "tuple")(h:Q false s):wpAny (model prog w) A (Builtin.Dict.quietEq (.ref b)) Q E s:=by
 unfold Builtin.Dict.quietEq
 exact zaa (wpAny_specialOf hT PySem.F.slot_tuple_eq.lookup (zab h))
theorem qkc{prog:zai}{w:World}{A:Around}{E:Value->Shared->Prop}{s:Shared}{d:Addr}{es:Array DictEntry}{ep:Nat}{Q:Value->Shared->Prop}(lo:(d == za6)=false)(raw:RawD s.heap d es ep)(hsz:es.size<=zaj)
  (hkeys:∀e∈es.toList,∃b,e.key=.ref b/\s.TypeIs (.ref b) "tuple") (hh:∀e∈es.toList,(es.filter (·.hash == e.hash)).size<=1)
  (h:∀h' ep',RawD h' s.heap.objs.size es ep'->zaM s.heap.objs.size (s.heap.push {cls:=.type "dict",data:=.dict #[]}) h'->Q (.ref s.heap.objs.size) {s with heap:=h'}):wpAny (model prog w) A (call (.type "dict") [.ref d]) Q E s:=by
 refine callType_codes (Q₁:=λobj s₁=>obj=.ref s.heap.objs.size/\s₁={s with heap:=s.heap.push {cls:=.type "dict",data:=.dict #[]} }) PySem.F.kt_called_dict (PySem.F.kt_typeCall_dict_1 _) PySem.F.entry_dict_init (kt_code_dict_new _ ⟨rfl,rfl⟩) ?_
 rintro obj s₁ ⟨rfl,rfl⟩
 have n1:(s.heap.push {cls:=.type "dict",data:=.dict #[]}).get? s.heap.objs.size=some {cls:=.type "dict",data:=.dict #[]}:=zat _ rfl
 have r2:RawD (s.heap.push {cls:=.type "dict",data:=.dict #[]}) d es ep:=raw.at' λo e=>zag _ e
 have t1:Shared.TypeIs {s with heap:=s.heap.push {cls:=.type "dict",data:=.dict #[]} } (.ref s.heap.objs.size) "dict" := ⟨_,n1,rfl⟩
 have t2:Shared.TypeIs {s with heap:=s.heap.push {cls:=.type "dict",data:=.dict #[]} } (.ref d) "dict" := r2.typ
 have hne:s.heap.objs.size≠d:=by
  obtain⟨o,e,_⟩:=raw
  exact λz=>absurd (zah e) (by rw[z];exact za1 _)
 refine⟨t1,PySem.F.args_dict_init_2 _ _,?_⟩
 unfold Builtin.«dict.__init__»;refine zaa ?_;unfold Builtin.Dict.selfAndRest;refine zaa (wpAny_notOrdered_dict t1 ?_)
 show wpAny _ _ (pure (s.heap.objs.size,[zal d])) _ _ _;refine zab ?_
 show wpAny _ _ (Builtin.Dict.updateFrom "dict.__init__" s.heap.objs.size (.ref d) [] .none) _ _ _;unfold Builtin.Dict.updateFrom
 refine zaa (wpAny_typeOf t2 ?_);rw[if_neg (by decide)];refine zaa ?_;unfold Builtin.Dict.merge
 refine zaa ?_;unfold Builtin.Dict.readDirectly;refine zaa (wpAny_isInstance t2 isSubtype_dict_dict ?_)
 simp only[Bool.not_true,zby,if_false];refine zaa (wpAny_specialOf t2 PySem.F.slot_dict_iter.lookup (zab ?_))
 simp only[beq_self_eq_true,if_true];refine zaa (zab ?_)
 obtain⟨o,g1,g2,g3⟩:=r2
 unfold Builtin.Dict.mergeDict;rw[if_neg (by simpa using hne)];unfold zb5;rw[if_neg (by rw[lo];exact zaq)]
 refine zaa (zab (zaa (zbx g1 g3 ?_)))
 dsimp only
 by_cases z:es.size=0
 ·have z':es=#[]:=Array.eq_empty_of_size_eq_zero z
  subst z'
  rw[if_neg (by simp)]
  refine zaa (zbX g1 g3 (zaa (zbx g1 g3 ?_)))
  rw[Std.Legacy.Range.forIn_eq_forIn_range']
  refine zaa (zab (zab (zaa (zab (zab ⟨rfl,?_⟩)))))
  exact h _ _ ⟨_,n1,⟨rfl,rfl,rfl⟩,rfl⟩ (Heap.SameBut.refl _ _)
 ·have few:(!(decide (es.size<=8) && es.all λe=>(keyPart e.key).isSome))=true:=by
   have:(es.all λe=>(keyPart e.key).isSome)=false:=by
    rw[Bool.eq_false_iff]
    intro q
    rw[Array.all_eq_true']at q
    obtain⟨b,e1,_⟩:=hkeys (es[0]'(by omega)) (by simp)
    have:=q (es[0]'(by omega)) (by simp)
    rw[e1]at this
    exact absurd this (by simp[keyPart])
   rw[this]
   simp
  rw[if_pos few]
  refine zaa (zbx n1 rfl ?_);rw[if_pos (by rfl)]
  refine zaa ?_;unfold Builtin.Dict.entriesForEmpty;refine zaa (zbx g1 g3 ?_)
  rw[<- Array.forIn_toList]
  refine zaa (wpAny_forIn_list _ (λrest _ s'=>s'={s with heap:=s.heap.push {cls:=.type "dict",data:=.dict #[]} }/\∀e∈rest,e∈es.toList) _ ?_ ?_ _ _ ⟨rfl,λe he=>he⟩)
  ·rintro e rest b s' ⟨rfl,hm⟩
   have he:=hm e (zay ..)
   obtain⟨b',e1,⟨o',e2,e3⟩⟩:=hkeys e he
   rw[e1]
   refine zaa (qjL (M:=model prog w) ⟨o',zag _ e2,e3⟩ ?_)
   simp only[Bool.not_false,if_true]
   rw[if_neg (by have:=hh e he;omega)]
   exact zab ⟨rfl,λe' he'=>hm e' (zaz _ he')⟩
  ·rintro b s' ⟨rfl,_⟩
   refine zab ?_
   have ne:(!es.isEmpty)=true:=by
    cases q:es.isEmpty with
    | false=>rfl
    | true=>exact absurd (by rw[Array.isEmpty_iff.mp q];rfl) z
   rw[if_pos ne]
   refine zaa (wpAny_updateDictKeysTo n1 rfl (zab (zaa (zab (zab ⟨rfl,?_⟩)))) (by omega))
   exact h _ _ ⟨_,zbv _ n1 rfl,⟨rfl,rfl,rfl⟩,rfl⟩ (zbO ..)
theorem qd3{α:Type}{f:α->Int}{c:Int}:∀(l:List α),(l.map f).Nodup->(l.filter λx=>f x == c).length<=1
 | [],_=>by simp
 | x::l,h=>by
  rw[zak,List.nodup_cons]at h
  have ih:=qd3 (c:=c) l h.2
  rw[List.filter_cons]
  by_cases e:(f x == c)=true
  ·rw[if_pos e]
   have ex:f x=c:=by simpa using e
   have:l.filter (λx=>f x == c)=[]:=by
    rw[List.filter_eq_nil_iff]
    intro y hy hc
    exact h.1 (List.mem_map.mpr ⟨y,hy,by rw[ex];simpa using hc⟩)
   rw[this]
   simp
  ·rw[if_neg e]
   exact ih
section
variable {X:Cx}
theorem qhL:CallR X (.type "dict") (λxs H Q=>∃d kvs,xs=[.ref d]/\Rd H d (.dT kvs)/\(kvs.map λp=>(zaS (qC X.prog X.w)).hash p.1).Nodup/\∀p,H p=none->Q (.ref p) (upd H p (.dT kvs))):=by
 intro pins s σ H xs us Q I r h
 obtain⟨d,kvs,rfl,hd,hnd,q⟩:=h
 obtain⟨u,rfl,ru⟩:=vals1 r
 cases ru
 obtain⟨z,y,xs,rel,o,es,ep,h1,h2,h3,h4,h5⟩:=(show ObjOk X.prog X.w H s.heap d (.dT kvs)from hd.ok I.hok)
 have hes:es.size=kvs.length:=by
  have:=congrArg zbr h4
  rw[za7,zan]at this
  have e:=zbt rel
  omega
 have hash:es.toList.map (·.hash)=kvs.map λp=>(zaS (qC X.prog X.w)).hash p.1:=by
  rw[h4,zaB]
  have:∀ {kvs:List (List Key×V)} {xs:List (List Key×Addr×Value)},Paired (λ(p:List Key×V) (q:List Key×Addr×Value)=>p.1=q.1/\H q.2.1=some (.tup (p.1.map kV))/\RelV p.2 q.2.2) kvs xs->
    xs.map ((·.hash) ∘ entryOfKey (zaS (qC X.prog X.w)))=kvs.map λp=>(zaS (qC X.prog X.w)).hash p.1:=by
   intro kvs xs r
   induction r with
   | nil=>rfl
   | cons h t ih=>rw[zak,zak,ih,h.1];rfl
  exact this rel
 have tup:∀ {kvs:List (List Key×V)} {xs:List (List Key×Addr×Value)},Paired (λ(p:List Key×V) (q:List Key×Addr×Value)=>p.1=q.1/\H q.2.1=some (.tup (p.1.map kV))/\RelV p.2 q.2.2) kvs xs->∀x∈xs,∃k:List V,H x.2.1=some (.tup k):=by
  intro kvs xs r
  induction r with
  | nil=>intro x hx;exact nomatch hx
  | cons h t ih=>
   intro x hx
   rcases List.mem_cons.mp hx with e|e
   ·rw[e];exact⟨_,h.2.1⟩
   ·exact ih x e
 refine qkc y ⟨o,h1,h2,h3⟩ (by omega) (λe he=>?_) (λe he=>?_) λh' ep' raw' sb=>?_
 ·rw[h4]at he
  obtain⟨x,hx,rfl⟩:=List.mem_map.mp he
  obtain⟨k,hk⟩:=tup rel x hx
  obtain⟨its,_,⟨ob,e1,e2,_⟩,_⟩:=I.tuple (SqT.of hk)
  exact⟨x.2.1,rfl,ob,e1,e2⟩
 ·have:=qd3 (f:=(·.hash)) (c:=e.hash) es.toList (by rw[hash];exact hnd)
  rw[<- za7,Array.toList_filter]
  exact this
 ·have hn:H s.heap.objs.size=none:=I.fresh
  obtain⟨o',e1,e2,e3⟩:=raw'
  refine⟨.ref s.heap.objs.size,_,I.laid (t':=s.toks) (o:=.dT kvs) (λb ob q=>(sb.2 b (zaw (zah q))).trans (zag _ q)) (zam _) ⟨z,beq_eq_false_iff_ne.mpr (zaJ (zaw I.big)),xs,?_,o',es,ep',e1,e2,e3,h4,h5⟩,rfl,q _ hn⟩
  exact Paired.mapP rel λp q z=>⟨z.1,by rw[qi (qy z.2.1 hn)];exact z.2.1,z.2.2⟩
end
end My
namespace My
open PySem PySem.Spec PyProof.Rows L2 PySem.SeqAt
noncomputable abbrev Tm:=List Int×Int
noncomputable def kJ(t:Tm):List Key×V:=(t.1.map zao,.int t.2)
noncomputable def look(cs:List Tm)(k:List Int):Option Int:=(cs.find? λt=>decide (t.1=k)).map (·.2)
noncomputable def put(cs:List Tm)(k:List Int)(c:Int):List Tm:=if(cs.any λt=>decide (t.1=k))=true then cs.map (λt=>if t.1=k then(t.1,c)else t)else cs++[(k,c)]
theorem qb5{a b:List Int}:(a.map (zao:Int->Key)=b.map zao)↔a=b:=by
 constructor
 ·intro h
  induction a generalizing b with
  | nil=>cases b with
   | nil=>rfl
   | cons _ _=>cases h
  | cons x xs ih=>cases b with
   | nil=>cases h
   | cons y ys=>
    rw[zak,zak]at h
    injection h with h1 h2
    injection h1 with h1
    rw[h1,ih h2]
 ·intro h;rw[h]
theorem qfU(cs:List Tm)(k:List Int)(c:Int):(put cs k c).length<=cs.length+1:=by
 unfold put
 split
 ·rw[zan];omega
 ·rw[za8];simp
theorem qky{cs:List Tm}{k:List Int}{c:Int}:∀t∈put cs k c,t.1=k\/∃u∈cs,u.1=t.1:=by
 intro t ht
 unfold put at ht
 split at ht
 ·obtain⟨u,hu,e⟩:=List.mem_map.mp ht
  split at e
  ·rename_i z;subst e;exact .inl z
  ·subst e;exact .inr ⟨u,hu,rfl⟩
 ·rcases List.mem_append.mp ht with h|h
  ·exact .inr ⟨t,h,rfl⟩
  ·rw[List.mem_singleton.mp h];exact .inl rfl
theorem qcG{cs:List Tm}{k:List Int}{c:Int}(h:(cs.map (·.1)).Nodup):((put cs k c).map (·.1)).Nodup:=by
 unfold put
 split
 ·rw[zaB]
  have:((·.1) ∘ λt:Tm=>if t.1=k then(t.1,c)else t)=(·.1):=by
   funext t
   show(if t.1=k then(t.1,c)else t).1=t.1
   split <;> rfl
  rw[this];exact h
 ·rename_i z
  rw[zbm]
  refine L2.qiu h λhm=>z ?_
  obtain⟨t,ht,e⟩:=List.mem_map.mp hm
  exact List.any_eq_true.mpr ⟨t,ht,decide_eq_true e⟩
theorem qlq{cs:List Tm}{t:Tm}(h:(cs.map (·.1)).Nodup)(ht:t∈cs):look cs t.1=some t.2:=by
 induction cs with
 | nil=>cases ht
 | cons u cs ih=>
  rw[zak,List.nodup_cons]at h
  rcases List.mem_cons.mp ht with e|e
  ·subst e;simp[look]
  ·have ne:¬ u.1=t.1:=λz=>h.1 (List.mem_map.mpr ⟨t,e,z.symm⟩)
   have:=ih h.2 e
   unfold look at this ⊢
   rw[za4,decide_eq_false ne]
   exact this
theorem qll{cs:List Tm}{k:List Int}{c:Int}(h:look cs k=some c):(k,c)∈cs:=by
 unfold look at h
 cases e:cs.find? λt=>decide (t.1=k)with
 | none=>rw[e]at h;cases h
 | some t=>
  rw[e]at h
  have h1:=List.mem_of_find?_eq_some e
  have h2:=List.find?_some e
  cases h
  have:t.1=k:=of_decide_eq_true h2
  rw[<- this]
  exact h1
noncomputable def add1(cs:List Tm)(t:Tm):List Tm:=put cs t.1 ((look cs t.1).getD 0+t.2)
noncomputable def qZ(ts:List Tm):List Tm:=ts.foldl add1 []
theorem qid(ts:List Tm)(t:Tm):qZ (ts++[t])=add1 (qZ ts) t:=by
 unfold qZ
 rw[List.foldl_append]
 rfl
theorem qca:∀(ts:List Tm),(qZ ts).length<=ts.length/\((qZ ts).map (·.1)).Nodup/\∀t∈qZ ts,∃u∈ts,u.1=t.1:=by
 intro ts
 have gen:∀(ts:List Tm) (cs:List Tm),(cs.map (·.1)).Nodup->(ts.foldl add1 cs).length<=cs.length+ts.length/\((ts.foldl add1 cs).map (·.1)).Nodup/\∀t∈ts.foldl add1 cs,(∃u∈ts,u.1=t.1)\/∃u∈cs,u.1=t.1:=by
  intro ts
  induction ts with
  | nil=>intro cs h;exact⟨by simp,h,λt ht=>.inr ⟨t,ht,rfl⟩⟩
  | cons x ts ih=>
   intro cs h
   obtain⟨a,b,c⟩:=ih (add1 cs x) (qcG h)
   refine⟨?_,b,λt ht=>?_⟩
   ·have:=qfU cs x.1 ((look cs x.1).getD 0+x.2)
    rw[zbV,zaT]
    unfold add1 at *
    omega
   ·rcases c t ht with⟨u,hu,e⟩|⟨u,hu,e⟩
    ·exact .inl ⟨u,zaz _ hu,e⟩
    ·rcases qky u hu with z|⟨v,hv,z⟩
     ·exact .inl ⟨x,zay ..,z.symm.trans e⟩
     ·exact .inr ⟨v,hv,z.trans e⟩
 obtain⟨a,b,c⟩:=gen ts [] List.nodup_nil
 refine⟨by have:=a;simpa[qZ]using this,b,λt ht=>?_⟩
 rcases c t ht with h|⟨u,hu,_⟩
 ·exact h
 ·cases hu
noncomputable def qU(M:Int)(qs:List Tm):List Tm:=(qs.filter λt=>decide (t.2%M≠0)).map λt=>(t.1,t.2%M)
noncomputable def TS(H H':Hp):Prop:=∀b xs,H b=some (.tup xs)->H' b=some (.tup xs)
theorem Same.ts{H H':Hp}(e:Same H H'):TS H H':=λb xs h=>e b _ h
theorem TS.trans{H H1 H2:Hp}(a:TS H H1)(b:TS H1 H2):TS H H2:=λc xs h=>b c xs (a c xs h)
theorem TS.put{H:Hp}{l:Addr}{u o:HO}(h:H l=some u)(n:∀xs,u≠.tup xs):TS H (upd H l o):=λb xs hb=>by
 rw[qi (λz=>by subst z;rw[h]at hb;exact n xs (zaA hb))]
 exact hb
noncomputable def hT(ns:List Int):Int:=reduceHash (Builtin.Tuple.tupleHashOf (ns.map hashInt))
theorem qmv(P:zai)(w:World)(ns:List Int):(zaS (qC P w)).hash (ns.map zao)=hT ns:=by
 show reduceHash (Builtin.Tuple.tupleHashOf ((ns.map zao).map (qC P w).hash))=_
 rw[zaB]
 rfl
noncomputable def qig:List (List Int):=[[0],[1],[2],[3],[4],[5],[6],[7],[8]]
noncomputable def qmc:List (List Int):=([0,1,2,3,4,5,6,7,8]:List Int).flatMap λi=>([0,1,2,3,4,5,6,7,8]:List Int).map λj=>[i,j]
theorem qhH:((qig++qmc).map hT).Nodup:=by decide +kernel
theorem qbH{α β:Type}{f:α->β}:∀ {l:List α},(l.map f).Nodup->∀ {a b:α},a∈l->b∈l->f a=f b->a=b
 | [],_,a,b,ha,_,_=>by cases ha
 | x::l,h,a,b,ha,hb,e=>by
  rw[zak,List.nodup_cons]at h
  rcases List.mem_cons.mp ha with z|z <;> rcases List.mem_cons.mp hb with y|y
  ·rw[z,y]
  ·subst z;exact absurd (List.mem_map.mpr ⟨b,y,e.symm⟩) h.1
  ·subst y;exact absurd (List.mem_map.mpr ⟨a,z,e⟩) h.1
  ·exact qbH h.2 z y e
noncomputable def qhv(k:List Int):Prop:=(k.length=1\/k.length=2)/\∀e∈k,0<=e/\e<=8
theorem qfG{k:List Int}(h:qhv k):k∈qig++qmc:=by
 obtain⟨hl,hk⟩:=h
 have dig:∀e:Int,0<=e->e<=8->e∈([0,1,2,3,4,5,6,7,8]:List Int):=λe h1 h2=>by
  have:e=0\/e=1\/e=2\/e=3\/e=4\/e=5\/e=6\/e=7\/e=8:=by omega
  rcases this with z|z|z|z|z|z|z|z|z <;> (rw[z];decide)
 match k,hl,hk with
 | [x],_,hk=>
  have d:=dig x (hk x (by simp)).1 (hk x (by simp)).2
  refine List.mem_append_left _ ?_
  have:qig=([0,1,2,3,4,5,6,7,8]:List Int).map λi=>[i]:=rfl
  rw[this]
  exact List.mem_map.mpr ⟨x,d,rfl⟩
 | [x,y],_,hk=>
  refine zbi _ (List.mem_flatMap.mpr ⟨x,dig x (hk x (by simp)).1 (hk x (by simp)).2,List.mem_map.mpr ⟨y,dig y (hk y (by simp)).1 (hk y (by simp)).2,rfl⟩⟩)
 | [],hl,_=>simp at hl
 | _::_::_::_,hl,_=>simp at hl
theorem qhK(P:zai)(w:World){cs:List Tm}(hn:(cs.map (·.1)).Nodup)(hs:∀t∈cs,qhv t.1):((cs.map kJ).map λp=>(zaS (qC P w)).hash p.1).Nodup:=by
 have e:((cs.map kJ).map λp=>(zaS (qC P w)).hash p.1)=(cs.map (·.1)).map hT:=by
  rw[zaB,zaB]
  congr 1
  funext t
  exact qmv P w t.1
 rw[e]
 have:∀ {l:List (List Int)},l.Nodup->(∀k∈l,qhv k)->(l.map hT).Nodup:=by
  intro l
  induction l with
  | nil=>intro _ _;exact List.nodup_nil
  | cons x l ih=>
   intro h1 h2
   rw[List.nodup_cons]at h1
   rw[zak,List.nodup_cons]
   refine⟨λhm=>?_,ih h1.2 λk hk=>h2 k (zaz _ hk)⟩
   obtain⟨y,hy,e⟩:=List.mem_map.mp hm
   have:=qbH qhH (qfG (h2 y (zaz _ hy))) (qfG (h2 x (zay ..))) e
   exact h1.1 (this ▸ hy)
 refine this hn λk hk=>?_
 obtain⟨t,ht,rfl⟩:=List.mem_map.mp hk
 exact hs t ht
end My
namespace My
open PySem PySem.Spec PyProof.Rows L2
noncomputable def itN(t:Bool):String:=if t=true then "tuple_iterator" else "list_iterator"
noncomputable def sqN(t:Bool):String:=if t=true then "tuple" else "list"
noncomputable def SIt(t:Bool)(h:Heap)(i l:Addr)(k:Nat):Prop:=∃o,h.get? i=some o/\o.cls=.type (itN t)/\o.data=.fields #[.ref l,.int k 0]
noncomputable def SSq(t:Bool)(h:Heap)(l:Addr)(xs:Array Value):Prop:=∃o,h.get? l=some o/\o.cls=.type (sqN t)/\∃n,o.data=.seq xs n
theorem SIt.to{t:Bool}{h h':Heap}{i l:Addr}{k:Nat}(x:SIt t h i l k)(e:∀o,h.get? i=some o->h'.get? i=some o):SIt t h' i l k:=let ⟨o,ho,r⟩:=x;⟨o,e o ho,r⟩
theorem SSq.to{t:Bool}{h h':Heap}{l:Addr}{xs:Array Value}(x:SSq t h l xs)(e:∀o,h.get? l=some o->h'.get? l=some o):SSq t h' l xs:=let ⟨o,ho,r⟩:=x;⟨o,e o ho,r⟩
section
variable {prog:zai}{w:World}{A:Around}{E:Value->Shared->Prop}{s:Shared}
theorem next_item{t:Bool}{it l:Addr}{i:Nat}{xs:Array Value}{x:Value}{Q:Value->Shared->Prop}(hit:SIt t s.heap it l i)(hl:SSq t s.heap l xs)(hx:xs[i]?=some x)
  (hQ:∀h',SIt t h' it l (i+1)->zaM it s.heap h'->Q x {s with heap:=h'}):wpAny (model prog w) A (zbP (.ref it)) Q E s:=by
 cases t with
 | false=>exact wpAny_nextOf_list_item (it:=it) (l:=l) (items:=xs) hit hl hx hQ
 | true=>
  have hit':s.heap.IsTupleIter it l i:=hit
  obtain⟨o,ho,hc,hd⟩:=hit;obtain⟨ol,hol,_,nl,hdl⟩:=hl
  unfold zbP;refine zaa (zbk (name:=zaU "__next__") hit'.typeIs F.slot_tuple_iterator_next (za9 F.slot_tuple_iterator_next hit'.typeIs F.entry_tuple_iterator_next ?_ (F.args_tuple_iterator_next_1 _)))
  show wpAny _ _ (field (.ref it) 0 >>= _) _ _ _;refine zaa (zaI ho hd (x:=.ref l) rfl ?_)
  show wpAny _ _ (if(zal l == zaD)=true then _ else _) _ _ _;rw[if_neg (show ¬ ((zal l == zaD)=true)from zaq)];show wpAny _ _ (field (.ref it) 1 >>= _) _ _ _
  refine zaa (zaI ho hd (x:=.int i 0) rfl ?_);show wpAny _ _ (seqItems? (.ref l) >>= _) _ _ _;refine zaa (zbn hol hdl ?_);simp only[zbz,hx]
  refine zaa (wpAny_setField ho hd (by simp) (zab ⟨x,rfl,zab (hQ _ ⟨_,zbv _ ho (Obj.isFreed_of_fields (Obj.data_mapFields hd _)),(Obj.cls_mapFields ..).trans hc,by rw[Obj.data_mapFields hd];simp[rawInt]⟩ (zbO ..))⟩))
theorem next_end{t:Bool}{it l:Addr}{i:Nat}{xs:Array Value}{Q:Value->Shared->Prop}(hh:A.handled=none)(hit:SIt t s.heap it l i)(hl:SSq t s.heap l xs)(hx:xs[i]?=none)
  (hE:∀h' e,Heap.ExtBut it s.heap h'->(∃o,h'.get? e=some o/\o.cls=.type "StopIteration")->E (.ref e) {s with heap:=h'}):wpAny (model prog w) A (zbP (.ref it)) Q E s:=by
 cases t with
 | false=>exact wpAny_nextOf_list_end (it:=it) (l:=l) (items:=xs) hh hit hl hx hE
 | true=>
  have hit':s.heap.IsTupleIter it l i:=hit
  obtain⟨o,ho,hc,hd⟩:=hit;obtain⟨ol,hol,_,nl,hdl⟩:=hl
  unfold zbP;refine zaa (zbk (name:=zaU "__next__") hit'.typeIs F.slot_tuple_iterator_next (za9 F.slot_tuple_iterator_next hit'.typeIs F.entry_tuple_iterator_next ?_ (F.args_tuple_iterator_next_1 _)))
  show wpAny _ _ (field (.ref it) 0 >>= _) _ _ _;refine zaa (zaI ho hd (x:=.ref l) rfl ?_)
  show wpAny _ _ (if(zal l == zaD)=true then _ else _) _ _ _;rw[if_neg (show ¬ ((zal l == zaD)=true)from zaq)];show wpAny _ _ (field (.ref it) 1 >>= _) _ _ _
  refine zaa (zaI ho hd (x:=.int i 0) rfl ?_);show wpAny _ _ (seqItems? (.ref l) >>= _) _ _ _;refine zaa (zbn hol hdl ?_);simp only[zbz,hx]
  refine zaa (wpAny_rule (zaa (wpAny_setField ho hd (by simp) ?_)));show wpAny _ _ (newExc (.type "StopIteration") [] >>= _) _ _ _;refine zaa ?_;simp only[newExc,newTuple]
  refine zaa (zbc ?_ (by size_fits));refine zaa (m:=firstArgMember _ _) (wpAny_of_eq (a:=zaD) (by first|rfl|(simp only[firstArgMember];rfl)) ?_);refine zbc ?_ (by size_fits);simp only[raiseNew]
  refine zaa (wpAny_handled ?_);first|rw[show A.in1.handled=none from hh]|rw[hh]
  refine zaa (zab (wpAny_throw ?_));exact hE _ _ (((zbO ..).extBut.push _).push _) ⟨_,zat _ rfl,rfl⟩
structure ZA(z TI TO i1 i2 l1 l2:Addr):Prop where
 z1:TI≠z
 z2:TO≠z
 z3:i1≠z
 z4:i2≠z
 z5:TI≠TO
 z6:TI≠i1
 z7:TI≠i2
 z8:TO≠i1
 z9:TO≠i2
 za:i1≠i2
 zb:l1≠z/\l1≠TO/\l1≠i1/\l1≠i2
 zc:l2≠z/\l2≠TO/\l2≠i1/\l2≠i2
theorem qko{t1 t2:Bool}{z TI TO i1 i2 l1 l2:Addr}{k1 k2:Nat}{xs ys:Array Value}{x y a b:Value}{Q:Option Value->Shared->Prop}(D:ZA z TI TO i1 i2 l1 l2)
  (hz:IsZip s.heap z TI TO .none) (hTI:IsPair s.heap TI (.ref i1) (.ref i2)) (hTO:IsPair s.heap TO a b) (h1:SIt t1 s.heap i1 l1 k1) (h2:SIt t2 s.heap i2 l2 k2) (hl1:SSq t1 s.heap l1 xs) (hl2:SSq t2 s.heap l2 ys) (hx:xs[k1]?=some x) (hy:ys[k2]?=some y)
  (hQ:∀h',IsZip h' z TI TO (rawInt s.heap.objs.size)->IsPair h' TO x y->SIt t1 h' i1 l1 (k1+1)->SIt t2 h' i2 l2 (k2+1)->IsPair h' s.heap.objs.size x y->h'.objs.size=s.heap.objs.size+1->(∀c o,c≠z->c≠TO->c≠i1->c≠i2->s.heap.get? c=some o->h'.get? c=some o)->Q (some (.ref s.heap.objs.size)) {s with heap:=h'}) :
  wpAny (model prog w) A (pyNext (.ref z)) Q E s:=by
 have hT:s.TypeIs (.ref z) "zip" := ⟨_,hz,rfl⟩
 unfold pyNext;refine zaa (wpAny_attempt (zbk (name:=zaU "__next__") hT F.slot_zip_next (za9 F.slot_zip_next hT F.entry_zip_next ?_ (F.args_zip_next_1 _))))
 show wpAny _ _ (field (.ref z) 2 >>= _) _ _ s;refine zaa (zaI hz rfl (x:=.bool false) rfl ?_);show wpAny _ _ (field (.ref z) 3 >>= _) _ _ s;refine zaa (zaI hz rfl (x:=.ref TI) rfl (zaa (zbn hTI rfl ?_)))
 show wpAny _ _ (zb2 (.ref z) >>= _) _ _ s;refine zaa ?_;unfold zb2;refine zaa (zaI hz rfl (x:=.none) rfl (zab ?_));simp only[if_true]
 refine zaa (wpAny_rule (zaa (zaI hz rfl (x:=.ref TO) rfl (zaa (za5 hz (by simp) λha hza sa=>?_)))));replace hza:IsZip ha z TI TO .ellipsis:=hza
 refine zaa ?_;simp only[List.zipIdx_cons,List.zipIdx_nil,List.forIn_cons,List.forIn_nil];refine zaa (zaa (wpAny_onRaise ?_));show wpAny _ _ (zbP (.ref i1) >>= _) _ _ {s with heap:=ha}
 have ea:=sa.extBut
 refine zaa (next_item (t:=t1) (xs:=xs) (h1.to λo e=>ea _ _ D.z3 e) (hl1.to λo e=>ea _ _ D.zb.1 e) hx λhb h1b sb=>zab ?_)
 have eb:=sb.extBut
 have hTOb:IsPair hb TO a b:=eb _ _ D.z8 (ea _ _ D.z2 hTO)
 refine zaa (zbn hTOb rfl (zaa (wpAny_updateSeq_pair hTOb λhc hTOc sc=>?_)));replace hTOc:IsPair hc TO x b:=hTOc
 have ec:=sc.extBut
 refine zaa (wpAny_letGo (zab ?_));refine zaa (zaa (wpAny_onRaise ?_));show wpAny _ _ (zbP (.ref i2) >>= _) _ _ {s with heap:=hc}
 refine zaa (next_item (t:=t2) (xs:=ys) (h2.to λo e=>ec _ _ D.z9.symm (eb _ _ D.za.symm (ea _ _ D.z4 e))) (hl2.to λo e=>ec _ _ D.zc.2.1 (eb _ _ D.zc.2.2.1 (ea _ _ D.zc.1 e))) hy λhd h2d sd=>zab ?_)
 have ed:=sd.extBut
 have hTOd:IsPair hd TO x b:=ed _ _ D.z9 hTOc
 refine zaa (zbn hTOd rfl (zaa (wpAny_updateSeq_pair hTOd λhe hTOe se=>?_)));replace hTOe:IsPair he TO x y:=hTOe
 have ee:=se.extBut
 refine zaa (wpAny_letGo (zab (zab ?_)));refine zaa (zbn hTOe rfl (zaa (wpAny_newTuple ?_)))
 have hsz:he.objs.size=s.heap.objs.size:=by rw[se.1,sd.1,sc.1,sb.1,sa.1]
 have hze:IsZip he z TI TO .ellipsis:=ee _ _ D.z2.symm (ed _ _ D.z4.symm (ec _ _ D.z2.symm (eb _ _ D.z3.symm hza)))
 have hke:∀c o,c≠z->c≠TO->c≠i1->c≠i2->s.heap.get? c=some o->he.get? c=some o:=λc o c1 c2 c3 c4 e=>ee _ _ c2 (ed _ _ c4 (ec _ _ c2 (eb _ _ c3 (ea _ _ c1 e))))
 have h1e:SIt t1 he i1 l1 (k1+1):=h1b.to λo e=>ee _ _ D.z8.symm (ed _ _ D.za (ec _ _ D.z8.symm e))
 have h2e:SIt t2 he i2 l2 (k2+1):=h2d.to λo e=>ee _ _ D.z9.symm e
 have zlt:z<he.objs.size:=zah hze
 show wpAny _ _ (zcg (.ref z) (.ref he.objs.size) >>= _) _ _ _;refine zaa ?_;unfold zcg
 have hzf:IsZip (he.push {cls:=.type "tuple",data:=.seq #[x,y]}) z TI TO .ellipsis:=zag _ hze
 refine zaa (za5 hzf (by simp) λhg hzg sg=>?_);replace hzg:IsZip hg z TI TO (rawInt he.objs.size):=hzg
 refine za5 hzg (by simp) λhi hzi si=>?_;replace hzi:IsZip hi z TI TO (rawInt he.objs.size):=hzi
 have up:∀c o,c≠z->he.get? c=some o->hi.get? c=some o:=λc o c1 e=>si.extBut _ _ c1 (sg.extBut _ _ c1 (zag _ e))
 have hTi:IsPair hi he.objs.size x y:=si.extBut _ _ (zaF zlt) (sg.extBut _ _ (zaF zlt) (zat _ rfl))
 have hzz:hi.objs.size=he.objs.size+1:=by rw[si.1,sg.1,zbA]
 rw[hsz]at hzi hTi hzz
 refine zab ⟨_,rfl,zab ?_⟩
 show Q (some (.ref he.objs.size)) _;rw[hsz]
 exact hQ hi hzi (up _ _ D.z2 hTOe) (h1e.to λo e=>up _ o D.z3 e) (h2e.to λo e=>up _ o D.z4 e) hTi hzz λc o c1 c2 c3 c4 e=>up c o c1 (hke c o c1 c2 c3 c4 e)
theorem qkv{t1 t2:Bool}{z TI TO i1 i2 l1 l2:Addr}{k1 k2:Nat}{xs ys:Array Value}{a b:Value}{Q:Option Value->Shared->Prop}(hh:A.handled=none)(D:ZA z TI TO i1 i2 l1 l2)
  (hz:IsZip s.heap z TI TO .none) (hTI:IsPair s.heap TI (.ref i1) (.ref i2)) (hTO:IsPair s.heap TO a b) (h1:SIt t1 s.heap i1 l1 k1) (h2:SIt t2 s.heap i2 l2 k2) (hl1:SSq t1 s.heap l1 xs) (hl2:SSq t2 s.heap l2 ys) (hend:xs[k1]?=none\/ys[k2]?=none)
  (hQ:∀h',(∀c o,c≠z->c≠TO->c≠i1->c≠i2->s.heap.get? c=some o->h'.get? c=some o)->Q none {s with heap:=h'}):wpAny (model prog w) A (pyNext (.ref z)) Q E s:=by
 have hT:s.TypeIs (.ref z) "zip" := ⟨_,hz,rfl⟩
 have fin:∀(h':Heap) (e:Addr),(∀c o,c≠z->c≠TO->c≠i1->c≠i2->s.heap.get? c=some o->h'.get? c=some o)->(∃o,h'.get? e=some o/\o.cls=.type "StopIteration")->wpAny (model prog w) A (do if <- isInstance (.ref e) (.type "StopIteration")then pure none else throw (.ref e)) Q E {s with heap:=h'}:=λh' e hk he=>by
  obtain⟨o,ho,hc⟩:=he
  refine zaa (wpAny_isInstance (T := "StopIteration") (b:=true) ⟨o,ho,hc⟩ isSubtype_stop ?_)
  exact zab (hQ _ hk)
 unfold pyNext;refine zaa (wpAny_attempt (zbk (name:=zaU "__next__") hT F.slot_zip_next (za9 F.slot_zip_next hT F.entry_zip_next ?_ (F.args_zip_next_1 _))))
 show wpAny _ _ (field (.ref z) 2 >>= _) _ _ s;refine zaa (zaI hz rfl (x:=.bool false) rfl ?_);show wpAny _ _ (field (.ref z) 3 >>= _) _ _ s;refine zaa (zaI hz rfl (x:=.ref TI) rfl (zaa (zbn hTI rfl ?_)))
 show wpAny _ _ (zb2 (.ref z) >>= _) _ _ s;refine zaa ?_;unfold zb2;refine zaa (zaI hz rfl (x:=.none) rfl (zab ?_));simp only[if_true]
 refine zaa (wpAny_rule (zaa (zaI hz rfl (x:=.ref TO) rfl (zaa (za5 hz (by simp) λha hza sa=>?_)))));replace hza:IsZip ha z TI TO .ellipsis:=hza
 refine zaa ?_;simp only[List.zipIdx_cons,List.zipIdx_nil,List.forIn_cons,List.forIn_nil];refine zaa (zaa (wpAny_onRaise ?_));show wpAny _ _ (zbP (.ref i1) >>= _) _ _ {s with heap:=ha}
 have ea:=sa.extBut
 cases hx:xs[k1]? with
 | none=>
  refine zaa (next_end (t:=t1) (xs:=xs) hh (h1.to λo e=>ea _ _ D.z3 e) (hl1.to λo e=>ea _ _ D.zb.1 e) hx λhb e sb he=>?_)
  obtain⟨oe,hoe,hce⟩:=he
  have hzb:IsZip hb z TI TO .ellipsis:=sb _ _ D.z3.symm hza
  have hez:e≠z:=λq=>by subst q;rw[hzb]at hoe;cases hoe;simp at hce
  exact za5 hzb (by simp) λhc _ sc=>fin hc e (λc o c1 _ c3 _ q=>sc.extBut _ _ c1 (sb _ _ c3 (ea _ _ c1 q))) ⟨oe,sc.extBut _ _ hez hoe,hce⟩
 | some x=>
  have hy:ys[k2]?=none:=by rcases hend with h|h;rw[hx]at h;cases h;exact h
  refine zaa (next_item (t:=t1) (xs:=xs) (h1.to λo e=>ea _ _ D.z3 e) (hl1.to λo e=>ea _ _ D.zb.1 e) hx λhb h1b sb=>zab ?_)
  have eb:=sb.extBut
  have hTOb:IsPair hb TO a b:=eb _ _ D.z8 (ea _ _ D.z2 hTO)
  refine zaa (zbn hTOb rfl (zaa (wpAny_updateSeq_pair hTOb λhc hTOc sc=>?_)))
  have ec:=sc.extBut
  refine zaa (wpAny_letGo (zab ?_));refine zaa (zaa (wpAny_onRaise ?_));show wpAny _ _ (zbP (.ref i2) >>= _) _ _ {s with heap:=hc}
  refine zaa (next_end (t:=t2) (xs:=ys) hh (h2.to λo e=>ec _ _ D.z9.symm (eb _ _ D.za.symm (ea _ _ D.z4 e))) (hl2.to λo e=>ec _ _ D.zc.2.1 (eb _ _ D.zc.2.2.1 (ea _ _ D.zc.1 e))) hy λhd e sd he=>?_)
  obtain⟨oe,hoe,hce⟩:=he
  have hzd:IsZip hd z TI TO .ellipsis:=sd _ _ D.z4.symm (ec _ _ D.z2.symm (eb _ _ D.z3.symm hza))
  have hez:e≠z:=λq=>by subst q;rw[hzd]at hoe;cases hoe;simp at hce
  exact za5 hzd (by simp) λhf _ sf=>fin hf e (λc o c1 c2 c3 c4 q=>sf.extBut _ _ c1 (sd _ _ c4 (ec _ _ c2 (eb _ _ c3 (ea _ _ c1 q))))) ⟨oe,sf.extBut _ _ hez hoe,hce⟩
noncomputable abbrev itO(t:Bool)(l:Addr):Obj:={cls:=.type (itN t),data:=.fields #[.ref l,.int 0 0]}
noncomputable abbrev zh2(t1 t2:Bool)(h:Heap)(l1 l2:Addr):Heap:=(h.push (itO t1 l1)).push (itO t2 l2)
noncomputable abbrev zh4(t1 t2:Bool)(h:Heap)(l1 l2:Addr):Heap:=((zh2 t1 t2 h l1 l2).push {cls:=.type "tuple",data:=.seq #[.ref h.objs.size,.ref (h.push (itO t1 l1)).objs.size]}).push {cls:=.type "tuple",data:=.seq #[.none,.none]}
noncomputable abbrev zh5(t1 t2:Bool)(h:Heap)(l1 l2:Addr):Heap:=(zh4 t1 t2 h l1 l2).push {cls:=.type "zip",data:=.fields #[.none,.bool false,.bool false,.ref (zh2 t1 t2 h l1 l2).objs.size,.ref ((zh2 t1 t2 h l1 l2).push {cls:=.type "tuple",data:=.seq #[.ref h.objs.size,.ref (h.push (itO t1 l1)).objs.size]}).objs.size]}
theorem qm7(t1 t2:Bool)(l1 l2:Addr)(xs ys:Array Value):Meets (Builtin.«zip.__new__» ⟨[.type "zip",.ref l1,.ref l2],[]⟩) (λ_ R s=>SSq t1 s.heap l1 xs/\SSq t2 s.heap l2 ys/\R (.ok (.ret (.ref (zh4 t1 t2 s.heap l1 l2).objs.size))) {s with heap:=zh5 t1 t2 s.heap l1 l2}):=
 .of_wp λprog w A R s h=>by
  obtain⟨hp,g,d,tk,os⟩:=s;obtain⟨hl1,hl2,h⟩:=h
  have hsub:=sub_zip
  have hl2':SSq t2 (hp.push (itO t1 l1)) l2 ys:=hl2.to λo e=>zag _ e
  cases t1 <;> cases t2
  ·have hL1:Heap.IsList (Shared.heap ⟨hp,g,d,tk,os⟩) l1 xs:=hl1
   have hL2:Heap.IsList (Shared.heap ⟨hp.push {cls:=.type "list_iterator",data:=.fields #[.ref l1,.int 0 0]},g,d,tk,os⟩) l2 ys:=hl2'
   wp_walk using zbK hL1,zbK hL2
   exact⟨_,rfl,h⟩
  ·have hL1:Heap.IsList (Shared.heap ⟨hp,g,d,tk,os⟩) l1 xs:=hl1
   have hL2:Heap.IsTuple (Shared.heap ⟨hp.push {cls:=.type "list_iterator",data:=.fields #[.ref l1,.int 0 0]},g,d,tk,os⟩) l2 ys:=hl2'
   wp_walk using zbK hL1,zbo hL2
   exact⟨_,rfl,h⟩
  ·have hL1:Heap.IsTuple (Shared.heap ⟨hp,g,d,tk,os⟩) l1 xs:=hl1
   have hL2:Heap.IsList (Shared.heap ⟨hp.push {cls:=.type "tuple_iterator",data:=.fields #[.ref l1,.int 0 0]},g,d,tk,os⟩) l2 ys:=hl2'
   wp_walk using zbo hL1,zbK hL2
   exact⟨_,rfl,h⟩
  ·have hL1:Heap.IsTuple (Shared.heap ⟨hp,g,d,tk,os⟩) l1 xs:=hl1
   have hL2:Heap.IsTuple (Shared.heap ⟨hp.push {cls:=.type "tuple_iterator",data:=.fields #[.ref l1,.int 0 0]},g,d,tk,os⟩) l2 ys:=hl2'
   wp_walk using zbo hL1,zbo hL2
   exact⟨_,rfl,h⟩
theorem qkX{t1 t2:Bool}{l1 l2:Addr}{xs ys:Array Value}{Q:Value->Shared->Prop}(hl1:SSq t1 s.heap l1 xs)(hl2:SSq t2 s.heap l2 ys)
  (h:∀h', IsZip h' (s.heap.objs.size+4) (s.heap.objs.size+2) (s.heap.objs.size+3) .none -> IsPair h' (s.heap.objs.size+2) (.ref s.heap.objs.size) (.ref (s.heap.objs.size+1)) -> IsPair h' (s.heap.objs.size+3) .none .none ->
   SIt t1 h' s.heap.objs.size l1 0->SIt t2 h' (s.heap.objs.size+1) l2 0->(∀c o,s.heap.get? c=some o->h'.get? c=some o)->Q (.ref (s.heap.objs.size+4)) {s with heap:=h'}):wpAny (model prog w) A (call (.type "zip") [.ref l1,.ref l2]) Q E s:=by
 refine callType_new F.called_zip (by decide) (F.typeCall_zip_2 _ _) (F.newCall_zip_2 _ _) (λobj=>F.args_object_init_3 obj _ _) F.entry_zip_new (qm7 t1 t2 l1 l2 xs ys) ⟨hl1,hl2,?_⟩
 have n1:(s.heap.push (itO t1 l1)).objs.size=s.heap.objs.size+1:=zbA ..
 have n2:(zh2 t1 t2 s.heap l1 l2).objs.size=s.heap.objs.size+2:=by rw[zbA,n1]
 have n3:((zh2 t1 t2 s.heap l1 l2).push {cls:=.type "tuple",data:=.seq #[.ref s.heap.objs.size,.ref (s.heap.push (itO t1 l1)).objs.size]}).objs.size=s.heap.objs.size+3:=by rw[zbA,n2]
 have n4:(zh4 t1 t2 s.heap l1 l2).objs.size=s.heap.objs.size+4:=by rw[zbA,n3]
 have g5:(zh5 t1 t2 s.heap l1 l2).get? (zh4 t1 t2 s.heap l1 l2).objs.size=some _:=zat _ rfl
 have g4:(zh5 t1 t2 s.heap l1 l2).get? ((zh2 t1 t2 s.heap l1 l2).push {cls:=.type "tuple",data:=.seq #[.ref s.heap.objs.size,.ref (s.heap.push (itO t1 l1)).objs.size]}).objs.size=some _:=zag _ (zat _ rfl)
 have g3:(zh5 t1 t2 s.heap l1 l2).get? (zh2 t1 t2 s.heap l1 l2).objs.size=some _:=zag _ (zag _ (zat _ rfl))
 have g2:(zh5 t1 t2 s.heap l1 l2).get? (s.heap.push (itO t1 l1)).objs.size=some (itO t2 l2):=zag _ (zag _ (zag _ (zat _ rfl)))
 have g1:(zh5 t1 t2 s.heap l1 l2).get? s.heap.objs.size=some (itO t1 l1):=zag _ (zag _ (zag _ (zag _ (zat _ rfl))))
 show _/\_
 rw[n2,n3,n4]at g5;rw[n1,n2]at g3;rw[n3]at g4;rw[n1]at g2;rw[n4]
 exact⟨⟨_,g5,rfl⟩,h _ g5 g3 g4 ⟨_,g1,rfl,rfl⟩ ⟨_,g2,rfl,rfl⟩ λc o x=>zag _ (zag _ (zag _ (zag _ (zag _ x))))⟩
end
noncomputable def SqB(K:zae)(t:Bool)(H:Hp)(a:Addr)(xs:List V):Prop:=if t=true then SqT K H a xs else SqL K H a xs
noncomputable def ItZ(K:zae)(t1 t2:Bool)(l1 l2:Addr):It:=
 ⟨λi H => ∃xs ys, SqB K t1 H l1 xs /\ SqB K t2 H l2 ys /\ i<xs.length /\ i<ys.length, λi H x H' => ∃p u v, x = .ref p /\ H p = none /\ H' = upd H p (.tup [u, v]) /\ ∀xs ys, SqB K t1 H l1 xs -> SqB K t2 H l2 ys -> xs[i]? = some u /\ ys[i]? = some v,
  λi H=>∃xs ys,SqB K t1 H l1 xs/\SqB K t2 H l2 ys/\(xs.length<=i\/ys.length<=i)⟩
theorem qbM{X:Cx}{pins:List (Addr×Obj)}{σ:L2.St}{H:Hp}{s:Shared}{t:Bool}{a:Addr}{xs:List V}(I:Inv X pins σ H s)(h:SqB X.K t H a xs):∃its:List Value,Vals xs its/\SSq t s.heap a its.toArray:=by
 cases t with
 | true=>
  obtain⟨its,r,p,_⟩:=I.tuple (show SqT X.K H a xs from h)
  exact⟨its,r,p⟩
 | false=>
  obtain⟨its,r,p,_⟩:=I.list (show SqL X.K H a xs from h)
  exact⟨its,r,PlainL.isList p⟩
theorem qf2{X:Cx}{pins:List (Addr×Obj)}{σ:L2.St}{H:Hp}{s:Shared}{t:Bool}{a:Addr}{xs ys:List V}(I:Inv X pins σ H s)(h:SqB X.K t H a xs)(h':SqB X.K t H a ys):xs=ys:=by
 cases t with
 | true=>exact I.tuple_inj (show SqT X.K H a xs from h) h'
 | false=>exact I.list_inj (show SqL X.K H a xs from h) h'
theorem qa3{X:Cx}{pins:List (Addr×Obj)}{σ:L2.St}{H:Hp}{s:Shared}{h':Heap}{t':Nat}{fp:List Addr}(I:Inv X pins σ H s)(hf:∀b∈fp,FpOk X pins H b)(k:∀b o,b∉fp->s.heap.get? b=some o->h'.get? b=some o):Inv X pins σ H {s with heap:=h',toks:=t'}:=by
 have nit:∀b u,H b=some u->b∉fp:=λb u e z=>by rw[(hf b z).1]at e;cases e
 refine I.call' (s':={s with heap:=h',toks:=t'}) (ch:=fp) rfl ⟨λb o e _ _ hx=>k b o hx e,λb o e _ _ hx=>⟨o.slots,k b o hx e⟩,λ_ _ _ n _=>n,λb o e hx=>⟨o,k b o hx e⟩,λ_ _ q=>q,λ_ _ _ q=>q,λb ps q=>⟨#[],by rw[q];simp⟩⟩ (λb u e=>?_) I.bare λb hb=>?_
 ·refine(I.hok b u e).stay (λc v hc q=>k c v ?_ q) (λ_ q=>q) λ_ _ q=>q
  rcases hc with z|z
  ·rw[z];exact nit b u e
  ·exact nit c _ z
 ·obtain⟨_,f1,_,f3,f4,f5⟩:=hf b hb
  exact⟨f3,f1,f4,f5⟩
theorem qlz{P:zai}{w:World}{K:zae}{elts:List Expr}{x1}{tp:Pos}(t1 t2:Bool){z TI TO i1 i2 l1 l2:Addr}(D:ZA z TI TO i1 i2 l1 l2) :
  Turn P w K (.Tuple elts x1 tp) (ItZ K t1 t2 l1 l2) [z,TI,TO,i1,i2] z (λi h=>IsZip h z TI TO .none/\IsPair h TI (.ref i1) (.ref i2)/\(∃a b,IsPair h TO a b)/\SIt t1 h i1 l1 i/\SIt t2 h i2 l2 i) where
 mem:=by simp
 obj:=by
  rintro i h ⟨hz,hTI,⟨a,b,hTO⟩,⟨o1,e1,_,d1⟩,⟨o2,e2,_,d2⟩⟩ c hc
  simp only[zaK,zaL,or_false]at hc
  rcases hc with rfl|rfl|rfl|rfl|rfl
  ·exact⟨_,hz,λv q=>by cases q⟩
  ·exact⟨_,hTI,λv q=>by cases q⟩
  ·exact⟨_,hTO,λv q=>by cases q⟩
  ·exact⟨o1,e1,λv q=>by rw[d1]at q;cases q⟩
  ·exact⟨o2,e2,λv q=>by rw[d2]at q;cases q⟩
 keep:=λi h h' ⟨hz,hTI,⟨a,b,hTO⟩,s1,s2⟩ k=>⟨k z (by simp) _ hz,k TI (by simp) _ hTI,⟨a,b,k TO (by simp) _ hTO⟩,s1.to λo e=>k i1 (by simp) o e,s2.to λo e=>k i2 (by simp) o e⟩
 item:=by
  intro X hP hw hK hc i pins s σ H E I hf st hg
  subst hP hw hK
  obtain⟨hz,hTI,⟨a,b,hTO⟩,s1,s2⟩:=st
  obtain⟨xs,ys,q1,q2,lt1,lt2⟩:=hg
  obtain⟨its1,r1,p1⟩:=qbM I q1
  obtain⟨its2,r2,p2⟩:=qbM I q2
  have e1:xs[i]?=some xs[i]:=by simp[lt1]
  have e2:ys[i]?=some ys[i]:=by simp[lt2]
  obtain⟨u,eu,ru⟩:=r1.get e1
  obtain⟨v,ev,rv⟩:=r2.get e2
  refine qko D hz hTI hTO s1 s2 p1 p2 (x:=u) (y:=v) (by simpa using eu) (by simpa using ev) λh' a1 a2 a3 a4 a5 a6 hk=>⟨_,rfl,?_⟩
  refine wpAny_letOwnedTupleGo_zip (s:={s with heap:=h'}) a1 λh2 hz2 sb=>?_
  have zz:∀c,c∈[z,TI,TO,i1,i2]->c<s.heap.objs.size:=λc hc=>by
   simp only[zaK,zaL,or_false]at hc
   rcases hc with rfl|rfl|rfl|rfl|rfl
   ·exact zah hz
   ·exact zah hTI
   ·exact zah hTO
   ·obtain⟨o,e,_⟩:=s1;exact zah e
   ·obtain⟨o,e,_⟩:=s2;exact zah e
  have up:∀c o,c≠z->h'.get? c=some o->h2.get? c=some o:=λc o hc e=>sb.extBut _ _ hc e
  have I1:Inv X pins σ H {s with heap:=h2,toks:=s.toks}:=qa3 I hf λc o hc e=>by
   simp only[zaK,zaL,or_false,not_or]at hc
   exact up c o hc.1 (hk c o hc.1 hc.2.2.1 hc.2.2.2.1 hc.2.2.2.2 e)
  have hnew:H s.heap.objs.size=none:=I.fresh
  have hT2:IsPair h2 s.heap.objs.size u v:=up _ _ (zaF (zz z (by simp))) a5
  have I2:Inv X pins σ (upd H s.heap.objs.size (.tup [xs[i],ys[i]])) {s with heap:=h2}:=by
   have ok2:HOk X.prog X.w (upd H s.heap.objs.size (.tup [xs[i],ys[i]])) h2:=λc ob e=>by
    by_cases hc:c=s.heap.objs.size
    ·subst hc;rw[ql]at e;cases e
     exact⟨by show 2<=zaj;decide,[u,v],.cons ru (.cons rv .nil),_,hT2,rfl,0,rfl,rfl⟩
    ·rw[qi hc]at e
     exact(I1.hok c ob e).stay (λ_ _ _ q=>q) (λd q=>by rw[qi (qy q hnew)];exact q) λd ys' q=>by rw[qi (qy q hnew)];exact q
   refine I.call' (s':={s with heap:=h2}) (ch:=[z,TI,TO,i1,i2]) rfl ⟨λc o e _ _ hx=>?_,λc o e _ _ hx=>⟨o.slots,?_⟩,λc o e n hx=>by rw[qi (zaw (zah e))];exact n,λc o e hx=>⟨o,?_⟩,λc ys' q=>by rw[qi (qy q hnew)];exact q,λc o' u' q=>by rw[qi (qy q hnew)];exact q,λc ps q=>⟨#[],by rw[qi (qy q hnew),q];simp⟩⟩ ok2 I.bare λb hb=>?_
   ·simp only[zaK,zaL,or_false,not_or]at hx
    exact up c o hx.1 (hk c o hx.1 hx.2.2.1 hx.2.2.2.1 hx.2.2.2.2 e)
   ·simp only[zaK,zaL,or_false,not_or]at hx
    exact up c o hx.1 (hk c o hx.1 hx.2.2.1 hx.2.2.2.1 hx.2.2.2.2 e)
   ·simp only[zaK,zaL,or_false,not_or]at hx
    exact up c o hx.1 (hk c o hx.1 hx.2.2.1 hx.2.2.2.1 hx.2.2.2.2 e)
   ·obtain⟨_,f1,_,f3,f4,f5⟩:=hf b hb
    exact⟨f3,f1,f4,f5⟩
  refine⟨.ref s.heap.objs.size,_,I2,rfl,⟨_,_,_,rfl,hnew,rfl,λxs' ys' g1 g2=>by rw[<- qf2 I q1 g1,<- qf2 I q2 g2];exact⟨e1,e2⟩⟩,⟨hz2,up _ _ D.z1 (hk _ _ D.z1 D.z5 D.z6 D.z7 hTI),⟨_,_,up _ _ D.z2 a2⟩,a3.to λo e=>up _ o D.z3 e,a4.to λo e=>up _ o D.z4 e⟩,λc hc=>?_⟩
  rw[qi (zaw (zz c hc))]
  exact(hf c hc).1
 done:=by
  intro X hP hw hK hc i pins s σ H E I hf st hg
  subst hP hw hK
  obtain⟨hz,hTI,⟨a,b,hTO⟩,s1,s2⟩:=st
  obtain⟨xs,ys,q1,q2,hend⟩:=hg
  obtain⟨its1,r1,p1⟩:=qbM I q1
  obtain⟨its2,r2,p2⟩:=qbM I q2
  have n1:=r1.length
  have n2:=r2.length
  refine qkv (I.ok.hd hc) D hz hTI hTO s1 s2 p1 p2 (hend.imp (λh=>by simp;omega) λh=>by simp;omega) λh' hk=>⟨rfl,qa3 (t':=s.toks) I hf λc o hc e=>?_⟩
  simp only[zaK,zaL,or_false,not_or]at hc
  exact hk c o hc.1 hc.2.2.1 hc.2.2.2.1 hc.2.2.2.2 e
 self:=λ_ _ _ _ _ st h=>wpAny_pyIter_zip st.1 h
theorem qqK(n l1 l2:Nat)(h1:l1<n)(h2:l2<n):ZA (n+4) (n+2) (n+3) n (n+1) l1 l2:=⟨(show(n+2:Nat)≠n+4 by omega),(show(n+3:Nat)≠n+4 by omega),(show(n:Nat)≠n+4 by omega),(show(n+1:Nat)≠n+4 by omega),(show(n+2:Nat)≠n+3 by omega),(show(n+2:Nat)≠n by omega),(show(n+2:Nat)≠n+1 by omega),(show(n+3:Nat)≠n by omega),(show(n+3:Nat)≠n+1 by omega),(show(n:Nat)≠n+1 by omega),⟨(show(l1:Nat)≠n+4 by omega),(show(l1:Nat)≠n+3 by omega),(show(l1:Nat)≠n by omega),(show(l1:Nat)≠n+1 by omega)⟩,⟨(show(l2:Nat)≠n+4 by omega),(show(l2:Nat)≠n+3 by omega),(show(l2:Nat)≠n by omega),(show(l2:Nat)≠n+1 by omega)⟩⟩
noncomputable def iZip(K:zae)(ta:TA):TI:=λσ H R=>ta σ H λvs H1=>∃t1 t2 l1 l2 xs ys,vs=[.ref l1,.ref l2]/\SqB K t1 H1 l1 xs/\SqB K t2 H1 l2 ys/\R (ItZ K t1 t2 l1 l2) H1
theorem qqg{X:Cx}{elts:List Expr}{x1}{tp:Pos}{a b:Expr}{ta:TA}{p pos:Pos}(hg:Gl X "zip")(hm:X.mg "zip" = none)(ha:PA X [a,b] ta)(hs:zaf [a,b] X.env=[(false,eval a X.env),(false,eval b X.env)]:=by rfl)(hs2:zaf [b] X.env=[(false,eval b X.env)]:=by rfl) :
  PI X (.Tuple elts x1 tp) (.Call (.Name "zip" p) [a,b] [] pos) (iZip X.K ta):=by
 intro pins s σ H R I h
 refine Call_ (qbs I hg hm My.boot_zip (zbZ (thn (ha pos pins s σ H _ I h) λus s1 ⟨vs,H1,I1,r1,q1⟩=>?_) (by rw[hs,hs2]) (by rw[hs2];rfl)))
 obtain⟨t1,t2,l1,l2,xs,ys,rfl,q1,q2,q⟩:=q1
 obtain⟨u,v,rfl,ru,rv⟩:=vals2 r1
 cases ru
 cases rv
 obtain⟨its1,_,p1⟩:=qbM I1 q1
 obtain⟨its2,_,p2⟩:=qbM I1 q2
 have b1:l1<s1.heap.objs.size:=by obtain⟨o,e,_⟩:=p1;exact zah e
 have b2:l2<s1.heap.objs.size:=by obtain⟨o,e,_⟩:=p2;exact zah e
 refine qkX p1 p2 λh' hz hTI hTO s1' s2' k=>?_
 refine wpAny_pyIter_zip hz ?_
 have D:ZA (s1.heap.objs.size+4) (s1.heap.objs.size+2) (s1.heap.objs.size+3) s1.heap.objs.size (s1.heap.objs.size+1) l1 l2:=qqK _ _ _ b1 b2
 refine⟨_,[_,_,_,_,_],_,_,H1,rfl,I1.kept (t':=s1.toks) k,qlz t1 t2 D,⟨hz,hTI,⟨_,_,hTO⟩,s1',s2'⟩,λc hc=>I1.fpOk ?_ (I1.hok.fresh ?_),q⟩
 ·simp only[zaK,zaL,or_false]at hc
  rcases hc with rfl|rfl|rfl|rfl|rfl <;> omega
 ·simp only[zaK,zaL,or_false]at hc
  rcases hc with rfl|rfl|rfl|rfl|rfl <;> omega
end My
namespace P
open PySem PySem.Spec PyProof.Rows L2
inductive D where
 | non|bl (b:Bool)|int (i:Int)|str (x:Str)|tup (l:List D)|lst (l:List D)
 | dK (l:List (Key×D))|dT (l:List (List Key×D))
noncomputable abbrev Av:=Addr->Prop
section
variable (A:Av)(H:Hp)
mutual
/-- a heap bears a value that stays (the things that may still be written are in A) -/
inductive Rep:D->V->Prop where
 | non:Rep .non .non
 | bl (b:Bool):Rep (.bl b) (.bl b)
 | int (i:Int):Rep (.int i) (.int i)
 | str (x:Str):Rep (.str x) (.str x)
 | tup {l:List D} {a:Addr} {xs:List V} (h:H a=some (.tup xs)) (r:RepL l xs):Rep (.tup l) (.ref a)
 | lst {l:List D} {a:Addr} {xs:List V} (n:¬ A a) (h:Rd H a (.lst xs)) (r:RepL l xs):Rep (.lst l) (.ref a)
 | dK {l:List (Key×D)} {a:Addr} {xs:List (Key×V)} (n:¬ A a) (h:Rd H a (.dK xs)) (e:xs.map (·.1)=l.map (·.1)) (r:RepL (l.map (·.2)) (xs.map (·.2))):Rep (.dK l) (.ref a)
 | dT {l:List (List Key×D)} {a:Addr} {xs:List (List Key×V)} (n:¬ A a) (h:Rd H a (.dT xs)) (e:xs.map (·.1)=l.map (·.1)) (r:RepL (l.map (·.2)) (xs.map (·.2))):Rep (.dT l) (.ref a)
inductive RepL:List D->List V->Prop where
 | nil:RepL [] []
 | cons {d:D} {v:V} {ds:List D} {vs:List V} (h:Rep d v) (t:RepL ds vs):RepL (d::ds) (v::vs)
end
inductive RepB:D->V->Prop where
 | of {d:D} {v:V} (h:Rep A H d v):RepB d v
 | lst {l:List D} {a:Addr} {xs:List V} (h:Rd H a (.lst xs)) (r:RepL A H l xs):RepB (.lst l) (.ref a)
 | dK {l:List (Key×D)} {a:Addr} {xs:List (Key×V)} (h:Rd H a (.dK xs)) (e:xs.map (·.1)=l.map (·.1)) (r:RepL A H (l.map (·.2)) (xs.map (·.2))):RepB (.dK l) (.ref a)
 | dT {l:List (List Key×D)} {a:Addr} {xs:List (List Key×V)} (h:Rd H a (.dT xs)) (e:xs.map (·.1)=l.map (·.1)) (r:RepL A H (l.map (·.2)) (xs.map (·.2))):RepB (.dT l) (.ref a)
inductive Own:D->Addr->Prop where
 | lst {l:List D} {a:Addr} {xs:List V} (h:H a=some (.lst xs)) (r:RepL A H l xs):Own (.lst l) a
 | dK {l:List (Key×D)} {a:Addr} {xs:List (Key×V)} (h:H a=some (.dK xs)) (e:xs.map (·.1)=l.map (·.1)) (r:RepL A H (l.map (·.2)) (xs.map (·.2))):Own (.dK l) a
 | dT {l:List (List Key×D)} {a:Addr} {xs:List (List Key×V)} (h:H a=some (.dT xs)) (e:xs.map (·.1)=l.map (·.1)) (r:RepL A H (l.map (·.2)) (xs.map (·.2))):Own (.dT l) a
end
noncomputable def Kp:HO->Prop
 | .tup _=>True | .lst _=>True|_=>False
structure Ext(A:Av)(H H':Hp):Prop where
 rd:∀b u,Rd H b u->Rd H' b u
 kp:∀b u,Kp u->H b=some u->H' b=some u
 ow:∀b u,A b->H b=some u->H' b=some u
 fz:∀b o u,H b=some (.frz o u)->H' b=some (.frz o u)
theorem Ext.refl(A:Av)(H:Hp):Ext A H H:=⟨λ_ _ h=>h,λ_ _ _ h=>h,λ_ _ _ h=>h,λ_ _ _ h=>h⟩
theorem Ext.trans{A:Av}{H H1 H2:Hp}(a:Ext A H H1)(b:Ext A H1 H2):Ext A H H2:=
 ⟨λc u h=>b.rd c u (a.rd c u h),λc u k h=>b.kp c u k (a.kp c u k h),λc u n h=>b.ow c u n (a.ow c u n h),λc o u h=>b.fz c o u (a.fz c o u h)⟩
theorem Ext.mono{A A':Av}{H H':Hp}(h:Ext A H H')(s:∀a,A' a->A a):Ext A' H H':=⟨h.rd,h.kp,λb u n e=>h.ow b u (s b n) e,h.fz⟩
theorem Ext.same{A:Av}{H H':Hp}(h:Same H H'):Ext A H H':=
 ⟨λb u r=>by rcases r with r|⟨o,r⟩;exact .inl (h _ _ r);exact .inr ⟨o,h _ _ r⟩,λb u _ r=>h _ _ r,λb u _ r=>h _ _ r,λb o u r=>h _ _ r⟩
theorem Ext.tp{A:Av}{H H':Hp}(x:Ext A H H')(b:Addr)(xs:List V)(h:H b=some (.tup xs)):H' b=some (.tup xs):=x.kp b _ trivial h
theorem Ext.new{A:Av}{H:Hp}{p:Addr}{o:HO}(h:H p=none):Ext A H (upd H p o):=Ext.same (My.qg2 h)
mutual
theorem Rep.ext{A:Av}{H H':Hp}(x:Ext A H H'){d:D}{v:V}:Rep A H d v->Rep A H' d v
 | .non=>.non
 | .bl b=>.bl b
 | .int i=>.int i
 | .str s=>.str s
 | .tup h r=>.tup (x.tp _ _ h) (RepL.ext x r)
 | .lst n h r=>.lst n (x.rd _ _ h) (RepL.ext x r)
 | .dK n h e r=>.dK n (x.rd _ _ h) e (RepL.ext x r)
 | .dT n h e r=>.dT n (x.rd _ _ h) e (RepL.ext x r)
theorem RepL.ext{A:Av}{H H':Hp}(x:Ext A H H'){ds:List D}{vs:List V}:RepL A H ds vs->RepL A H' ds vs
 | .nil=>.nil
 | .cons h t=>.cons (Rep.ext x h) (RepL.ext x t)
end
theorem RepB.ext{A:Av}{H H':Hp}(x:Ext A H H'){d:D}{v:V}:RepB A H d v->RepB A H' d v
 | .of h=>.of (h.ext x)
 | .lst h r=>.lst (x.rd _ _ h) (r.ext x)
 | .dK h e r=>.dK (x.rd _ _ h) e (r.ext x)
 | .dT h e r=>.dT (x.rd _ _ h) e (r.ext x)
theorem Own.ext{A:Av}{H H':Hp}(x:Ext A H H'){d:D}{a:Addr}(ha:A a):Own A H d a->Own A H' d a
 | .lst h r=>.lst (x.ow _ _ ha h) (r.ext x)
 | .dK h e r=>.dK (x.ow _ _ ha h) e (r.ext x)
 | .dT h e r=>.dT (x.ow _ _ ha h) e (r.ext x)
theorem Own.b{A:Av}{H:Hp}{d:D}{a:Addr}:Own A H d a->RepB A H d (.ref a)
 | .lst h r=>.lst (.inl h) r
 | .dK h e r=>.dK (.inl h) e r
 | .dT h e r=>.dT (.inl h) e r
mutual
/-- avoid other things: those that were not there, or fewer -/
theorem Rep.av{A A':Av}{H:Hp}(x:∀a,A' a->A a\/H a=none){d:D}{v:V}:Rep A H d v->Rep A' H d v
 | .non=>.non
 | .bl b=>.bl b
 | .int i=>.int i
 | .str s=>.str s
 | .tup h r=>.tup h (RepL.av x r)
 | .lst n h r=>.lst (λz=>(x _ z).elim n λz=>by rcases h with h|⟨o,h⟩ <;> (rw[z]at h;cases h)) h (RepL.av x r)
 | .dK n h e r=>.dK (λz=>(x _ z).elim n λz=>by rcases h with h|⟨o,h⟩ <;> (rw[z]at h;cases h)) h e (RepL.av x r)
 | .dT n h e r=>.dT (λz=>(x _ z).elim n λz=>by rcases h with h|⟨o,h⟩ <;> (rw[z]at h;cases h)) h e (RepL.av x r)
theorem RepL.av{A A':Av}{H:Hp}(x:∀a,A' a->A a\/H a=none){ds:List D}{vs:List V}:RepL A H ds vs->RepL A' H ds vs
 | .nil=>.nil
 | .cons h t=>.cons (Rep.av x h) (RepL.av x t)
end
noncomputable def Obs:HO->Prop
 | .lst _=>True | .dK _=>True | .dT _=>True|_=>False
theorem qba{H:Hp}{a b:Addr}{o u:HO}(n:b≠a)(h:Rd H b u):Rd (upd H a o) b u:=by
 rcases h with h|⟨x,h⟩
 ·exact .inl (by rw[qi n];exact h)
 ·exact .inr ⟨x,by rw[qi n];exact h⟩
mutual
theorem Rep.put{A:Av}{H:Hp}{a:Addr}{o u:HO}(ha:A a)(hu:H a=some u)(ob:Obs u){d:D}{v:V}:Rep A H d v->Rep A (upd H a o) d v
 | .non=>.non
 | .bl b=>.bl b
 | .int i=>.int i
 | .str s=>.str s
 | .tup (a:=b) h r=>.tup (by rw[qi (λz=>by subst z;rw[hu]at h;cases h;exact ob)];exact h) (RepL.put ha hu ob r)
 | .lst (a:=b) n h r=>.lst n (qba (λz=>n (by rw[z];exact ha)) h) (RepL.put ha hu ob r)
 | .dK (a:=b) n h e r=>.dK n (qba (λz=>n (by rw[z];exact ha)) h) e (RepL.put ha hu ob r)
 | .dT (a:=b) n h e r=>.dT n (qba (λz=>n (by rw[z];exact ha)) h) e (RepL.put ha hu ob r)
theorem RepL.put{A:Av}{H:Hp}{a:Addr}{o u:HO}(ha:A a)(hu:H a=some u)(ob:Obs u){ds:List D}{vs:List V}:RepL A H ds vs->RepL A (upd H a o) ds vs
 | .nil=>.nil
 | .cons h t=>.cons (Rep.put ha hu ob h) (RepL.put ha hu ob t)
end
theorem Own.put{A:Av}{H:Hp}{a b:Addr}{o u:HO}(ha:A a)(hu:H a=some u)(ob:Obs u)(hb:b≠a){d:D}:Own A H d b->Own A (upd H a o) d b
 | .lst h r=>.lst (by rw[qi hb];exact h) (r.put ha hu ob)
 | .dK h e r=>.dK (by rw[qi hb];exact h) e (r.put ha hu ob)
 | .dT h e r=>.dT (by rw[qi hb];exact h) e (r.put ha hu ob)
theorem Own.av{A A':Av}{H:Hp}(x:∀a,A' a->A a\/H a=none){d:D}{a:Addr}:Own A H d a->Own A' H d a
 | .lst h r=>.lst h (r.av x)
 | .dK h e r=>.dK h e (r.av x)
 | .dT h e r=>.dT h e (r.av x)
theorem Own.rep{A:Av}{H:Hp}{d:D}{a:Addr}(n:¬ A a):Own A H d a->Rep A H d (.ref a)
 | .lst h r=>.lst n (.inl h) r
 | .dK h e r=>.dK n (.inl h) e r
 | .dT h e r=>.dT n (.inl h) e r
section
variable {A:Av}{H:Hp}
theorem RepL.length:∀ {ds:List D} {vs:List V},RepL A H ds vs->vs.length=ds.length
 | _,_,.nil=>rfl
 | _,_,.cons _ t=>by rw[zaT,zaT,RepL.length t]
theorem RepL.get:∀ {ds:List D} {vs:List V} {i:Nat} {v:V},RepL A H ds vs->vs[i]?=some v->∃d,ds[i]?=some d/\Rep A H d v
 | _,_,i,v,.nil,e=>by simp at e
 | _,_,0,v,.cons h t,e=>by simp at e;subst e;exact⟨_,rfl,h⟩
 | _,_,i+1,v,.cons h t,e=>RepL.get (i:=i) t (by simpa using e)
theorem RepL.get':∀ {ds:List D} {vs:List V} {i:Nat} {d:D},RepL A H ds vs->ds[i]?=some d->∃v,vs[i]?=some v/\Rep A H d v
 | _,_,i,v,.nil,e=>by simp at e
 | _,_,0,v,.cons h t,e=>by simp at e;subst e;exact⟨_,rfl,h⟩
 | _,_,i+1,v,.cons h t,e=>RepL.get' (i:=i) t (by simpa using e)
theorem RepL.append:∀ {ds es:List D} {vs us:List V},RepL A H ds vs->RepL A H es us->RepL A H (ds++es) (vs++us)
 | _,_,_,_,.nil,s=>s
 | _,_,_,_,.cons h t,s=>.cons h (RepL.append t s)
theorem RepL.take:∀ {ds:List D} {vs:List V} (n:Nat),RepL A H ds vs->RepL A H (ds.take n) (vs.take n)
 | _,_,0,_=>by simp;exact .nil
 | _,_,n+1,.nil=>.nil
 | _,_,n+1,.cons h t=>.cons h (RepL.take n t)
theorem RepL.drop:∀ {ds:List D} {vs:List V} (n:Nat),RepL A H ds vs->RepL A H (ds.drop n) (vs.drop n)
 | _,_,0,r=>r
 | _,_,n+1,.nil=>.nil
 | _,_,n+1,.cons h t=>RepL.drop n t
theorem RepL.set:∀ {ds:List D} {vs:List V} {d:D} {v:V} (n:Nat),Rep A H d v->RepL A H ds vs->RepL A H (ds.set n d) (vs.set n v)
 | _,_,_,_,_,_,.nil=>.nil
 | _,_,_,_,0,r,.cons h t=>.cons r t
 | _,_,_,_,n+1,r,.cons h t=>.cons h (RepL.set n r t)
theorem Rep.b{d:D}{v:V}(h:Rep A H d v):RepB A H d v:=.of h
theorem RepB.int_inv{i:Int}{v:V}(h:RepB A H (.int i) v):v=.int i:=by cases h with|of h=>cases h;rfl
theorem RepB.bl_inv{i:Bool}{v:V}(h:RepB A H (.bl i) v):v=.bl i:=by cases h with|of h=>cases h;rfl
theorem RepB.str_inv{i:Str}{v:V}(h:RepB A H (.str i) v):v=.str i:=by cases h with|of h=>cases h;rfl
theorem RepB.non_inv{v:V}(h:RepB A H .non v):v=.non:=by cases h with|of h=>cases h;rfl
theorem RepB.tup_inv{l:List D}{v:V}(h:RepB A H (.tup l) v):∃a xs,v=.ref a/\H a=some (.tup xs)/\RepL A H l xs:=by
 cases h with|of h=>cases h with|tup h r=>exact⟨_,_,rfl,h,r⟩
theorem RepB.lst_inv{l:List D}{v:V}(h:RepB A H (.lst l) v):∃a xs,v=.ref a/\Rd H a (.lst xs)/\RepL A H l xs:=by
 cases h with
 | of h=>cases h with|lst n h r=>exact⟨_,_,rfl,h,r⟩
 | lst h r=>exact⟨_,_,rfl,h,r⟩
theorem RepB.dK_inv{l:List (Key×D)}{v:V}(h:RepB A H (.dK l) v):∃a xs,v=.ref a/\Rd H a (.dK xs)/\xs.map (·.1)=l.map (·.1)/\RepL A H (l.map (·.2)) (xs.map (·.2)):=by
 cases h with
 | of h=>cases h with|dK n h e r=>exact⟨_,_,rfl,h,e,r⟩
 | dK h e r=>exact⟨_,_,rfl,h,e,r⟩
theorem RepB.dT_inv{l:List (List Key×D)}{v:V}(h:RepB A H (.dT l) v):∃a xs,v=.ref a/\Rd H a (.dT xs)/\xs.map (·.1)=l.map (·.1)/\RepL A H (l.map (·.2)) (xs.map (·.2)):=by
 cases h with
 | of h=>cases h with|dT n h e r=>exact⟨_,_,rfl,h,e,r⟩
 | dT h e r=>exact⟨_,_,rfl,h,e,r⟩
end
noncomputable abbrev Rho:=List (Option D)
inductive Fact where
 | rep (d:D) (v:V)|fz (a:Addr) (o:Obj) (u:HO)
noncomputable def Fact.Holds(A:Av)(H:Hp):Fact->Prop
 | .rep d v=>Rep A H d v
 | .fz a o u=>H a=some (.frz o u)
theorem Fact.ext{A:Av}{H H':Hp}(x:Ext A H H'):∀ {p:Fact},p.Holds A H->p.Holds A H'
 | .rep _ _,h=>Rep.ext x h
 | .fz _ _ _,h=>x.fz _ _ _ h
theorem Fact.av{A A':Av}{H:Hp}(x:∀a,A' a->A a\/H a=none):∀ {p:Fact},p.Holds A H->p.Holds A' H
 | .rep _ _,h=>Rep.av x h
 | .fz _ _ _,h=>h
theorem Fact.put{A:Av}{H:Hp}{a:Addr}{o u:HO}(ha:A a)(hu:H a=some u)(ob:Obs u):∀ {p:Fact},p.Holds A H->p.Holds A (upd H a o)
 | .rep _ _,h=>Rep.put ha hu ob h
 | .fz b q w,h=>by
  have h:H b=some (.frz q w):=h
  show upd H a o b=some (.frz q w)
  rw[qi (λz=>by subst z;rw[hu]at h;cases h;exact ob)]
  exact h
structure ST(H0:Hp)(A0 A:Av)(E:List Fact)(O:List Nat)(σ:L2.St)(H:Hp)(ρ:Rho):Prop where
 ex:Ext A0 H0 H
 sub:∀a,A0 a->A a
 l0:∀a,A0 a->H0 a≠none
 live:∀a,A a->H a≠none
 len:σ.length=ρ.length
 val:∀i d,ρ[i]?=some (some d)->i∉O->∃v,σ[i]?=some (some v)/\Rep A H d v
 own:∀i d,ρ[i]?=some (some d)->i∈O->∃a,σ[i]?=some (some (.ref a))/\A a/\H0 a=none/\Own A H d a
 inj:∀i j d d' a,i∈O->j∈O->ρ[i]?=some (some d)->ρ[j]?=some (some d')->σ[i]?=some (some (.ref a))->σ[j]?=some (some (.ref a))->i=j
 ext:∀p∈E,p.Holds A H
section
variable {H0:Hp}{A0 A:Av}{E:List Fact}{O:List Nat}{σ:L2.St}{H H':Hp}{ρ:Rho}
theorem ST.mono(s:ST H0 A0 A E O σ H ρ)(x:Ext A H H'):ST H0 A0 A E O σ H' ρ where
 ex:=s.ex.trans (x.mono s.sub)
 sub:=s.sub
 l0:=s.l0
 live:=λa ha=>by
  have:=s.live a ha
  cases e:H a with
  | none=>exact absurd e this
  | some u=>rw[x.ow a u ha e];exact λz=>nomatch z
 len:=s.len
 val:=λi d h n=>by obtain⟨v,h1,h2⟩:=s.val i d h n;exact⟨v,h1,h2.ext x⟩
 own:=λi d h n=>by obtain⟨a,h1,h2,h3,h4⟩:=s.own i d h n;exact⟨a,h1,h2,h3,h4.ext x h2⟩
 inj:=s.inj
 ext:=λp hp=>Fact.ext x (s.ext p hp)
theorem ST.more(s:ST H0 A0 A E O σ H ρ){d:D}{v:V}(h:Rep A H d v):ST H0 A0 A (.rep d v::E) O σ H ρ:=
 {s with ext:=λp hp=>by rcases List.mem_cons.mp hp with e|e;rw[e];exact h;exact s.ext p e}
theorem ST.less{E':List Fact}(s:ST H0 A0 A E O σ H ρ)(h:∀p∈E',p∈E):ST H0 A0 A E' O σ H ρ:=
 {s with ext:=λp hp=>s.ext p (h p hp)}
theorem qaA{ρ:Rho}{i j:Nat}{o:Option D}{d:D}(h:(ρ.set i o)[j]?=some (some d)):(j=i/\o=some d/\i<ρ.length)\/(j≠i/\ρ[j]?=some (some d)):=by
 rw[List.getElem?_set]at h
 by_cases e:i=j
 ·rw[if_pos e]at h
  by_cases l:i<ρ.length
  ·rw[if_pos l]at h
   exact .inl ⟨e.symm,zaA h,l⟩
  ·rw[if_neg l]at h;cases h
 ·rw[if_neg e]at h
  exact .inr ⟨λz=>e z.symm,h⟩
theorem sig_set{σ:L2.St}{i:Nat}{v:V}(h:i<σ.length):(σ.set i (some v))[i]?=some (some v):=by simp[h]
theorem qcR{σ:L2.St}{i j:Nat}{v:V}(h:j≠i):(σ.set i (some v))[j]?=σ[j]?:=by rw[List.getElem?_set_ne (zaJ h)]
theorem ST.put(s:ST H0 A0 A E O σ H ρ){i:Nat}{d:D}{v:V}(h:Rep A H d v)(n:i∉O):ST H0 A0 A E O (σ.set i (some v)) H (ρ.set i (some d)) where
 ex:=s.ex
 sub:=s.sub
 l0:=s.l0
 live:=s.live
 len:=by simp[s.len]
 val:=λj d' h' n'=>by
  rcases qaA h' with⟨e,e2,l⟩|⟨e,e2⟩
  ·subst e;cases e2;exact⟨v,sig_set (by rw[s.len];exact l),h⟩
  ·obtain⟨w,h1,h2⟩:=s.val j d' e2 n';exact⟨w,by rw[qcR e];exact h1,h2⟩
 own:=λj d' h' n'=>by
  rcases qaA h' with⟨e,e2,l⟩|⟨e,e2⟩
  ·subst e;exact absurd n' n
  ·obtain⟨w,h1,h2⟩:=s.own j d' e2 n';exact⟨w,by rw[qcR e];exact h1,h2⟩
 inj:=λj k d1 d2 a hj hk h1 h2 h3 h4=>by
  have nj:j≠i:=λz=>n (z ▸ hj)
  have nk:k≠i:=λz=>n (z ▸ hk)
  rcases qaA h1 with⟨e,_⟩|⟨_,h1⟩
  ·exact absurd e nj
  rcases qaA h2 with⟨e,_⟩|⟨_,h2⟩
  ·exact absurd e nk
  exact s.inj j k d1 d2 a hj hk h1 h2 (by rw[qcR nj]at h3;exact h3) (by rw[qcR nk]at h4;exact h4)
 ext:=s.ext
theorem ST.shut(s:ST H0 A0 A E O σ H ρ){O':List Nat}(h:∀i,i∈O'->i∈O):∃A',ST H0 A0 A' E O' σ H ρ:=by
 let F:Av:=λa=>∃i d,i∈O/\i∉O'/\ρ[i]?=some (some d)/\σ[i]?=some (some (.ref a))
 have cut:∀a,(A a/\¬ F a)->A a\/H a=none:=λa z=>.inl z.1
 refine⟨λa=>A a/\¬ F a,s.ex,λa ha=>⟨s.sub a ha,?_⟩,s.l0,λa ha=>s.live a ha.1,s.len,λi d hi n=>?_,λi d hi n=>?_,λi j d d' a hi hj=>s.inj i j d d' a (h i hi) (h j hj),λp hp=>Fact.av cut (s.ext p hp)⟩
 ·rintro⟨i,d,h1,h2,h3,h4⟩
  obtain⟨b,e1,e2,e3,e4⟩:=s.own i d h3 h1
  rw[h4]at e1
  cases e1
  exact s.l0 a ha e3
 ·by_cases hO:i∈O
  ·obtain⟨a,e1,e2,e3,e4⟩:=s.own i d hi hO
   exact⟨.ref a,e1,(e4.av cut).rep λz=>z.2 ⟨i,d,hO,n,hi,e1⟩⟩
  ·obtain⟨v,e1,e2⟩:=s.val i d hi hO
   exact⟨v,e1,e2.av cut⟩
 ·obtain⟨a,e1,e2,e3,e4⟩:=s.own i d hi (h i n)
  refine⟨a,e1,⟨e2,?_⟩,e3,e4.av cut⟩
  rintro⟨j,d',h1,h2,h3,h4⟩
  have:=s.inj i j d d' a (h i n) h1 hi h3 e1 h4
  subst this
  exact h2 n
end
noncomputable abbrev Ev:=Rho->Option D
noncomputable abbrev Bv:=Rho->Option Bool
noncomputable abbrev Lv:=Rho->Option (List D)
noncomputable abbrev RR:=Av->Hp->D->V->Prop
inductive tD(R:RR)(O:List Nat)(f:Ev)(σ:L2.St)(H:Hp)(Q:VK):Prop
 | mk (H0:Hp) (A0 A:Av) (E:List Fact) (ρ:Rho) (d:D) (st:ST H0 A0 A E O σ H ρ) (e:f ρ=some d) (q:∀v H',Ext A H H'->R A H' d v->Q v H'):tD R O f σ H Q
inductive tDT(O:List Nat)(g:Bv)(σ:L2.St)(H:Hp)(Q:Bool->Hp->Prop):Prop
 | mk (H0:Hp) (A0 A:Av) (E:List Fact) (ρ:Rho) (b:Bool) (st:ST H0 A0 A E O σ H ρ) (e:g ρ=some b) (q:∀H',Ext A H H'->Q b H'):tDT O g σ H Q
noncomputable def PD(X:Cx)(O:List Nat)(e:Expr)(f:Ev):Prop:=PE X e (tD Rep O f)
noncomputable def PB(X:Cx)(O:List Nat)(e:Expr)(f:Ev):Prop:=PE X e (tD RepB O f)
noncomputable def PDT(X:Cx)(O:List Nat)(e:Expr)(g:Bv):Prop:=PT X e (tDT O g)
noncomputable def PDW(X:Cx)(O:List Nat)(e:Expr)(g:Bv):Prop:=PW X e (tDT O g)
theorem PDW.pt{X:Cx}{O:List Nat}{e:Expr}{g:Bv}(h:PDW X O e g):PDT X O e g:=PW.pt h
inductive RL(R:RR)(A:Av)(H:Hp):List D->List V->Prop where
 | nil:RL R A H [] []
 | cons {d v ds vs} (h:R A H d v) (t:RL R A H ds vs):RL R A H (d::ds) (v::vs)
inductive tDA(R:RR)(O:List Nat)(f:Lv)(σ:L2.St)(H:Hp)(Q:List V->Hp->Prop):Prop
 | mk (H0:Hp) (A0 A:Av) (E:List Fact) (ρ:Rho) (ds:List D) (st:ST H0 A0 A E O σ H ρ) (e:f ρ=some ds) (q:∀vs H',Ext A H H'->RL R A H' ds vs->Q vs H'):tDA R O f σ H Q
noncomputable def PDA(X:Cx)(O:List Nat)(es:List Expr)(f:Lv):Prop:=PA X es (tDA Rep O f)
noncomputable def PBA(X:Cx)(O:List Nat)(es:List Expr)(f:Lv):Prop:=PA X es (tDA RepB O f)
section
variable {X:Cx}{O:List Nat}
theorem PE.mono{e:Expr}{t t':TE}(h:PE X e t)(x:∀σ H Q,t' σ H Q->t σ H Q):PE X e t':=λpins s σ H Q I w=>h pins s σ H Q I (x σ H Q w)
theorem PT.mono{e:Expr}{t t':TT}(h:PT X e t)(x:∀σ H Q,t' σ H Q->t σ H Q):PT X e t':=λpins s σ H Q I w=>h pins s σ H Q I (x σ H Q w)
theorem PW.mono{e:Expr}{t t':TT}(h:PW X e t)(x:∀σ H Q,t' σ H Q->t σ H Q):PW X e t':=λwh pins s σ H Q I w=>h wh pins s σ H Q I (x σ H Q w)
theorem PA.mono{es:List Expr}{t t':TA}(h:PA X es t)(x:∀σ H Q,t' σ H Q->t σ H Q):PA X es t':=λpos pins s σ H Q I w=>h pos pins s σ H Q I (x σ H Q w)
theorem PD.b{e:Expr}{f:Ev}(h:PD X O e f):PB X O e f:=PE.mono h λσ H Q ⟨H0,A0,A,E,ρ,d,st,e,q⟩=>⟨H0,A0,A,E,ρ,d,st,e,λv H' x r=>q v H' x (.of r)⟩
theorem RL.toL{A:Av}{H:Hp}:∀ {ds:List D} {vs:List V},RL Rep A H ds vs->RepL A H ds vs
 | _,_,.nil=>.nil
 | _,_,.cons h t=>.cons h (RL.toL t)
noncomputable def eVar(i:Nat):Ev:=λρ=>(ρ[i]?).join
noncomputable def eC(d:D):Ev:=λ_=>some d
theorem qah{ρ:Rho}{i:Nat}{d:D}(h:(ρ[i]?).join=some d):ρ[i]?=some (some d):=by
 cases e:ρ[i]? with
 | none=>rw[e]at h;cases h
 | some o=>rw[e]at h;cases o with
  | none=>cases h
  | some x=>cases h;rfl
theorem qoA{e:Expr}(i:Nat)(h:PE X e (tVar i))(n:i∉O):PD X O e (eVar i):=PE.mono h <| by
 rintro σ H Q ⟨H0,A0,A,E,ρ,d,st,e,q⟩
 obtain⟨v,e1,r⟩:=st.val i d (qah e) n
 exact⟨v,e1,q v H (Ext.refl _ _) r⟩
theorem qlF{e:Expr}(i:Nat)(h:PE X e (tVar i)):PB X O e (eVar i):=PE.mono h <| by
 rintro σ H Q ⟨H0,A0,A,E,ρ,d,st,e,q⟩
 by_cases n:i∈O
 ·obtain⟨a,e1,_,_,r⟩:=st.own i d (qah e) n
  exact⟨_,e1,q _ H (Ext.refl _ _) r.b⟩
 ·obtain⟨v,e1,r⟩:=st.val i d (qah e) n
  exact⟨v,e1,q v H (Ext.refl _ _) (.of r)⟩
theorem qpY{i j pos}:PD X O (.Constant (.int i) j pos) (eC (.int i)):=PE.mono qpZ λσ H Q ⟨H0,A0,A,E,ρ,d,st,e,q⟩=>by cases e;exact q _ H (Ext.refl _ _) (.int _)
theorem qqy{i j pos}:PD X O (.Constant (.bool i) j pos) (eC (.bl i)):=PE.mono qqP λσ H Q ⟨H0,A0,A,E,ρ,d,st,e,q⟩=>by cases e;exact q _ H (Ext.refl _ _) (.bl _)
theorem qpE{i j pos}:PD X O (.Constant (.str i) j pos) (eC (.str i)):=PE.mono qpk λσ H Q ⟨H0,A0,A,E,ρ,d,st,e,q⟩=>by cases e;exact q _ H (Ext.refl _ _) (.str _)
noncomputable def Live(A:Av)(H:Hp):Prop:=∀a,A a->H a≠none
theorem Live.ext{A:Av}{H H':Hp}(l:Live A H)(x:Ext A H H'):Live A H':=λa ha=>by
 cases e:H a with
 | none=>exact absurd e (l a ha)
 | some u=>rw[x.ow a u ha e];exact λz=>nomatch z
inductive rD(g:D->D->Option D)(x y:V)(H:Hp)(Q:VK):Prop
 | mk (A:Av) (dx dy d:D) (lv:Live A H) (rx:RepB A H dx x) (ry:RepB A H dy y) (e:g dx dy=some d) (q:∀v H',Ext A H H'->Rep A H' d v->Q v H'):rD g x y H Q
noncomputable def OpX(X:Cx)(f:Value->Value->Sem Value)(g:D->D->Option D):Prop:=OpR X f (rD g)
theorem OpR.mono{f:Value->Value->Sem Value}{r r':R2}(h:OpR X f r)(x:∀a b H Q,r' a b H Q->r a b H Q):OpR X f r':=λpins s σ H a b v u Q I rv ru w=>h pins s σ H a b v u Q I rv ru (x a b H Q w)
noncomputable def eOp(g:D->D->Option D)(fa fb:Ev):Ev:=λρ=>(fa ρ).bind λx=>(fb ρ).bind λy=>g x y
theorem bind_some{α β:Type}{o:Option α}{f:α->Option β}{b:β}(h:o.bind f=some b):∃a,o=some a/\f a=some b:=by
 cases o with
 | none=>cases h
 | some a=>exact⟨a,rfl,h⟩
theorem qgL{g:D->D->Option D}{fa fb:Ev}{σ:L2.St}{H:Hp}{Q:VK}(h:tD Rep O (eOp g fa fb) σ H Q):tOp (rD g) (tD RepB O fa) (tD RepB O fb) σ H Q:=by
 obtain⟨H0,A0,A,E,ρ,d,st,e,q⟩:=h
 obtain⟨x,ex,e⟩:=bind_some e
 obtain⟨y,ey,e⟩:=bind_some e
 exact⟨H0,A0,A,E,ρ,x,st,ex,λv H1 x1 r1=>⟨H0,A0,A,E,ρ,y,st.mono x1,ey,λw H2 x2 r2=>⟨A,x,y,d,(st.mono (x1.trans x2)).live,r1.ext x2,r2,e,λz H3 x3 r3=>q z H3 ((x1.trans x2).trans x3) r3⟩⟩⟩
theorem qo8{a b:Expr}{op:Operator}{pos:Pos}{g:D->D->Option D}{fa fb:Ev}(ho:OpX X (zaN op) g)(ha:PB X O a fa)(hb:PB X O b fb):PD X O (.BinOp a op b pos) (eOp g fa fb):=
 PE.mono (qpX ho ha hb) λσ H Q h=>qgL h
theorem qo9{a b:Expr}{op:CmpOp}{pos:Pos}{g:D->D->Option D}{fa fb:Ev}(ho:OpX X (zap op) g)(ha:PB X O a fa)(hb:PB X O b fb)(hm:zbC op b=false):PD X O (.Compare a [op] [b] pos) (eOp g fa fb):=
 PE.mono (qmL ho ha hb hm) λσ H Q h=>qgL h
noncomputable def asB:D->Option Bool
 | .bl b=>some b
 | _=>none
theorem qa4{d:D}{b:Bool}(h:asB d=some b):d=.bl b:=by
 cases d <;> cases h;rfl
noncomputable def bOf(f:Ev):Bv:=λρ=>(f ρ).bind asB
theorem qbJ{f:Ev}{σ:L2.St}{H:Hp}{Q:Bool->Hp->Prop}(h:tDT O (bOf f) σ H Q):tD Rep O f σ H λx H'=>∃k,x=.bl k/\Q k H':=by
 obtain⟨H0,A0,A,E,ρ,b,st,e,q⟩:=h
 obtain⟨x,ex,e⟩:=bind_some e
 rw[qa4 e]at ex
 exact⟨H0,A0,A,E,ρ,_,st,ex,λv H1 x1 r1=>⟨b,RepB.bl_inv (.of r1),q H1 x1⟩⟩
theorem qf4{a b:Expr}{op:CmpOp}{pos:Pos}{g:D->D->Option D}{fa fb:Ev}(ho:OpX X (zap op) g)(ha:PB X O a fa)(hb:PB X O b fb)(hm:zbC op b=false):PDT X O (.Compare a [op] [b] pos) (bOf (eOp g fa fb)):=
 PT.mono (qjx ho ha hb hm) λσ H Q h=>qgL (qbJ h)
theorem qnl{e:Expr}{f:Ev}(h:PD X O e f)(he:∀whole,isTrue e X.env whole=(do let v <- whole;standAt e.pos;holding [v] (truthy v)):=by intro _;rfl):PDT X O e (bOf f):=
 PT.mono (qpj h he) λσ H Q h=>qbJ h
noncomputable def bNot(g:Bv):Bv:=λρ=>(g ρ).map (!·)
noncomputable def bAnd(g h:Bv):Bv:=λρ=>(g ρ).bind λb=>if b=true then h ρ else some false
noncomputable def bOr(g h:Bv):Bv:=λρ=>(g ρ).bind λb=>if b=true then some true else h ρ
theorem qm1{a:Expr}{pos:Pos}{g:Bv}(h:PDT X O a g):PDT X O (.UnaryOp .Not a pos) (bNot g):=PT.mono (qog h) <| by
 rintro σ H Q ⟨H0,A0,A,E,ρ,b,st,e,q⟩
 unfold bNot at e
 cases z:g ρ with
 | none=>rw[z]at e;cases e
 | some c=>rw[z]at e;cases e;exact⟨H0,A0,A,E,ρ,c,st,z,q⟩
theorem qk4{a:Expr}{pos:Pos}{g:Bv}(h:PDT X O a g):PDW X O (.BoolOp .And [a] pos) g:=qmX h
theorem qn6{a:Expr}{pos:Pos}{g:Bv}(h:PDT X O a g):PDW X O (.BoolOp .Or [a] pos) g:=qpL h
theorem qn3{a b:Expr}{rest:List Expr}{pos:Pos}{g k:Bv}(ha:PDT X O a g)(hb:PDW X O (.BoolOp .And (b::rest) pos) k):PDW X O (.BoolOp .And (a::b::rest) pos) (bAnd g k):=
 PW.mono (qoe ha hb) <| by
  rintro σ H Q ⟨H0,A0,A,E,ρ,b,st,e,q⟩
  obtain⟨x,ex,e⟩:=bind_some e
  refine⟨H0,A0,A,E,ρ,x,st,ex,λH1 x1=>?_⟩
  cases x with
  | false=>rw[if_neg zaq]at e ⊢;cases e;exact q H1 x1
  | true=>rw[if_pos rfl]at e ⊢;exact⟨H0,A0,A,E,ρ,b,st.mono x1,e,λH2 x2=>q H2 (x1.trans x2)⟩
theorem qoh{a b:Expr}{rest:List Expr}{pos:Pos}{g k:Bv}(ha:PDT X O a g)(hb:PDW X O (.BoolOp .Or (b::rest) pos) k):PDW X O (.BoolOp .Or (a::b::rest) pos) (bOr g k):=
 PW.mono (qqs ha hb) <| by
  rintro σ H Q ⟨H0,A0,A,E,ρ,b,st,e,q⟩
  obtain⟨x,ex,e⟩:=bind_some e
  refine⟨H0,A0,A,E,ρ,x,st,ex,λH1 x1=>?_⟩
  cases x with
  | true=>rw[if_pos rfl]at e ⊢;cases e;exact q H1 x1
  | false=>rw[if_neg zaq]at e ⊢;exact⟨H0,A0,A,E,ρ,b,st.mono x1,e,λH2 x2=>q H2 (x1.trans x2)⟩
noncomputable def eAnd(f g:Ev):Ev:=λρ=>(f ρ).bind λx=>(asB x).bind λb=>if b=true then g ρ else some (.bl false)
noncomputable def eNot(f:Ev):Ev:=λρ=>(f ρ).bind λx=>(asB x).map λb=>.bl (!b)
noncomputable def eIf(c:Bv)(f g:Ev):Ev:=λρ=>(c ρ).bind λb=>if b=true then f ρ else g ρ
theorem qp0{op}{a:Expr}{pos:Pos}{f:Ev}(h:PD X O a f):PD X O (.BoolOp op [a] pos) f:=qqf h
theorem qox{a b:Expr}{rest:List Expr}{pos:Pos}{f g:Ev}(ha:PD X O a f)(hb:PD X O (.BoolOp .And (b::rest) pos) g):PD X O (.BoolOp .And (a::b::rest) pos) (eAnd f g):=
 PE.mono (qoS ha hb) <| by
  rintro σ H Q ⟨H0,A0,A,E,ρ,d,st,e,q⟩
  obtain⟨x,ex,e⟩:=bind_some e
  obtain⟨b,eb,e⟩:=bind_some e
  rw[qa4 eb]at ex
  refine⟨H0,A0,A,E,ρ,_,st,ex,λv H1 x1 r1=>⟨b,RepB.bl_inv (.of r1),?_⟩⟩
  cases b with
  | false=>rw[if_neg zaq]at e ⊢;cases e;exact q _ H1 x1 (.bl _)
  | true=>rw[if_pos rfl]at e ⊢;exact⟨H0,A0,A,E,ρ,d,st.mono x1,e,λw H2 x2=>q w H2 (x1.trans x2)⟩
theorem qpa{a:Expr}{pos:Pos}{f:Ev}(ha:PD X O a f):PD X O (.UnaryOp .Not a pos) (eNot f):=
 PE.mono (qoq ha) <| by
  rintro σ H Q ⟨H0,A0,A,E,ρ,d,st,e,q⟩
  obtain⟨x,ex,e⟩:=bind_some e
  cases z:asB x with
  | none=>rw[z]at e;cases e
  | some b=>
   rw[z]at e;cases e
   rw[qa4 z]at ex
   exact⟨H0,A0,A,E,ρ,_,st,ex,λv H1 x1 r1=>⟨b,RepB.bl_inv (.of r1),q _ H1 x1 (.bl _)⟩⟩
theorem qqh{c a b:Expr}{pos:Pos}{g:Bv}{f k:Ev}(hc:PDT X O c g)(ha:PD X O a f)(hb:PD X O b k):PD X O (.IfExp c a b pos) (eIf g f k):=
 PE.mono (qlv hc ha hb) <| by
  rintro σ H Q ⟨H0,A0,A,E,ρ,d,st,e,q⟩
  obtain⟨b,eb,e⟩:=bind_some e
  refine⟨H0,A0,A,E,ρ,b,st,eb,λH1 x1=>?_⟩
  cases b with
  | true=>rw[if_pos rfl]at e ⊢;exact⟨H0,A0,A,E,ρ,d,st.mono x1,e,λw H2 x2=>q w H2 (x1.trans x2)⟩
  | false=>rw[if_neg zaq]at e ⊢;exact⟨H0,A0,A,E,ρ,d,st.mono x1,e,λw H2 x2=>q w H2 (x1.trans x2)⟩
noncomputable def qbB(g g':D->D->Option D)(fa fb fc:Ev):Ev:=λρ=>(fa ρ).bind λx=>(fb ρ).bind λy=>(g x y).bind λz=>(asB z).bind λb=>if b=true then(fc ρ).bind λw=>g' y w else some (.bl false)
end
section
variable {X:Cx}{O:List Nat}
theorem qfy{g g':D->D->Option D}{fa fb fc:Ev}{σ:L2.St}{H:Hp}{Q:VK}(h:tD Rep O (qbB g g' fa fb fc) σ H Q):qjX (rD g) (rD g') (tD RepB O fa) (tD RepB O fb) (tD RepB O fc) σ H Q:=by
 obtain⟨H0,A0,A,E,ρ,d,st,e,q⟩:=h
 obtain⟨x,ex,e⟩:=bind_some e
 obtain⟨y,ey,e⟩:=bind_some e
 obtain⟨z,ez,e⟩:=bind_some e
 obtain⟨b,eb,e⟩:=bind_some e
 rw[qa4 eb]at ez
 refine⟨H0,A0,A,E,ρ,x,st,ex,λv H1 x1 r1=>⟨H0,A0,A,E,ρ,y,st.mono x1,ey,λw H2 x2 r2=>⟨A,x,y,_,(st.mono (x1.trans x2)).live,r1.ext x2,r2,ez,λz H3 x3 r3=>⟨b,RepB.bl_inv (.of r3),?_⟩⟩⟩⟩
 have x13:=(x1.trans x2).trans x3
 cases b with
 | false=>rw[if_neg zaq]at e ⊢;cases e;exact q _ H3 x13 (.bl _)
 | true=>
  rw[if_pos rfl]at e ⊢
  obtain⟨u,eu,e⟩:=bind_some e
  exact⟨H0,A0,A,E,ρ,u,st.mono x13,eu,λz' H4 x4 r4=>⟨A,y,u,d,(st.mono (x13.trans x4)).live,r2.ext (x3.trans x4),r4,e,λz2 H5 x5 r5=>q z2 H5 ((x13.trans x4).trans x5) r5⟩⟩
theorem qlb{a b c:Expr}{op op':CmpOp}{pos:Pos}{g g':D->D->Option D}{fa fb fc:Ev}(ho:OpX X (zap op) g)(ho':OpX X (zap op') g')(ha:PB X O a fa)(hb:PB X O b fb)(hc:PB X O c fc)
  (hm:lastMarks [op,op'] [b,c]=false:=by with_unfolding_all rfl):PD X O (.Compare a [op,op'] [b,c] pos) (qbB g g' fa fb fc):=PE.mono (qkK ho ho' ha hb hc hm) λσ H Q h=>qfy h
theorem qih{a b c:Expr}{op op':CmpOp}{pos:Pos}{g g':D->D->Option D}{fa fb fc:Ev}(ho:OpX X (zap op) g)(ho':OpX X (zap op') g')(ha:PB X O a fa)(hb:PB X O b fb)(hc:PB X O c fc)
  (hm:lastMarks [op,op'] [b,c]=false:=by with_unfolding_all rfl):PDT X O (.Compare a [op,op'] [b,c] pos) (bOf (qbB g g' fa fb fc)):=PT.mono (qk6 ho ho' ha hb hc hm) λσ H Q h=>qfy (qbJ h)
noncomputable def lNil:Lv:=λ_=>some []
noncomputable def qz(f:Ev)(g:Lv):Lv:=λρ=>(f ρ).bind λx=>(g ρ).bind λxs=>some (x::xs)
theorem qna:PDA X O [] lNil:=PA.mono qdy λσ H Q ⟨H0,A0,A,E,ρ,d,st,e,q⟩=>by cases e;exact q [] H (Ext.refl _ _) .nil
theorem qim:PBA X O [] lNil:=PA.mono qdy λσ H Q ⟨H0,A0,A,E,ρ,d,st,e,q⟩=>by cases e;exact q [] H (Ext.refl _ _) .nil
theorem qgB{R:RR}(hR:∀A H H' d v,Ext A H H'->R A H d v->R A H' d v){f:Ev}{g:Lv}{σ:L2.St}{H:Hp}{Q:List V->Hp->Prop}(h:tDA R O (qz f g) σ H Q):qkV (tD R O f) (tDA R O g) σ H Q:=by
 obtain⟨H0,A0,A,E,ρ,d,st,e,q⟩:=h
 obtain⟨x,ex,e⟩:=bind_some e
 obtain⟨xs,exs,e⟩:=bind_some e
 cases e
 exact⟨H0,A0,A,E,ρ,x,st,ex,λv H1 x1 r1=>⟨H0,A0,A,E,ρ,xs,st.mono x1,exs,λvs H2 x2 r2=>q (v::vs) H2 (x1.trans x2) (.cons (hR _ _ _ _ _ x2 r1) r2)⟩⟩
theorem qkC{e:Expr}{es:List Expr}{f:Ev}{g:Lv}(ha:PD X O e f)(hr:PDA X O es g)(hs:zaf (e::es) X.env=(false,eval e X.env)::zaf es X.env:=by rfl):PDA X O (e::es) (qz f g):=
 PA.mono (qbh ha hr hs) λσ H Q h=>qgB (λ_ _ _ _ _ x r=>r.ext x) h
theorem qg4{e:Expr}{es:List Expr}{f:Ev}{g:Lv}(ha:PB X O e f)(hr:PBA X O es g)(hs:zaf (e::es) X.env=(false,eval e X.env)::zaf es X.env:=by rfl):PBA X O (e::es) (qz f g):=
 PA.mono (qbh ha hr hs) λσ H Q h=>qgB (λ_ _ _ _ _ x r=>r.ext x) h
inductive tF(O:List Nat)(f:Ev)(σ:L2.St)(H:Hp)(Q:VK):Prop
 | mk (H0:Hp) (A0 A:Av) (E:List Fact) (ρ:Rho) (d:D) (st:ST H0 A0 A E O σ H ρ) (e:f ρ=some d) (q:∀a H',Ext A H H'->H a=none->¬ A a->Own (λb=>A b\/b=a) H' d a->Q (.ref a) H'):tF O f σ H Q
noncomputable def PF(X:Cx)(O:List Nat)(e:Expr)(f:Ev):Prop:=PE X e (tF O f)
theorem PF.d{e:Expr}{f:Ev}(h:PF X O e f):PD X O e f:=PE.mono h λσ H Q ⟨H0,A0,A,E,ρ,d,st,e,q⟩=>
 ⟨H0,A0,A,E,ρ,d,st,e,λa H' x n na o=>q _ H' x ((o.av (A':=A) λb hb=>.inl (.inl hb)).rep na)⟩
theorem RepL.fresh{A:Av}{H:Hp}{p:Addr}{o:HO}(n:H p=none){ds:List D}{vs:List V}(r:RepL A H ds vs):RepL (λb=>A b\/b=p) (upd H p o) ds vs:=by
 have r1:RepL (λb=>A b\/b=p) H ds vs:=r.av λb hb=>by
  rcases hb with hb|hb
  ·exact .inl hb
  ·exact .inr (hb ▸ n)
 exact r1.ext (Ext.new n)
theorem Ext.free{A:Av}{H H':Hp}(x:Ext A H H'){p:Addr}(n:H' p=none):H p=none:=by
 cases e:H p with
 | none=>rfl
 | some u=>rcases x.rd p u (.inl e)with h|⟨o,h⟩ <;> (rw[n]at h;cases h)
noncomputable def eTup(g:Lv):Ev:=λρ=>(g ρ).map .tup
noncomputable def eLst(g:Lv):Ev:=λρ=>(g ρ).map .lst
theorem RL.length{R:RR}{A:Av}{H:Hp}:∀ {ds:List D} {vs:List V},RL R A H ds vs->vs.length=ds.length
 | _,_,.nil=>rfl
 | _,_,.cons _ t=>by rw[zaT,zaT,RL.length t]
noncomputable def szOk(n:Nat):Bool:=decide (n<=1000000)
theorem qbf{n:Nat}(h:szOk n=true):n<=zaj:=zaY (of_decide_eq_true h) (by decide)
theorem qeI{n:Nat}(h:szOk n=true):n<zaj:=Nat.lt_of_le_of_lt (of_decide_eq_true h) (by decide)
theorem map_some{α β:Type}{o:Option α}{f:α->β}{b:β}(h:o.map f=some b):∃a,o=some a/\f a=b:=by
 cases o with
 | none=>cases h
 | some a=>exact⟨a,rfl,zaA h⟩
noncomputable def Len(g:Lv)(n:Nat):Prop:=∀ρ ds,g ρ=some ds->ds.length=n
theorem qmS:Len lNil 0:=λρ ds h=>by cases h;rfl
theorem qk3{f:Ev}{g:Lv}{n:Nat}(h:Len g n):Len (qz f g) (n+1):=λρ ds e=>by
 obtain⟨x,ex,e⟩:=bind_some e
 obtain⟨xs,exs,e⟩:=bind_some e
 cases e
 rw[zaT,h ρ xs exs]
theorem qlU{es:List Expr}{x1}{pos:Pos}{g:Lv}(h:PDA X O es g)(hl:∀ρ ds,g ρ=some ds->ds.length<=100):PD X O (.Tuple es x1 pos) (eTup g):=PE.mono (qpw h) <| by
 rintro σ H Q ⟨H0,A0,A,E,ρ,d,st,e,q⟩
 obtain⟨ds,e1,rfl⟩:=map_some e
 refine⟨H0,A0,A,E,ρ,ds,st,e1,λvs H1 x1 r1=>⟨by rw[r1.length];exact zaY (hl ρ ds e1) (by decide),λp hp=>?_⟩⟩
 exact q _ _ (x1.trans (Ext.new hp)) (.tup ql (r1.toL.ext (Ext.new hp)))
theorem qlV{es:List Expr}{pos:Pos}{g:Lv}(h:PDA X O es g)(hl:∀ρ ds,g ρ=some ds->ds.length<=100):PF X O (.List es pos) (eLst g):=PE.mono (qpn h) <| by
 rintro σ H Q ⟨H0,A0,A,E,ρ,d,st,e,q⟩
 obtain⟨ds,e1,rfl⟩:=map_some e
 refine⟨H0,A0,A,E,ρ,ds,st,e1,λvs H1 x1 r1=>⟨by rw[r1.length];exact zaY (hl ρ ds e1) (by decide),λp hp=>?_⟩⟩
 exact q p _ (x1.trans (Ext.new hp)) (x1.free hp) (λz=>(st.mono x1).live p z hp) (.lst ql (r1.toL.fresh hp))
theorem qcs{pos:Pos}:PF X O (.Dict [] [] pos) (eC (.dT [])):=PE.mono qks <| by
 rintro σ H Q ⟨H0,A0,A,E,ρ,d,st,e,q⟩ p hp
 cases e
 exact q p _ (Ext.new hp) hp (λz=>st.live p z hp) (.dT ql rfl .nil)
inductive rC(g:List D->Option D)(xs:List V)(H:Hp)(Q:VK):Prop
 | mk (A:Av) (ds:List D) (d:D) (lv:Live A H) (r:RL RepB A H ds xs) (e:g ds=some d) (q:∀v H',Ext A H H'->Rep A H' d v->Q v H'):rC g xs H Q
inductive rCF(g:List D->Option D)(xs:List V)(H:Hp)(Q:VK):Prop
 | mk (A:Av) (ds:List D) (d:D) (lv:Live A H) (r:RL RepB A H ds xs) (e:g ds=some d) (q:∀a H',Ext A H H'->H a=none->¬ A a->Own (λb=>A b\/b=a) H' d a->Q (.ref a) H'):rCF g xs H Q
noncomputable def qcn(X:Cx)(f:Value)(g:List D->Option D):Prop:=CallR X f (rC g)
noncomputable def qiq(X:Cx)(f:Value)(g:List D->Option D):Prop:=CallR X f (rCF g)
theorem CallR.mono{f:Value}{r r':List V->Hp->VK->Prop}(h:CallR X f r)(x:∀a H Q,r' a H Q->r a H Q):CallR X f r':=λpins s σ H a v Q I rv w=>h pins s σ H a v Q I rv (x a H Q w)
noncomputable def qT(g:List D->Option D)(f:Lv):Ev:=λρ=>(f ρ).bind g
theorem qfv{g:List D->Option D}{f:Lv}{σ:L2.St}{H:Hp}{Q:VK}(h:tD Rep O (qT g f) σ H Q):tCB (rC g) (tDA RepB O f) σ H Q:=by
 obtain⟨H0,A0,A,E,ρ,d,st,e,q⟩:=h
 obtain⟨ds,e1,e⟩:=bind_some e
 exact⟨H0,A0,A,E,ρ,ds,st,e1,λvs H1 x1 r1=>⟨A,ds,d,(st.mono x1).live,r1,e,λv H2 x2 r2=>q v H2 (x1.trans x2) r2⟩⟩
theorem qiU{g:List D->Option D}{f:Lv}{σ:L2.St}{H:Hp}{Q:VK}(h:tF O (qT g f) σ H Q):tCB (rCF g) (tDA RepB O f) σ H Q:=by
 obtain⟨H0,A0,A,E,ρ,d,st,e,q⟩:=h
 obtain⟨ds,e1,e⟩:=bind_some e
 exact⟨H0,A0,A,E,ρ,ds,st,e1,λvs H1 x1 r1=>⟨A,ds,d,(st.mono x1).live,r1,e,λa H2 x2 n na o=>q a H2 (x1.trans x2) (x1.free n) na o⟩⟩
section
variable {x:Str}{id T:String}{g:List D->Option D}{e:Expr}{es:List Expr}{f:Lv}{p pos:Pos}
theorem qlo(hc:qcn X (.builtin id) g)(hg:Gl X x)(hm:X.mg x=none)(hv:zaE x=some (.builtin id))(ha:PBA X O (e::es) f)(hn:x ≠ "__name__" := by decide)(hdb:(x == ("__debug__" : Str))=false:=by decide)
  (he:zaf (e::es) X.env=(false,eval e X.env)::zaf es X.env:=by rfl) (hpl:(backTo pos (zaf es X.env)).any (·.1)=false:=by rfl) :
  PD X O (.Call (.Name x p) (e::es) [] pos) (qT g f):=PE.mono (qem hc hg hm hv ha hn hdb he hpl) λσ H Q h=>qfv h
theorem qjt(hc:qcn X (.type T) g)(hg:Gl X x)(hm:X.mg x=none)(hv:zaE x=some (.type T))(ha:PBA X O (e::es) f)(hn:x ≠ "__name__" := by decide)(hdb:(x == ("__debug__" : Str))=false:=by decide)
  (he:zaf (e::es) X.env=(false,eval e X.env)::zaf es X.env:=by rfl) (hpl:(backTo pos (zaf es X.env)).any (·.1)=false:=by rfl) :
  PD X O (.Call (.Name x p) (e::es) [] pos) (qT g f):=PE.mono (qeV hc hg hm hv ha hn hdb he hpl) λσ H Q h=>qfv h
theorem qjr(hc:qiq X (.type T) g)(hg:Gl X x)(hm:X.mg x=none)(hv:zaE x=some (.type T))(ha:PBA X O (e::es) f)(hn:x ≠ "__name__" := by decide)(hdb:(x == ("__debug__" : Str))=false:=by decide)
  (he:zaf (e::es) X.env=(false,eval e X.env)::zaf es X.env:=by rfl) (hpl:(backTo pos (zaf es X.env)).any (·.1)=false:=by rfl) :
  PF X O (.Call (.Name x p) (e::es) [] pos) (qT g f):=PE.mono (qeV hc hg hm hv ha hn hdb he hpl) λσ H Q h=>qiU h
end
noncomputable def spD(n:Nat)(F:List D->Option D):Sp:=λvs H Q _=>∃A ds d,Live A H/\RepL A H ds vs/\vs.length=n/\F ds=some d/\∀v H',Ext A H H'->Rep A H' d v->Q v H'
noncomputable def Fn(P:zai)(w:World)(K:zae)(mg:Str->Option Value)(base:Heap)(x:Str)(k:Nat)(ps:List Str)(F:List D->Option D):Prop:=My.Ok P w K mg base x k ps (spD ps.length F)
theorem Fn.mono{P:zai}{w:World}{K:zae}{mg:Str->Option Value}{base:Heap}{x:Str}{j k:Nat}{ps:List Str}{F:List D->Option D}(h:Fn P w K mg base x j ps F)(l:j<=k):Fn P w K mg base x k ps F:=My.Ok.mono h l
theorem qnA{x:Str}{k:Nat}{ps:List Str}{F:List D->Option D}{e:Expr}{es:List Expr}{f:Lv}{p pos:Pos}(O':Fn X.prog X.w X.K X.mg X.base x k ps F)(hr:Room k X.A)(hg:Gl X x)(ha:PDA X O (e::es) f)(hl:∀ρ ds,f ρ=some ds->ds.length=ps.length)(hdb:(x == ("__debug__" : Str))=false:=by decide)
  (he:zaf (e::es) X.env=(false,eval e X.env)::zaf es X.env:=by rfl) (hpl:(backTo pos (zaf es X.env)).any (·.1)=false:=by rfl) :
  PD X O (.Call (.Name x p) (e::es) [] pos) (qT F f):=PE.mono (My.qkj O' hr hg ha hdb he hpl) λσ H Q ⟨H0,A0,A,E,ρ,d,st,e,q⟩=>by
 obtain⟨ds,e1,e⟩:=bind_some e
 exact⟨H0,A0,A,E,ρ,ds,st,e1,λvs H1 x1 r1=>⟨A,ds,d,(st.mono x1).live,r1.toL,by rw[r1.length];exact hl ρ ds e1,e,λv H2 x2 r2=>q v H2 (x1.trans x2) r2⟩⟩
theorem IxR.mono{r r':R2}(h:IxR X r)(x:∀a b H Q,r' a b H Q->r a b H Q):IxR X r':=λva sl pins s σ H a b v u Q I rv ru w=>h va sl pins s σ H a b v u Q I rv ru (x a b H Q w)
noncomputable def dIx:D->D->Option D
 | .lst l,.int i=>atI l i
 | .tup l,.int i=>atI l i
 | .str z,.int i=>if szOk z.length then(atI z.cps.toList i).map λc=>.str ⟨#[c]⟩else none
 | _,_=>none
theorem RepL.at{A:Av}{H:Hp}{ds:List D}{vs:List V}{i:Int}{d:D}(r:RepL A H ds vs)(h:atI ds i=some d):∃v,atI vs i=some v/\Rep A H d v:=by
 obtain⟨j,e1,e2⟩:=bind_some h
 obtain⟨v,e3,e4⟩:=r.get' e2
 refine⟨v,?_,e4⟩
 unfold atI
 rw[r.length,e1]
 exact e3
theorem ix_D:IxR X (rD dIx):=IxR.mono qpJ <| by
 rintro x y H Q ⟨A,dx,dy,d,lv,rx,ry,e,q⟩
 cases dy with
 | int i=>
  have:=ry.int_inv;subst this
  cases dx with
  | lst l=>
   obtain⟨a,xs,rfl,h,r⟩:=rx.lst_inv
   obtain⟨v,e1,e2⟩:=r.at e
   exact .inl ⟨a,xs,i,v,rfl,rfl,.inl h,e1,q v H (Ext.refl _ _) e2⟩
  | tup l=>
   obtain⟨a,xs,rfl,h,r⟩:=rx.tup_inv
   obtain⟨v,e1,e2⟩:=r.at e
   exact .inr (.inl ⟨a,xs,i,v,rfl,rfl,.inl (.inl h),e1,q v H (Ext.refl _ _) e2⟩)
  | str z=>
   have:=rx.str_inv;subst this
   simp only[dIx]at e
   by_cases hz:szOk z.length=true
   ·rw[if_pos hz]at e
    obtain⟨c,e1,rfl⟩:=map_some e
    exact .inr (.inr ⟨z,i,c,rfl,rfl,qbf hz,e1,q _ H (Ext.refl _ _) (.str _)⟩)
   ·rw[if_neg hz]at e;cases e
  | _=>cases e
 | _=>cases dx <;> cases e
noncomputable abbrev Ov:=Rho->Option (Option Int)
inductive tDO(O:List Nat)(g:Ov)(σ:L2.St)(H:Hp)(Q:Option Int->Hp->Prop):Prop
 | mk (H0:Hp) (A0 A:Av) (E:List Fact) (ρ:Rho) (o:Option Int) (st:ST H0 A0 A E O σ H ρ) (e:g ρ=some o) (q:∀H',Ext A H H'->Q o H'):tDO O g σ H Q
noncomputable def PDO(X:Cx)(O:List Nat)(e:Option Expr)(g:Ov):Prop:=PO X e (tDO O g)
theorem PO.mono{e:Option Expr}{t t':TO}(h:PO X e t)(x:∀σ H Q,t' σ H Q->t σ H Q):PO X e t':=λpins s σ H Q I w=>h pins s σ H Q I (x σ H Q w)
noncomputable def qli:Ov:=λ_=>some none
noncomputable def asI:D->Option Int
 | .int i=>some i
 | _=>none
theorem qey{d:D}{i:Int}(h:asI d=some i):d=.int i:=by cases d <;> cases h;rfl
noncomputable def qly(f:Ev):Ov:=λρ=>(f ρ).bind λd=>(asI d).map some
theorem qls:PDO X O none qli:=PO.mono qm8 λσ H Q ⟨H0,A0,A,E,ρ,d,st,e,q⟩=>by cases e;exact q H (Ext.refl _ _)
theorem qkm{e:Expr}{f:Ev}(h:PD X O e f):PDO X O (some e) (qly f):=PO.mono (qnj h) <| by
 rintro σ H Q ⟨H0,A0,A,E,ρ,d,st,e,q⟩
 obtain⟨x,ex,e⟩:=bind_some e
 obtain⟨i,ei,rfl⟩:=map_some e
 rw[qey ei]at ex
 exact⟨H0,A0,A,E,ρ,_,st,ex,λv H1 x1 r1=>⟨i,RepB.int_inv (.of r1),q H1 x1⟩⟩
noncomputable def cutD(xs:List D)(lo hi:Option Int):List D:=(xs.drop (HT.sIx xs.length 0 lo)).take (HT.sIx xs.length xs.length hi-HT.sIx xs.length 0 lo)
theorem RepL.cut{A:Av}{H:Hp}{ds:List D}{vs:List V}{lo hi:Option Int}(r:RepL A H ds vs):RepL A H (cutD ds lo hi) (cutV vs lo hi):=by
 unfold cutD cutV
 rw[r.length]
 exact(r.drop _).take _
noncomputable def eSl(g:D->Option Int->Option Int->Option D)(f:Ev)(a b:Ov):Ev:=λρ=>(f ρ).bind λx=>(a ρ).bind λlo=>(b ρ).bind λhi=>g x lo hi
inductive rS(g:D->Option Int->Option Int->Option D)(x:V)(lo hi:Option Int)(H:Hp)(Q:VK):Prop
 | mk (A:Av) (dx d:D) (lv:Live A H) (r:RepB A H dx x) (e:g dx lo hi=some d) (q:∀v H',Ext A H H'->Rep A H' d v->Q v H'):rS g x lo hi H Q
inductive rSF(g:D->Option Int->Option Int->Option D)(x:V)(lo hi:Option Int)(H:Hp)(Q:VK):Prop
 | mk (A:Av) (dx d:D) (lv:Live A H) (r:RepB A H dx x) (e:g dx lo hi=some d) (q:∀a H',Ext A H H'->H a=none->¬ A a->Own (λb=>A b\/b=a) H' d a->Q (.ref a) H'):rSF g x lo hi H Q
theorem SlR.mono{r r':V->Option Int->Option Int->Hp->VK->Prop}(h:SlR X r)(x:∀a b c H Q,r' a b c H Q->r a b c H Q):SlR X r':=λpins s σ H a v vl vu lo hi sl Q I rv hs pl pu w=>h pins s σ H a v vl vu lo hi sl Q I rv hs pl pu (x a lo hi H Q w)
noncomputable def dSlT:D->Option Int->Option Int->Option D
 | .tup l,lo,hi=>some (.tup (cutD l lo hi))
 | _,_,_=>none
noncomputable def dSlL:D->Option Int->Option Int->Option D
 | .lst l,lo,hi=>some (.lst (cutD l lo hi))
 | _,_,_=>none
theorem qkP{e:Expr}{lo hi:Option Expr}{p2 pos:Pos}{g:D->Option Int->Option Int->Option D}{f:Ev}{a b:Ov}(hr:SlR X (rS g))(he:PB X O e f)(hl:PDO X O lo a)(hu:PDO X O hi b):PD X O (.Subscript e (.Slice lo hi none p2) pos) (eSl g f a b):=
 PE.mono (qkp hr he hl hu) <| by
  rintro σ H Q ⟨H0,A0,A,E,ρ,d,st,e,q⟩
  obtain⟨x,ex,e⟩:=bind_some e
  obtain⟨l,el,e⟩:=bind_some e
  obtain⟨h,eh,e⟩:=bind_some e
  exact⟨H0,A0,A,E,ρ,x,st,ex,λv H1 x1 r1=>⟨H0,A0,A,E,ρ,l,st.mono x1,el,λH2 x2=>⟨H0,A0,A,E,ρ,h,st.mono (x1.trans x2),eh,λH3 x3=>⟨A,x,d,(st.mono ((x1.trans x2).trans x3)).live,r1.ext (x2.trans x3),e,λv H4 x4 r4=>q v H4 (((x1.trans x2).trans x3).trans x4) r4⟩⟩⟩⟩
theorem sl_T:SlR X (rS dSlT):=SlR.mono My.qnN <| by
 rintro x lo hi H Q ⟨A,dx,d,lv,rx,e,q⟩
 cases dx with
 | tup l=>
  obtain⟨a,xs,rfl,h,r⟩:=rx.tup_inv
  cases e
  by_cases w:HT.sIx xs.length 0 lo=0/\HT.sIx xs.length xs.length hi=xs.length
  ·refine .inr ⟨a,xs,rfl,.inl (.inl h),w,q _ H (Ext.refl _ _) (.tup h ?_)⟩
   have e1:cutV xs lo hi=xs:=by unfold cutV;rw[w.1,w.2];simp
   rw[<- e1]
   exact r.cut
  ·exact .inl ⟨a,xs,rfl,.inl (.inl h),w,λp hp=>q _ _ (Ext.new hp) (.tup ql (r.cut.ext (Ext.new hp)))⟩
 | _=>cases e
theorem sl_L:SlR X (rSF dSlL):=SlR.mono qmK <| by
 rintro x lo hi H Q ⟨A,dx,d,lv,rx,e,q⟩
 cases dx with
 | lst l=>
  obtain⟨a,xs,rfl,h,r⟩:=rx.lst_inv
  cases e
  exact⟨a,xs,rfl,.inl h,λp hp=>q p _ (Ext.new hp) hp (λz=>lv p z hp) (.lst ql (r.cut.fresh hp))⟩
 | _=>cases e
end
inductive Out where
 | nx (ρ:Rho)|rt (d:D)|bk (ρ:Rho)|ct (ρ:Rho)
noncomputable abbrev Sv:=Rho->Option Out
structure Lp where
 ob:List Nat
 oc:List Nat
noncomputable def Post(L:Lp)(H0:Hp)(A0:Av)(E:List Fact)(O':List Nat)(T:Ends):Out->Prop
 | .nx ρ=>∀A σ H,ST H0 A0 A E O' σ H ρ->T.nx σ H
 | .rt d=>∀v H,Ext A0 H0 H->Rep A0 H d v->T.rt v H
 | .bk ρ=>∀A σ H,ST H0 A0 A E L.ob σ H ρ->T.bk σ H
 | .ct ρ=>∀A σ H,ST H0 A0 A E L.oc σ H ρ->T.ct σ H
inductive tS(L:Lp)(O:List Nat)(f:Sv)(O':List Nat)(T:Ends)(σ:L2.St)(H:Hp):Prop
 | mk (H0:Hp) (A0 A:Av) (E:List Fact) (ρ:Rho) (out:Out) (st:ST H0 A0 A E O σ H ρ) (e:f ρ=some out) (p:Post L H0 A0 E O' T out):tS L O f O' T σ H
noncomputable def PSD(X:Cx)(L:Lp)(O:List Nat)(st:Stmt)(f:Sv)(O':List Nat):Prop:=PS X st (tS L O f O')
noncomputable def PSDs(X:Cx)(L:Lp)(O:List Nat)(st:List Stmt)(f:Sv)(O':List Nat):Prop:=PSs X st (tS L O f O')
section
variable {X:Cx}{L:Lp}{O O' O2:List Nat}
theorem PS.mono{st:Stmt}{t t':TS}(h:PS X st t)(x:∀T σ H,t' T σ H->t T σ H):PS X st t':=λpins s σ H T I w=>h pins s σ H T I (x T σ H w)
theorem PSs.mono{st:List Stmt}{t t':TS}(h:PSs X st t)(x:∀T σ H,t' T σ H->t T σ H):PSs X st t':=λpins s σ H T I w=>h pins s σ H T I (x T σ H w)
noncomputable def Sub(a b:List Nat):Bool:=a.all λi=>b.contains i
theorem Sub.mem{a b:List Nat}(h:Sub a b=true)(i:Nat)(hi:i∈a):i∈b:=by
 have:=(List.all_eq_true.mp h) i hi
 simpa using this
noncomputable def sNx:Sv:=λρ=>some (.nx ρ)
noncomputable def sSeq(f g:Sv):Sv:=λρ=>(f ρ).bind λo=>match o with
 | .nx ρ'=>g ρ'
 | o=>some o
theorem qi5(h:Sub O' O=true:=by rfl):PSDs X L O [] sNx O':=PSs.mono qmr <| by
 rintro T σ H ⟨H0,A0,A,E,ρ,out,st,e,p⟩
 cases e
 obtain⟨A',st'⟩:=st.shut (Sub.mem h)
 exact p A' σ H st'
theorem qnJ{f g:Sv}{T:Ends}{σ:L2.St}{H:Hp}(h:tS L O (sSeq f g) O' T σ H):tSeq (tS L O f O2) (tS L O2 g O') T σ H:=by
 obtain⟨H0,A0,A,E,ρ,out,st,e,p⟩:=h
 obtain⟨o,eo,e⟩:=bind_some e
 refine⟨H0,A0,A,E,ρ,o,st,eo,?_⟩
 cases o with
 | nx ρ'=>exact λA' σ' H' st'=>⟨H0,A0,A',E,ρ',out,st',e,p⟩
 | rt d=>cases e;exact p
 | bk d=>cases e;exact p
 | ct d=>cases e;exact p
theorem qlk{st:Stmt}{rest:List Stmt}{f g:Sv}(h1:PSD X L O st f O2)(h2:PSDs X L O2 rest g O'):PSDs X L O (st::rest) (sSeq f g) O':=PSs.mono (qlj h1 h2) λT σ H h=>qnJ h
theorem qj{st:Stmt}{f:Sv}(h1:PSD X L O st f O'):PSDs X L O [st] f O':=qnW h1
noncomputable def sRt(f:Ev):Sv:=λρ=>(f ρ).map .rt
theorem qmj{e:Expr}{pos:Pos}{f:Ev}(he:PD X O e f):PSD X L O (.Return (some e) pos) (sRt f) O':=PS.mono (qpA he) <| by
 rintro T σ H ⟨H0,A0,A,E,ρ,out,st,e,p⟩
 obtain⟨d,e1,rfl⟩:=map_some e
 exact⟨H0,A0,A,E,ρ,d,st,e1,λv H' x r=>p v H' (st.mono x).ex (r.av λa ha=>.inl (st.sub a ha))⟩
noncomputable def qmu(f:Ev):Sv:=λρ=>(f ρ).map λ_=>.nx ρ
theorem qlw{e:Expr}{pos:Pos}{f:Ev}(he:PB X O e f)(hs:zaV e none pos.line X.env=pure false:=by rfl)(h:Sub O' O=true:=by rfl):PSD X L O (.Expr e pos) (qmu f) O':=PS.mono (qiz he hs) <| by
 rintro T σ H ⟨H0,A0,A,E,ρ,out,st,e,p⟩
 obtain⟨d,e1,rfl⟩:=map_some e
 refine⟨H0,A0,A,E,ρ,d,st,e1,λv H' x r=>?_⟩
 obtain⟨A',st'⟩:=(st.mono x).shut (Sub.mem h)
 exact p A' σ H' st'
noncomputable def sIf(c:Bv)(f g:Sv):Sv:=λρ=>(c ρ).bind λb=>if b=true then f ρ else g ρ
theorem qiJ{c:Expr}{a b:List Stmt}{pos:Pos}{g:Bv}{f k:Sv}(hc:PDT X O c g)(ha:PSDs X L O a f O')(hb:PSDs X L O b k O'):PSD X L O (.If c a b pos) (sIf g f k) O':=PS.mono (qqJ hc ha hb) <| by
 rintro T σ H ⟨H0,A0,A,E,ρ,out,st,e,p⟩
 obtain⟨b,eb,e⟩:=bind_some e
 refine⟨H0,A0,A,E,ρ,b,st,eb,λH1 x1=>?_⟩
 cases b with
 | true=>rw[if_pos rfl]at e ⊢;exact⟨H0,A0,A,E,ρ,out,st.mono x1,e,p⟩
 | false=>rw[if_neg zaq]at e ⊢;exact⟨H0,A0,A,E,ρ,out,st.mono x1,e,p⟩
noncomputable def sSet(i:Nat)(f:Ev):Sv:=λρ=>(f ρ).map λd=>.nx (ρ.set i (some d))
theorem Sub.er{a b:List Nat}{i j:Nat}(h:Sub a (b.filter (· != i))=true)(hj:j∈a):j∈b/\j≠i:=by
 have:=Sub.mem h j hj
 rw[List.mem_filter]at this
 exact⟨this.1,by simpa using this.2⟩
theorem qiV{i:Nat}{x:Str}{e:Expr}{pos pos':Pos}{f:Ev}(hN:X.N.Nodup)(hi:X.N[i]?=some x)(hx:Loc X.env.scope x)(he:PD X O e f)(h:Sub O' (O.filter (· != i))=true:=by rfl)
  (hs:zaV e (some (.Name x pos')) pos.line X.env=pure false:=by rfl) (hf:X.fn x=true\/X.env.scope.names.lookup x=some .local:=by first|exact .inl rfl|exact .inr rfl):PSD X L O (.Assign [.Name x pos'] e pos) (sSet i f) O':=
 PS.mono (qlE hN hi hx he hs hf) <| by
  rintro T σ H ⟨H0,A0,A,E,ρ,out,st,e,p⟩
  obtain⟨d,e1,rfl⟩:=map_some e
  refine⟨H0,A0,A,E,ρ,d,st,e1,λv H' x r=>?_⟩
  -- i leaves what may be written ahead of the store: the value is borne by fewer too
  have st1:=(st.mono x).more r
  obtain⟨A',st'⟩:=st1.shut (O':=O') λj hj=>(Sub.er h hj).1
  exact p A' _ H' ((st'.put (st'.ext _ (zay ..)) λz=>(Sub.er h z).2 rfl).less λq hq=>zaz _ hq)
theorem Own.there{A:Av}{H:Hp}{d:D}{a:Addr}:Own A H d a->H a≠none
 | .lst h _=>by rw[h];exact λz=>nomatch z
 | .dK h _ _=>by rw[h];exact λz=>nomatch z
 | .dT h _ _=>by rw[h];exact λz=>nomatch z
theorem ST.own_put{H0:Hp}{A0 A:Av}{E:List Fact}{O:List Nat}{σ:L2.St}{H H':Hp}{ρ:Rho}(s:ST H0 A0 A E O σ H ρ)(x:Ext A H H'){i:Nat}{d:D}{a:Addr}(n:H a=none)(na:¬ A a)(o:Own (λb=>A b\/b=a) H' d a)(ni:i∉O) :
  ST H0 A0 (λb=>A b\/b=a) E (i::O) (σ.set i (some (.ref a))) H' (ρ.set i (some d)):=by
 have s':=s.mono x
 have n0:H0 a=none:=s.ex.free n
 -- whatever was borne ahead avoids a
 have upX:Ext (λb=>A b\/b=a) H H':=⟨x.rd,x.kp,λb u hb e=>hb.elim (λhb=>x.ow b u hb e) λhb=>(by subst hb;rw[n]at e;exact nomatch e),x.fz⟩
 have upF:∀ {p:Fact},p.Holds A H->p.Holds (λb=>A b\/b=a) H':=λr=>Fact.ext upX (Fact.av (A':=λb=>A b\/b=a) (λb hb=>by
   rcases hb with hb|hb
   ·exact .inl hb
   ·exact .inr (hb ▸ n)) r)
 have up:∀ {d:D} {v:V},Rep A H d v->Rep (λb=>A b\/b=a) H' d v:=λr=>by
  have r1:Rep (λb=>A b\/b=a) H _ _:=r.av λb hb=>by
   rcases hb with hb|hb
   ·exact .inl hb
   ·exact .inr (hb ▸ n)
  exact r1.ext upX
 have upO:∀ {d:D} {b:Addr},A b->Own A H d b->Own (λc=>A c\/c=a) H' d b:=λhb r=>by
  have r1:Own (λc=>A c\/c=a) H _ _:=r.av λb hb=>by
   rcases hb with hb|hb
   ·exact .inl hb
   ·exact .inr (hb ▸ n)
  exact r1.ext upX (.inl hb)
 have ha:H' a≠none:=o.there
 refine⟨s'.ex,λb hb=>.inl (s.sub b hb),s.l0,λb hb=>?_,by simp[s.len],λj d' h' n'=>?_,λj d' h' n'=>?_,λj k d1 d2 b hj hk h1 h2 h3 h4=>?_,λp hp=>upF (s.ext p hp)⟩
 ·rcases hb with hb|hb
  ·exact s'.live b hb
  ·subst hb;exact ha
 ·rcases qaA h' with⟨e,e2,l⟩|⟨e,e2⟩
  ·exact absurd (List.mem_cons.mpr (.inl e)) n'
  ·obtain⟨w,h1,h2⟩:=s.val j d' e2 λz=>n' (zaz _ z)
   exact⟨w,by rw[qcR e];exact h1,up h2⟩
 ·rcases qaA h' with⟨e,e2,l⟩|⟨e,e2⟩
  ·subst e;cases e2
   exact⟨a,sig_set (by rw[s.len];exact l),.inr rfl,n0,o⟩
  ·rcases List.mem_cons.mp n' with z|z
   ·exact absurd z e
   ·obtain⟨w,h1,h2,h3,h4⟩:=s.own j d' e2 z
    exact⟨w,by rw[qcR e];exact h1,.inl h2,h3,upO h2 h4⟩
 ·have key:∀ {j:Nat} {d1:D},j∈i::O->(ρ.set i (some d))[j]?=some (some d1)->(σ.set i (some (.ref a)))[j]?=some (some (.ref b))->(j=i/\b=a)\/(j≠i/\j∈O/\ρ[j]?=some (some d1)/\σ[j]?=some (some (.ref b))/\b≠a):=by
   intro j d1 hj h1 h3
   rcases qaA h1 with⟨e,e2,l⟩|⟨e,e2⟩
   ·subst e
    rw[sig_set (by rw[s.len];exact l)]at h3
    cases h3
    exact .inl ⟨rfl,rfl⟩
   ·rcases List.mem_cons.mp hj with z|z
    ·exact absurd z e
    ·rw[qcR e]at h3
     obtain⟨w,q1,q2,_⟩:=s.own j d1 e2 z
     rw[h3]at q1;cases q1
     exact .inr ⟨e,z,e2,h3,λz=>na (z ▸ q2)⟩
  rcases key hj h1 h3 with⟨e1,e2⟩|⟨e1,e2,e3,e4,e5⟩
  ·rcases key hk h2 h4 with⟨f1,f2⟩|⟨f1,f2,f3,f4,f5⟩
   ·rw[e1,f1]
   ·exact absurd e2 f5
  ·rcases key hk h2 h4 with⟨f1,f2⟩|⟨f1,f2,f3,f4,f5⟩
   ·exact absurd f2 e5
   ·exact s.inj j k d1 d2 b e2 f2 e3 f3 e4 f4
theorem qk2{i:Nat}{x:Str}{e:Expr}{pos pos':Pos}{f:Ev}(hN:X.N.Nodup)(hi:X.N[i]?=some x)(hx:Loc X.env.scope x)(he:PF X O e f)(h:Sub O' (i::O)=true:=by rfl)(hn:O.contains i=false:=by rfl)
  (hs:zaV e (some (.Name x pos')) pos.line X.env=pure false:=by rfl) (hf:X.fn x=true\/X.env.scope.names.lookup x=some .local:=by first|exact .inl rfl|exact .inr rfl):PSD X L O (.Assign [.Name x pos'] e pos) (sSet i f) O':=
 PS.mono (qlE hN hi hx he hs hf) <| by
  rintro T σ H ⟨H0,A0,A,E,ρ,out,st,e,p⟩
  obtain⟨d,e1,rfl⟩:=map_some e
  refine⟨H0,A0,A,E,ρ,d,st,e1,λa H' x n na o=>?_⟩
  have ni:i∉O:=λz=>by
   have:O.contains i=true:=by simpa using z
   rw[hn]at this;cases this
  obtain⟨A1,st1⟩:=(st.own_put x n na o ni).shut (Sub.mem h)
  exact p A1 _ H' st1
theorem ST.write{H0:Hp}{A0 A:Av}{E:List Fact}{σ:L2.St}{H:Hp}{ρ:Rho}(s:ST H0 A0 A E O σ H ρ){i:Nat}{d d':D}{a:Addr}{u o:HO}(hi:ρ[i]?=some (some d))(hO:i∈O)(hs:σ[i]?=some (some (.ref a)))(ha:A a)(h0:H0 a=none)(hu:H a=some u)(ob:Obs u)(hn:Own A (upd H a o) d' a) :
  ST H0 A0 A E O σ (upd H a o) (ρ.set i (some d')):=by
 have ne0:∀b,H0 b≠none->b≠a:=λb hb z=>hb (z ▸ h0)
 refine⟨⟨λb w r=>?_,λb xs k r=>?_,λb w n r=>?_,λb q w r=>?_⟩,s.sub,s.l0,λb hb=>?_,by simp[s.len],λj d2 h' n'=>?_,λj d2 h' n'=>?_,λj k d1 d2 b hj hk h1 h2 h3 h4=>?_,λp hp=>Fact.put ha hu ob (s.ext p hp)⟩
 ·refine qba (ne0 b ?_) (s.ex.rd b w r)
  rcases r with r|⟨_,r⟩ <;> (rw[r];exact λz=>nomatch z)
 ·rw[qi (ne0 b (by rw[r];exact λz=>nomatch z))];exact s.ex.kp b xs k r
 ·rw[qi (ne0 b (by rw[r];exact λz=>nomatch z))];exact s.ex.ow b w n r
 ·rw[qi (ne0 b (by rw[r];exact λz=>nomatch z))];exact s.ex.fz b q w r
 ·by_cases e:b=a
  ·subst e;rw[ql];exact λz=>nomatch z
  ·rw[qi e];exact s.live b hb
 ·rcases qaA h' with⟨e,e2,l⟩|⟨e,e2⟩
  ·subst e;exact absurd hO n'
  ·obtain⟨w,h1,h2⟩:=s.val j d2 e2 n'
   exact⟨w,h1,h2.put ha hu ob⟩
 ·rcases qaA h' with⟨e,e2,l⟩|⟨e,e2⟩
  ·subst e;cases e2;exact⟨a,hs,ha,h0,hn⟩
  ·obtain⟨b,h1,h2,h3,h4⟩:=s.own j d2 e2 n'
   refine⟨b,h1,h2,h3,h4.put ha hu ob λz=>?_⟩
   subst z
   exact e (s.inj j i d2 d b n' hO e2 hi h1 hs)
 ·have key:∀ {j:Nat} {d1:D},(ρ.set i (some d'))[j]?=some (some d1)->∃d0,ρ[j]?=some (some d0):=by
   intro j d1 h
   rcases qaA h with⟨e,_,_⟩|⟨_,e⟩
   ·subst e;exact⟨d,hi⟩
   ·exact⟨d1,e⟩
  obtain⟨x,hx⟩:=key h1
  obtain⟨y,hy⟩:=key h2
  exact s.inj j k x y b hj hk hx hy h3 h4
noncomputable def mem(O:List Nat)(i:Nat):Bool:=O.contains i
theorem qd5{O:List Nat}{i:Nat}(h:mem O i=true):i∈O:=by simpa[mem]using h
noncomputable def sApp(i:Nat)(f:Ev):Sv:=λρ=>(eVar i ρ).bind λx=>match x with
 | .lst l=>(f ρ).bind λd=>if szOk l.length then some (.nx (ρ.set i (some (.lst (l++[d])))))else none
 | _=>none
theorem qhJ{o e:Expr}{i:Nat}{apos cpos pos:Pos}{f:Ev}(ho:PE X o (tVar i))(he:PD X O e f)(hO:mem O i=true)(hp:PE X (.Call (.Attribute o "append" apos) [e] [] cpos) (tBM X.K "list" qiS (tVar i) (qkV (tD Rep O f) tNil)))
  (hs:zaV (.Call (.Attribute o "append" apos) [e] [] cpos) none pos.line X.env=pure false:=by rfl) (h:Sub O' O=true:=by rfl):PSD X L O (.Expr (.Call (.Attribute o "append" apos) [e] [] cpos) pos) (sApp i f) O':=
 PS.mono (qiz hp hs) <| by
  rintro T σ H ⟨H0,A0,A,E,ρ,out,st,e,p⟩
  obtain⟨x,ex,e⟩:=bind_some e
  cases x with
  | lst l=>
   obtain⟨d,ed,e⟩:=bind_some e
   by_cases hz:szOk l.length=true
   ·rw[if_pos hz]at e
    cases e
    obtain⟨a,e1,e2,e3,e4⟩:=st.own i _ (qah ex) (qd5 hO)
    cases e4 with
    | lst h4 r4=>
     refine⟨_,e1,.inl ⟨rfl,_,SqL.of h4⟩,H0,A0,A,E,ρ,d,st,ed,λv H' x r=>⟨a,_,v,rfl,rfl,x.ow _ _ e2 h4,by rw[r4.length];exact qeI hz,?_⟩⟩
     have hu:=x.ow _ _ e2 h4
     obtain⟨A',st'⟩:=((st.mono x).write (o:=.lst _) (qah ex) (qd5 hO) e1 e2 e3 hu trivial (.lst ql (((r4.ext x).append (.cons r .nil)).put e2 hu trivial))).shut (Sub.mem h)
     exact p A' σ _ st'
   ·rw[if_neg hz]at e;cases e
  | _=>cases e
noncomputable def asK:D->Option Key
 | .int i=>some (.inl i)
 | .str x=>some (.inr x)
 | _=>none
noncomputable def asKs:List D->Option (List Key)
 | []=>some []
 | d::ds=>(asK d).bind λk=>(asKs ds).bind λks=>some (k::ks)
noncomputable def asT:D->Option (List Key)
 | .tup l=>asKs l
 | _=>none
noncomputable def valD{κ:Type}[DecidableEq κ](l:List (κ×D))(k:κ):Option D:=(l.find? λp=>decide (p.1=k)).map (·.2)
noncomputable def putD{κ:Type}[DecidableEq κ](l:List (κ×D))(k:κ)(d:D):List (κ×D):=if l.any (λp=>decide (p.1=k))then l.map (λp=>if p.1=k then(p.1,d)else p)else l++[(k,d)]
end
section
variable {A:Av}{H:Hp}
section
variable {κ:Type}[DecidableEq κ]
noncomputable abbrev PP(A:Av)(H:Hp):List (κ×D)->List (κ×V)->Prop:=Paired λ(p:κ×D) (q:κ×V)=>p.1=q.1/\Rep A H p.2 q.2
theorem qhW:∀ {l:List (κ×D)} {xs:List (κ×V)},xs.map (·.1)=l.map (·.1)->RepL A H (l.map (·.2)) (xs.map (·.2))->PP A H l xs
 | [],[],_,_=>.nil
 | [],_::_,e,_=>by cases e
 | _::_,[],e,_=>by cases e
 | p::l,q::xs,e,r=>by
  rw[zak,zak]at e r
  injection e with e1 e2
  cases r with
  | cons h t=>exact .cons ⟨e1.symm,h⟩ (qhW e2 t)
theorem qkL:∀ {l:List (κ×D)} {xs:List (κ×V)},PP A H l xs->xs.map (·.1)=l.map (·.1)/\RepL A H (l.map (·.2)) (xs.map (·.2))
 | _,_,.nil=>⟨rfl,.nil⟩
 | _,_,.cons h t=>by
  obtain⟨e,r⟩:=qkL t
  exact⟨by rw[zak,zak,h.1,e],.cons h.2 r⟩
theorem ql0{l:List (κ×D)}{xs:List (κ×V)}(k:κ)(h:PP A H l xs):(valD l k=none/\valV xs k=none)\/∃d v,valD l k=some d/\valV xs k=some v/\Rep A H d v:=by
 induction h with
 | nil=>exact .inl ⟨rfl,rfl⟩
 | @cons p q l xs h t ih=>
  by_cases e:p.1=k
  ·refine .inr ⟨p.2,q.2,?_,qcq (h.1 ▸ e),h.2⟩
   simp[valD,za4,e]
  ·have e':¬ q.1=k:=λz=>e (h.1.trans z)
   have a:valD (p::l) k=valD l k:=by simp[valD,za4,e]
   rw[a,qcr e']
   exact ih
theorem qo0{l:List (κ×D)}{xs:List (κ×V)}(k:κ)(h:PP A H l xs):(l.any λp=>decide (p.1=k))=xs.any λp=>decide (p.1=k):=by
 induction h with
 | nil=>rfl
 | cons h t ih=>rw[zbe,zbe,ih,h.1]
theorem qp6{l:List (κ×D)}{xs:List (κ×V)}(k:κ){d:D}{v:V}(r:Rep A H d v)(h:PP A H l xs):PP A H (l.map λp=>if p.1=k then(p.1,d)else p) (xs.map λp=>if p.1=k then(p.1,v)else p):=by
 induction h with
 | nil=>exact .nil
 | @cons p q l xs h t ih=>
  rw[zak,zak]
  refine .cons ?_ ih
  by_cases e:p.1=k
  ·rw[if_pos e,if_pos (h.1 ▸ e)];exact⟨h.1,r⟩
  ·rw[if_neg e,if_neg (λz=>e (h.1.trans z))];exact h
theorem qpT{l:List (κ×D)}{xs:List (κ×V)}{m:List (κ×D)}{ys:List (κ×V)}(h:PP A H l xs)(h':PP A H m ys):PP A H (l++m) (xs++ys):=by
 induction h with
 | nil=>exact h'
 | cons h t ih=>exact .cons h ih
theorem qj3{l:List (κ×D)}{xs:List (κ×V)}(k:κ){d:D}{v:V}(r:Rep A H d v)(h:PP A H l xs):PP A H (putD l k d) (putK xs k v):=by
 unfold putD putK
 rw[qo0 k h]
 by_cases e:(xs.any λp=>decide (p.1=k))=true
 ·rw[if_pos e,if_pos e];exact qp6 k r h
 ·rw[if_neg e,if_neg e];exact qpT h (.cons ⟨rfl,r⟩ .nil)
end
theorem qeP{d:D}{k:Key}{v:V}(h:asK d=some k)(r:RepB A H d v):v=kV k:=by
 cases d <;> cases h
 ·exact r.int_inv
 ·exact r.str_inv
theorem qg7:∀ {ds:List D} {ks:List Key} {vs:List V},asKs ds=some ks->RepL A H ds vs->vs=ks.map kV
 | _,_,_,h,.nil=>by cases h;rfl
 | _,_,_,h,.cons r t=>by
  obtain⟨k,e1,h⟩:=bind_some h
  obtain⟨ks,e2,h⟩:=bind_some h
  cases h
  rw[zak,qeP e1 (.of r),qg7 e2 t]
theorem qez{d:D}{k:List Key}{v:V}(h:asT d=some k)(r:RepB A H d v):∃b,v=.ref b/\H b=some (.tup (k.map kV)):=by
 cases d <;> try cases h
 rename_i l
 obtain⟨a,xs,rfl,h1,h2⟩:=r.tup_inv
 exact⟨a,rfl,by rw[h1,qg7 h h2]⟩
noncomputable def qal:D->D->Option (Option D)
 | .dK l,k=>(asK k).map λk=>valD l k
 | .dT l,k=>(asT k).map λk=>valD l k
 | _,_=>none
theorem qbv{d k:D}{x y:V}{o:Option D}(h:qal d k=some o)(rx:RepB A H d x)(ry:RepB A H k y):∃a ov,x=.ref a/\IsD H a/\DGet H a y ov/\((o=none/\ov=none)\/∃z v,o=some z/\ov=some v/\Rep A H z v):=by
 cases d with
 | dK l=>
  obtain⟨kk,e1,rfl⟩:=map_some h
  obtain⟨a,xs,rfl,h1,e,r⟩:=rx.dK_inv
  have:=qeP e1 ry
  subst this
  refine⟨a,_,rfl,.inl ⟨xs,h1⟩,.inl ⟨xs,kk,h1,rfl,rfl⟩,ql0 kk (qhW e r)⟩
 | dT l=>
  obtain⟨kk,e1,rfl⟩:=map_some h
  obtain⟨a,xs,rfl,h1,e,r⟩:=rx.dT_inv
  obtain⟨b,rfl,hb⟩:=qez e1 ry
  exact⟨a,_,rfl,.inr ⟨xs,h1⟩,.inr ⟨xs,kk,b,h1,rfl,hb,rfl⟩,ql0 kk (qhW e r)⟩
 | _=>cases h
end
section
variable {X:Cx}{O O':List Nat}{L:Lp}
theorem PE.or{e:Expr}{t u:TE}(h:PE X e t)(k:PE X e u):PE X e (λσ H Q=>t σ H Q\/u σ H Q):=λpins s σ H Q I w=>w.elim (h pins s σ H Q I) (k pins s σ H Q I)
noncomputable def qu(d k:D):Option D:=match d with
 | .dK _=>(qal d k).join
 | .dT _=>(qal d k).join
 | _=>dIx d k
theorem qdB{α:Type}{o:Option (Option α)}{d:α}(h:o.join=some d):o=some (some d):=by
 cases o with
 | none=>cases h
 | some o=>cases o with
  | none=>cases h
  | some x=>cases h;rfl
theorem qhm{fa fb:Ev}{σ:L2.St}{H:Hp}{Q:VK}(h:tD Rep O (eOp (λd k=>(qal d k).join) fa fb) σ H Q):qom (tD RepB O fa) (tD RepB O fb) σ H Q:=by
 obtain⟨H0,A0,A,E,ρ,d,st,e,q⟩:=h
 obtain⟨x,ex,e⟩:=bind_some e
 obtain⟨y,ey,e⟩:=bind_some e
 refine⟨H0,A0,A,E,ρ,x,st,ex,λv H1 x1 r1=>⟨H0,A0,A,E,ρ,y,st.mono x1,ey,λw H2 x2 r2=>?_⟩⟩
 obtain⟨a,ov,e1,_,g,e2⟩:=qbv (qdB e) (r1.ext x2) r2
 rcases e2 with⟨e2,_⟩|⟨z,v',e2,e3,r3⟩
 ·cases e2
 ·cases e2;subst e3
  exact⟨a,v',e1,g,q v' H2 (x1.trans x2) r3⟩
theorem qn5{a b:Expr}{pos:Pos}{fa fb:Ev}(hu:X.A.units+1<cLine)(ha:PB X O a fa)(hb:PB X O b fb)(hs:qf6 b):PD X O (.Subscript a b pos) (eOp qu fa fb):=
 PE.mono (PE.or (qq4 ix_D ha hb hs) (qmp hu ha hb hs)) <| by
  rintro σ H Q ⟨H0,A0,A,E,ρ,d,st,e,q⟩
  obtain⟨x,ex,e'⟩:=bind_some e
  obtain⟨y,ey,e'⟩:=bind_some e'
  have key:∀g:D->D->Option D,g x y=some d->tD Rep O (eOp g fa fb) σ H Q:=λg h=>⟨H0,A0,A,E,ρ,d,st,by unfold eOp;rw[ex,ey];exact h,q⟩
  cases x with
  | dK l=>exact .inr (qhm (key _ e'))
  | dT l=>exact .inr (qhm (key _ e'))
  | _=>exact .inl (qgL (key dIx e'))
noncomputable def qfQ(fd fk fe:Ev):Ev:=λρ=>(fd ρ).bind λd=>(fk ρ).bind λk=>(fe ρ).bind λe=>(qal d k).map λo=>o.getD e
theorem ql8{A:Av}{H:Hp}{d:D}{v:V}(k:D){o:Option D}(h:qal d k=some o)(r:RepB A H d v):∃a,v=.ref a/\IsD H a:=by
 cases d with
 | dK l=>obtain⟨a,xs,rfl,h1,_⟩:=r.dK_inv;exact⟨a,rfl,.inl ⟨xs,h1⟩⟩
 | dT l=>obtain⟨a,xs,rfl,h1,_⟩:=r.dT_inv;exact⟨a,rfl,.inr ⟨xs,h1⟩⟩
 | _=>cases h
theorem qm0{o e f:Expr}{apos cpos:Pos}{fd fk fe:Ev}(hu:X.A.units+1<cLine)(ho:PB X O o fd)(he:PB X O e fk)(hf:PD X O f fe)(m:M2 X o "get" apos e f cpos):PD X O (.Call (.Attribute o "get" apos) [e,f] [] cpos) (qfQ fd fk fe):=
 PE.mono (qla hu ho he hf m) <| by
  rintro σ H Q ⟨H0,A0,A,E,ρ,d,st,e,q⟩
  obtain⟨x,ex,e⟩:=bind_some e
  obtain⟨y,ey,e⟩:=bind_some e
  obtain⟨z,ez,e⟩:=bind_some e
  obtain⟨ov,eo,rfl⟩:=map_some e
  refine⟨H0,A0,A,E,ρ,x,st,ex,λv H1 x1 r1=>?_⟩
  obtain⟨a,e1,isd⟩:=ql8 y eo r1
  refine⟨a,e1,isd,H0,A0,A,E,ρ,y,st.mono x1,ey,λw H2 x2 r2=>⟨H0,A0,A,E,ρ,z,st.mono (x1.trans x2),ez,λu H3 x3 r3=>?_⟩⟩
  obtain⟨a',ov',e2,_,g,e3⟩:=qbv eo (r1.ext (x2.trans x3)) (r2.ext x3)
  rw[e1]at e2;cases e2
  refine⟨ov',g,?_⟩
  rcases e3 with⟨rfl,rfl⟩|⟨z',v',rfl,rfl,r4⟩
  ·exact q u H3 ((x1.trans x2).trans x3) r3
  ·exact q v' H3 ((x1.trans x2).trans x3) r4
noncomputable def dPut(d k e:D):Option D:=match d with
 | .dK l=>(asK k).bind λk=>if szOk l.length then some (.dK (putD l k e))else none
 | .dT l=>(asT k).bind λk=>if szOk l.length then some (.dT (putD l k e))else none
 | .lst l=>(asI k).bind λk=>(ixN l.length k).map λj=>.lst (l.set j e)
 | _=>none
noncomputable def sPut(i:Nat)(fk fe:Ev):Sv:=λρ=>(fe ρ).bind λe=>(eVar i ρ).bind λx=>(fk ρ).bind λk=>(dPut x k e).map λd=>.nx (ρ.set i (some d))
theorem PS.or{st:Stmt}{t u:TS}(h:PS X st t)(k:PS X st u):PS X st (λT σ H=>t T σ H\/u T σ H):=λpins s σ H T I w=>w.elim (h pins s σ H T I) (k pins s σ H T I)
theorem qnv{o k value:Expr}{i:Nat}{pos pos':Pos}{fk fe:Ev}(hu:X.A.units+1<cLine)(ho:PE X o (tVar i))(hk:PB X O k fk)(hv:PD X O value fe)(hO:mem O i=true)(h:Sub O' O=true:=by rfl)
  (hs:zaV value (some (.Subscript o k pos')) pos.line X.env=pure false:=by rfl) (hs2:swapsWithSole [.Subscript o k pos'] value pos.line X.env=pure false:=by rfl) (hw:swappedStores [.Subscript o k pos'] value X.env=pure none:=by rfl)
  (hg:∀ {to ti:TE} {t:TSet},PE X o to->PE X k ti->PSet X t->PG X (.Subscript o k pos') (gSub to ti t):=by intro _ _ _ a b c;exact qlJ a b c) :
  PSD X L O (.Assign [.Subscript o k pos'] value pos) (sPut i fk fe) O':=
 PS.mono (PS.or (qn8 hu ho hk hv hs) (qmi hv (hg ho hk set_list) hs2 hw)) <| by
  rintro T σ H ⟨H0,A0,A,E,ρ,out,st,e,p⟩
  obtain⟨z,ez,e⟩:=bind_some e
  obtain⟨x,ex,e⟩:=bind_some e
  obtain⟨y,ey,e⟩:=bind_some e
  obtain⟨d,ed,rfl⟩:=map_some e
  obtain⟨a,e1,e2,e3,e4⟩:=st.own i _ (qah ex) (qd5 hO)
  cases x with
  | dK l=>
   obtain⟨kk,e5,e6⟩:=bind_some ed
   by_cases hz:szOk l.length=true
   ·rw[if_pos hz]at e6;cases e6
    refine .inl ⟨H0,A0,A,E,ρ,z,st,ez,λv H1 x1 r1=>⟨_,e1,H0,A0,A,E,ρ,y,st.mono x1,ey,λw H2 x2 r2=>?_⟩⟩
    have x12:=x1.trans x2
    cases e4 with
    | @dK _ _ xs h4 ee r4=>
     have hu:=x12.ow _ _ e2 h4
     have hl:xs.length=l.length:=by have:=congrArg zbr ee;simpa using this
     have:=qeP e5 r2
     subst this
     refine⟨a,_,rfl,DPut.k hu (by rw[hl];exact qeI hz),?_⟩
     obtain⟨e7,r7⟩:=qkL (qj3 kk (r1.ext x2) (qhW ee (r4.ext x12)))
     obtain⟨A',st'⟩:=((st.mono x12).write (o:=.dK _) (qah ex) (qd5 hO) e1 e2 e3 hu trivial (.dK ql e7 (r7.put e2 hu trivial))).shut (Sub.mem h)
     exact p A' σ _ st'
   ·rw[if_neg hz]at e6;cases e6
  | dT l=>
   obtain⟨kk,e5,e6⟩:=bind_some ed
   by_cases hz:szOk l.length=true
   ·rw[if_pos hz]at e6;cases e6
    refine .inl ⟨H0,A0,A,E,ρ,z,st,ez,λv H1 x1 r1=>⟨_,e1,H0,A0,A,E,ρ,y,st.mono x1,ey,λw H2 x2 r2=>?_⟩⟩
    have x12:=x1.trans x2
    cases e4 with
    | @dT _ _ xs h4 ee r4=>
     have hu:=x12.ow _ _ e2 h4
     have hl:xs.length=l.length:=by have:=congrArg zbr ee;simpa using this
     obtain⟨b,rfl,hb⟩:=qez e5 r2
     refine⟨a,_,rfl,DPut.t hu hb (by rw[hl];exact qeI hz),?_⟩
     obtain⟨e7,r7⟩:=qkL (qj3 kk (r1.ext x2) (qhW ee (r4.ext x12)))
     obtain⟨A',st'⟩:=((st.mono x12).write (o:=.dT _) (qah ex) (qd5 hO) e1 e2 e3 hu trivial (.dT ql e7 (r7.put e2 hu trivial))).shut (Sub.mem h)
     exact p A' σ _ st'
   ·rw[if_neg hz]at e6;cases e6
  | lst l=>
   obtain⟨kk,e5,e6⟩:=bind_some ed
   obtain⟨j,e7,rfl⟩:=map_some e6
   refine .inr ⟨H0,A0,A,E,ρ,z,st,ez,λv H1 x1 r1=>⟨_,e1,H0,A0,A,E,ρ,y,st.mono x1,ey,λw H2 x2 r2=>?_⟩⟩
   have x12:=x1.trans x2
   cases e4 with
   | @lst _ _ xs h4 r4=>
    have hu:=x12.ow _ _ e2 h4
    rw[qey e5]at r2
    have:=r2.int_inv
    subst this
    refine⟨a,xs,kk,j,rfl,rfl,hu,by rw[r4.length];exact e7,?_⟩
    obtain⟨A',st'⟩:=((st.mono x12).write (o:=.lst _) (qah ex) (qd5 hO) e1 e2 e3 hu trivial (.lst ql (((r4.ext x12).set j (r1.ext x2)).put e2 hu trivial))).shut (Sub.mem h)
    exact p A' σ _ st'
  | _=>cases ed
noncomputable def dI2(g:Int->Int->Option D):D->D->Option D
 | .int i,.int j=>g i j
 | _,_=>none
theorem qeR{g:Int->Int->Option D}{x y d:D}(h:dI2 g x y=some d):∃i j,x=.int i/\y=.int j/\g i j=some d:=by
 cases x <;> cases y <;> first|(cases h;done)|exact⟨_,_,rfl,rfl,h⟩
theorem qgP{f:Value->Value->Sem Value}{C:Int->Int->Prop}[∀i j,Decidable (C i j)]{g:Int->Int->Int}(h:OpR X f (rI C λi j=>.int (g i j))):OpX X f (dI2 λi j=>if C i j then some (.int (g i j))else none):=
 OpR.mono h <| by
  rintro x y H Q ⟨A,dx,dy,d,lv,rx,ry,e,q⟩
  obtain⟨i,j,rfl,rfl,e'⟩:=qeR e
  have:=rx.int_inv;subst this
  have:=ry.int_inv;subst this
  by_cases hc:C i j
  ·rw[if_pos hc]at e';cases e'
   exact⟨i,j,rfl,rfl,hc,q _ H (Ext.refl _ _) (.int _)⟩
  ·rw[if_neg hc]at e';cases e'
theorem qmQ{f:Value->Value->Sem Value}{g:Int->Int->Int}(h:OpR X f (rI0 λi j=>.int (g i j))):OpX X f (dI2 λi j=>some (.int (g i j))):=
 OpR.mono h <| by
  rintro x y H Q ⟨A,dx,dy,d,lv,rx,ry,e,q⟩
  obtain⟨i,j,rfl,rfl,e⟩:=qeR e
  have:=rx.int_inv;subst this
  have:=ry.int_inv;subst this
  cases e
  exact⟨i,j,rfl,rfl,q _ H (Ext.refl _ _) (.int _)⟩
theorem qgC{f:Value->Value->Sem Value}{g:Int->Int->Bool}(h:OpR X f (rI0 λi j=>.bl (g i j))):OpX X f (dI2 λi j=>some (.bl (g i j))):=
 OpR.mono h <| by
  rintro x y H Q ⟨A,dx,dy,d,lv,rx,ry,e,q⟩
  obtain⟨i,j,rfl,rfl,e⟩:=qeR e
  have:=rx.int_inv;subst this
  have:=ry.int_inv;subst this
  cases e
  exact⟨i,j,rfl,rfl,q _ H (Ext.refl _ _) (.bl _)⟩
instance:∀i j,Decidable (My.CBig i j):=λi j=>by unfold My.CBig;infer_instance
instance:∀i j,Decidable (CDiv i j):=λi j=>by unfold CDiv;infer_instance
instance:∀i j,Decidable (CPow i j):=λi j=>by unfold CPow;infer_instance
noncomputable def dSub:D->D->Option D:=dI2 λi j=>some (.int (i-j))
noncomputable def dMod:D->D->Option D:=dI2 λi j=>if 0<j then some (.int (i%j))else none
noncomputable def dDiv:D->D->Option D:=dI2 λi j=>if CDiv i j then some (.int (i/j))else none
noncomputable def dPow:D->D->Option D:=dI2 λi j=>if CPow i j then some (.int (i^j.toNat))else none
noncomputable def dGtI:D->D->Option D:=dI2 λi j=>some (.bl (decide (j<i)))
noncomputable def dGeI:D->D->Option D:=dI2 λi j=>some (.bl (decide (j<=i)))
theorem qpW:OpX X (zaN .Sub) dSub:=qmQ qpK
theorem qoX:OpX X (zaN .Mod) dMod:=qgP qpO
theorem qoy:OpX X (zaN .FloorDiv) dDiv:=qgP qnF
theorem qoP:OpX X (zaN .Pow) dPow:=qgP qoI
theorem qqo:OpX X (zap .Gt) dGtI:=qgC qqX
theorem qqW:OpX X (zap .GtE) dGeI:=qgC qqA
noncomputable def eNeg(f:Ev):Ev:=λρ=>(f ρ).bind λd=>(asI d).map λi=>.int (-i)
theorem qpi{a:Expr}{pos:Pos}{f:Ev}(ha:PB X O a f):PD X O (.UnaryOp .USub a pos) (eNeg f):=PE.mono (qqz qo4 ha) <| by
 rintro σ H Q ⟨H0,A0,A,E,ρ,d,st,e,q⟩
 obtain⟨x,ex,e⟩:=bind_some e
 obtain⟨i,ei,rfl⟩:=map_some e
 rw[qey ei]at ex
 exact⟨H0,A0,A,E,ρ,_,st,ex,λv H1 x1 r1=>⟨i,r1.int_inv,q _ H1 x1 (.int _)⟩⟩
end
section
variable {X:Cx}{L:Lp}{O O':List Nat}
noncomputable def sBad:Sv:=λ_=>none
theorem qjR{st:Stmt}:PSD X L O st sBad O':=λ_ _ _ _ _ _ ⟨_,_,_,_,_,_,_,e,_⟩=>nomatch e
noncomputable abbrev Gv:=D->Rho->Option Rho
inductive tDG(O:List Nat)(g:Gv)(v:V)(σ:L2.St)(H:Hp)(Q:L2.St->Hp->Prop):Prop
 | mk (H0:Hp) (A0 A:Av) (E:List Fact) (ρ:Rho) (d:D) (ρ':Rho) (st:ST H0 A0 A E O σ H ρ) (r:Rep A H d v) (e:g d ρ=some ρ') (q:∀σ',ST H0 A0 A E O σ' H ρ'->Q σ' H):tDG O g v σ H Q
noncomputable def PDG(X:Cx)(O:List Nat)(tg:Expr)(g:Gv):Prop:=PG X tg (tDG O g)
noncomputable abbrev Gsv:=List D->Rho->Option Rho
inductive tDGs(O:List Nat)(g:Gsv)(vs:List V)(σ:L2.St)(H:Hp)(Q:L2.St->Hp->Prop):Prop
 | mk (H0:Hp) (A0 A:Av) (E:List Fact) (ρ:Rho) (ds:List D) (ρ':Rho) (st:ST H0 A0 A E O σ H ρ) (r:RepL A H ds vs) (e:g ds ρ=some ρ') (q:∀σ',ST H0 A0 A E O σ' H ρ'->Q σ' H):tDGs O g vs σ H Q
noncomputable def PDGs(X:Cx)(O:List Nat)(ts:List Expr)(g:Gsv):Prop:=PGs X ts (tDGs O g)
theorem PG.mono{tg:Expr}{t t':TG}(h:PG X tg t)(x:∀v σ H Q,t' v σ H Q->t v σ H Q):PG X tg t':=λpins s σ H v u Q I r w=>h pins s σ H v u Q I r (x v σ H Q w)
theorem PGs.mono{ts:List Expr}{t t':TGs}(h:PGs X ts t)(x:∀v σ H Q,t' v σ H Q->t v σ H Q):PGs X ts t':=λpins s σ H v u Q I r w=>h pins s σ H v u Q I r (x v σ H Q w)
noncomputable def qx(i:Nat):Gv:=λd ρ=>some (ρ.set i (some d))
theorem qek{i:Nat}{tg:Expr}(h:PG X tg (qgb i))(n:O.contains i=false:=by rfl):PDG X O tg (qx i):=PG.mono h <| by
 rintro v σ H Q ⟨H0,A0,A,E,ρ,d,ρ',st,r,e,q⟩
 cases e
 exact q _ (st.put r λz=>by
  have:O.contains i=true:=by simpa using z
  rw[n]at this;cases this)
noncomputable def qa8:Gsv:=λds ρ=>match ds with
 | []=>some ρ
 | _=>none
noncomputable def qL(g:Gv)(k:Gsv):Gsv:=λds ρ=>match ds with
 | d::ds=>(g d ρ).bind λρ'=>k ds ρ'
 | _=>none
theorem qln:PDGs X O [] qa8:=PGs.mono qnz <| by
 rintro v σ H Q ⟨H0,A0,A,E,ρ,ds,ρ',st,r,e,q⟩
 cases r with
 | nil=>cases e;exact⟨rfl,q _ st⟩
 | cons _ _=>cases e
theorem qjz{e:Expr}{es:List Expr}{g:Gv}{k:Gsv}(hp:∀ {t:TG} {u:TGs},PG X e t->PGs X es u->PGs X (e::es) (qpG t u))(h1:PDG X O e g)(h2:PDGs X O es k):PDGs X O (e::es) (qL g k):=
 PGs.mono (hp h1 h2) <| by
  rintro v σ H Q ⟨H0,A0,A,E,ρ,ds,ρ',st,r,e,q⟩
  cases r with
  | nil=>cases e
  | cons h t=>
   obtain⟨ρ1,e1,e⟩:=bind_some e
   exact⟨_,_,rfl,H0,A0,A,E,ρ,_,ρ1,st,h,e1,λσ1 st1=>⟨H0,A0,A,E,ρ1,_,ρ',st1,t,e,q⟩⟩
noncomputable def qaQ(n:Nat)(k:Gsv):Gv:=λd ρ=>match d with
 | .tup l=>if l.length=n then k l ρ else none
 | _=>none
theorem qnq{tg:Expr}{n:Nat}{k:Gsv}(hp:PG X tg (gTup X.K n (tDGs O k))):PDG X O tg (qaQ n k):=PG.mono hp <| by
 rintro v σ H Q ⟨H0,A0,A,E,ρ,d,ρ',st,r,e,q⟩
 cases d with
 | tup l=>
  obtain⟨a,xs,rfl,h,rl⟩:=RepB.tup_inv (.of r)
  by_cases hn:l.length=n
  ·simp only[qaQ,if_pos hn]at e
   exact⟨a,xs,rfl,.inl (.inl h),by rw[rl.length];exact hn,H0,A0,A,E,ρ,l,ρ',st,rl,e,q⟩
  ·simp only[qaQ,if_neg hn]at e;cases e
 | _=>cases e
noncomputable def sAsg(f:Ev)(g:Gv):Sv:=λρ=>(f ρ).bind λd=>(g d ρ).map .nx
theorem qdc{tg e:Expr}{pos:Pos}{f:Ev}{g:Gv}(he:PD X O e f)(hg:PDG X O tg g)(hs:swapsWithSole [tg] e pos.line X.env=pure false:=by rfl)(hw:swappedStores [tg] e X.env=pure none:=by rfl)(h:Sub O' O=true:=by rfl)(h1:(za2 [tg] X.env).map (·.2)=[assign tg X.env]:=by rfl)(h1:(za2 [tg] X.env).map (·.2)=[assign tg X.env]:=by rfl)(h1:(za2 [tg] X.env).map (·.2)=[assign tg X.env]:=by rfl)(h1:(za2 [tg] X.env).map (·.2)=[assign tg X.env]:=by rfl):PSD X L O (.Assign [tg] e pos) (sAsg f g) O':=
 PS.mono (qmi he hg hs hw h1) <| by
  rintro T σ H ⟨H0,A0,A,E,ρ,out,st,e,p⟩
  obtain⟨d,e1,e⟩:=bind_some e
  obtain⟨ρ',e2,rfl⟩:=map_some e
  refine⟨H0,A0,A,E,ρ,d,st,e1,λv H' x r=>⟨H0,A0,A,E,ρ,d,ρ',st.mono x,r,e2,λσ' st'=>?_⟩⟩
  obtain⟨A',st''⟩:=st'.shut (Sub.mem h)
  exact p A' σ' H' st''
noncomputable def ItOk(J:It)(E1:List Fact)(items:List D):Prop:=
 ∀(A:Av) (H:Hp),Live A H->(∀p∈E1,p.Holds A H)->∀i,(items.length<=i->J.stop i H)/\∀d,items[i]?=some d->J.go i H/\∀x H',J.yld i H x H'->Ext A H H'/\Rep A H' d x
inductive tDI(O:List Nat)(f:Lv)(σ:L2.St)(H:Hp)(R:It->Hp->Prop):Prop
 | mk (H0:Hp) (A0 A:Av) (E:List Fact) (ρ:Rho) (items:List D) (st:ST H0 A0 A E O σ H ρ) (e:f ρ=some items) (q:∀J H' E1,Ext A H H'->(∀p∈E1,p.Holds A H')->ItOk J E1 items->R J H'):tDI O f σ H R
noncomputable def PDI(X:Cx)(O:List Nat)(tg e:Expr)(f:Lv):Prop:=PI X tg e (tDI O f)
theorem PI.mono{tg e:Expr}{t t':TI}(h:PI X tg e t)(x:∀σ H Q,t' σ H Q->t σ H Q):PI X tg e t':=λpins s σ H Q I w=>h pins s σ H Q I (x σ H Q w)
theorem PI.or{tg e:Expr}{t u:TI}(h:PI X tg e t)(k:PI X tg e u):PI X tg e (λσ H Q=>t σ H Q\/u σ H Q):=λpins s σ H Q I w=>w.elim (h pins s σ H Q I) (k pins s σ H Q I)
theorem qnw{a:Addr}{l:List D}{K:zae}:ItOk (Itl K a) [.rep (.lst l) (.ref a)] l:=by
 intro A H lv h i
 have r:Rep A H (.lst l) (.ref a):=h _ (List.mem_singleton.mpr rfl)
 obtain⟨a',xs,e,h1,rl⟩:=RepB.lst_inv (.of r)
 cases e
 refine⟨λhi=>⟨xs,.inl h1,by rw[rl.length];exact hi⟩,λd hd=>?_⟩
 obtain⟨v,e1,r1⟩:=rl.get' hd
 refine⟨⟨xs,v,.inl h1,e1⟩,λx H' y=>?_⟩
 obtain⟨rfl,y⟩:=y
 have:=y xs (.inl h1)
 rw[e1]at this;cases this
 exact⟨Ext.refl _ _,r1⟩
theorem qpN{a:Addr}{l:List D}{K:zae}:ItOk (Itt K a) [.rep (.tup l) (.ref a)] l:=by
 intro A H lv h i
 have r:Rep A H (.tup l) (.ref a):=h _ (List.mem_singleton.mpr rfl)
 obtain⟨a',xs,e,h1,rl⟩:=RepB.tup_inv (.of r)
 cases e
 refine⟨λhi=>⟨xs,.inl (.inl h1),by rw[rl.length];exact hi⟩,λd hd=>?_⟩
 obtain⟨v,e1,r1⟩:=rl.get' hd
 refine⟨⟨xs,v,.inl (.inl h1),e1⟩,λx H' y=>?_⟩
 obtain⟨rfl,y⟩:=y
 have:=y xs (.inl (.inl h1))
 rw[e1]at this;cases this
 exact⟨Ext.refl _ _,r1⟩
noncomputable def qF(lo c:Int)(n:Nat):List D:=(zav n).map λ(i:Nat)=>.int (lo+(i:Int)*c)
theorem qJ(lo c:Int)(n:Nat):(qF lo c n).length=n:=by simp[qF]
theorem qK{lo c:Int}{n i:Nat}{d:D}(h:(qF lo c n)[i]?=some d):i<n/\d=.int (lo+(i:Int)*c):=by
 unfold qF at h
 rw[zax]at h
 by_cases hi:i<n
 ·rw[List.getElem?_range hi]at h;cases h;exact⟨hi,rfl⟩
 ·rw[List.getElem?_eq_none (by simpa using hi)]at h;cases h
theorem qi2{lo c:Int}{n:Nat}:ItOk (My.ItrS lo c n) [] (qF lo c n):=by
 intro A H lv h i
 refine⟨λhi=>by rw[qJ]at hi;exact hi,λd hd=>?_⟩
 obtain⟨hi,rfl⟩:=qK hd
 exact⟨hi,λx H' ⟨e,y⟩=>by subst e y;exact⟨Ext.refl _ _,.int _⟩⟩
theorem qg9{lo:Int}{n:Nat}:ItOk (Itr lo n) [] (qF lo 1 n):=by
 intro A H lv h i
 refine⟨λhi=>by rw[qJ]at hi;exact hi,λd hd=>?_⟩
 obtain⟨hi,rfl⟩:=qK hd
 exact⟨hi,λx H' ⟨e,y⟩=>by subst e y;rw[Int.mul_one];exact⟨Ext.refl _ _,.int _⟩⟩
noncomputable def qaw(i:Int):Bool:=decide (-1000000<=i) && decide (i<=1000000)
noncomputable def qaz:List D->Option (List D)
 | [.int j]=>if qaw j then some (qF 0 1 j.toNat)else none
 | _=>none
noncomputable def qaN:List D->Option (List D)
 | [.int i,.int j]=>if qaw i && qaw j then some (qF i 1 (j-i).toNat)else none
 | _=>none
noncomputable def qaV:List D->Option (List D)
 | [.int i,.int j,.int c]=>if c≠0/\c.natAbs<1000/\zbE i j c=true then some (qF i c (My.rsz i j c))else none
 | _=>none
theorem qaL{i:Int}(h:qaw i=true):-(2^62)<=i/\i<2^62:=by
 simp only[qaw,zaC,decide_eq_true_eq]at h
 omega
noncomputable def lR(g:List D->Option (List D))(f:Lv):Lv:=λρ=>(f ρ).bind g
theorem RL.one{R:RR}{A:Av}{H:Hp}{d:D}{vs:List V}(r:RL R A H [d] vs):∃v,vs=[v]/\R A H d v:=by
 cases r with|cons h t=>cases t;exact⟨_,rfl,h⟩
theorem RL.two{R:RR}{A:Av}{H:Hp}{d e:D}{vs:List V}(r:RL R A H [d,e] vs):∃v w,vs=[v,w]/\R A H d v/\R A H e w:=by
 cases r with|cons h t=>obtain⟨w,rfl,h2⟩:=RL.one t;exact⟨_,w,rfl,h,h2⟩
theorem RL.three{R:RR}{A:Av}{H:Hp}{d e f:D}{vs:List V}(r:RL R A H [d,e,f] vs):∃v w u,vs=[v,w,u]/\R A H d v/\R A H e w/\R A H f u:=by
 cases r with|cons h t=>obtain⟨w,u,rfl,h2,h3⟩:=RL.two t;exact⟨_,w,u,rfl,h,h2,h3⟩
theorem qeW{ds l:List D}(h:qaz ds=some l):∃j,ds=[.int j]/\qaw j=true/\l=qF 0 1 j.toNat:=by
 unfold qaz at h
 split at h
 ·split at h
  ·cases h;exact⟨_,rfl,by assumption,rfl⟩
  ·cases h
 ·cases h
theorem qfx{ds l:List D}(h:qaN ds=some l):∃i j,ds=[.int i,.int j]/\qaw i=true/\qaw j=true/\l=qF i 1 (j-i).toNat:=by
 unfold qaN at h
 split at h
 ·split at h
  ·rename_i hh
   cases h;exact⟨_,_,rfl,(zaC _ _ ▸ hh).1,(zaC _ _ ▸ hh).2,rfl⟩
  ·cases h
 ·cases h
theorem qfi{ds l:List D}(h:qaV ds=some l):∃i j c,ds=[.int i,.int j,.int c]/\(c≠0/\c.natAbs<1000/\zbE i j c=true)/\l=qF i c (My.rsz i j c):=by
 unfold qaV at h
 split at h
 ·split at h
  ·cases h;exact⟨_,_,_,rfl,by assumption,rfl⟩
  ·cases h
 ·cases h
section
variable {tg a b c:Expr}{f:Lv}{p pos:Pos}
theorem qh2(hg:Gl X "range")(hm:X.mg "range" = none)(ha:PBA X O [a] f)(hs:zaf [a] X.env=[(false,eval a X.env)]:=by rfl):PDI X O tg (.Call (.Name "range" p) [a] [] pos) (lR qaz f):=PI.mono (qiX hg hm ha hs) <| by
 rintro σ H R ⟨H0,A0,A,E,ρ,items,st,e,q⟩
 obtain⟨ds,e1,e⟩:=bind_some e
 refine⟨H0,A0,A,E,ρ,ds,st,e1,λvs H1 x1 r1=>?_⟩
 obtain⟨j,rfl,h,rfl⟩:=qeW e
 obtain⟨v,rfl,h1⟩:=r1.one
 have:=h1.int_inv;subst this
 exact⟨j,rfl,(qaL h).1,(qaL h).2,q _ H1 [] x1 (λ_ h=>nomatch h) qg9⟩
theorem qic(hg:Gl X "range")(hm:X.mg "range" = none)(ha:PBA X O [a,b] f)(hs:zaf [a,b] X.env=[(false,eval a X.env),(false,eval b X.env)]:=by rfl)(hs2:zaf [b] X.env=[(false,eval b X.env)]:=by rfl):PDI X O tg (.Call (.Name "range" p) [a,b] [] pos) (lR qaN f):=PI.mono (qjK hg hm ha hs hs2) <| by
 rintro σ H R ⟨H0,A0,A,E,ρ,items,st,e,q⟩
 obtain⟨ds,e1,e⟩:=bind_some e
 refine⟨H0,A0,A,E,ρ,ds,st,e1,λvs H1 x1 r1=>?_⟩
 obtain⟨i,j,rfl,h,h',rfl⟩:=qfx e
 obtain⟨v,w,rfl,h1,h2⟩:=r1.two
 have:=h1.int_inv;subst this
 have:=h2.int_inv;subst this
 exact⟨i,j,rfl,⟨(qaL h).1,(qaL h).2,(qaL h').1,(qaL h').2⟩,q _ H1 [] x1 (λ_ h=>nomatch h) qg9⟩
theorem qh3(hg:Gl X "range")(hm:X.mg "range" = none)(ha:PBA X O [a,b,c] f)(hs:zaf [a,b,c] X.env=[(false,eval a X.env),(false,eval b X.env),(false,eval c X.env)]:=by rfl)(hs2:zaf [b,c] X.env=[(false,eval b X.env),(false,eval c X.env)]:=by rfl):PDI X O tg (.Call (.Name "range" p) [a,b,c] [] pos) (lR qaV f):=PI.mono (My.qir hg hm ha hs hs2) <| by
 rintro σ H R ⟨H0,A0,A,E,ρ,items,st,e,q⟩
 obtain⟨ds,e1,e⟩:=bind_some e
 refine⟨H0,A0,A,E,ρ,ds,st,e1,λvs H1 x1 r1=>?_⟩
 obtain⟨i,j,c',rfl,h,rfl⟩:=qfi e
 obtain⟨v,w,u,rfl,h1,h2,h3⟩:=r1.three
 have:=h1.int_inv;subst this
 have:=h2.int_inv;subst this
 have:=h3.int_inv;subst this
 exact⟨i,j,c',rfl,h,q _ H1 [] x1 (λ_ h=>nomatch h) qi2⟩
end
noncomputable def keyD:Key->D
 | .inl i=>.int i
 | .inr x=>.str x
noncomputable def lSeq(f:Ev):Lv:=λρ=>(f ρ).bind λd=>match d with
 | .lst l=>some l
 | .tup l=>some l
 | .dT l=>some (l.map λp=>.tup (p.1.map keyD))
 | _=>none
theorem qeM{A:Av}{H:Hp}:∀k:List Key,RepL A H (k.map keyD) (k.map kV)
 | []=>.nil
 | .inl i::k=>.cons (.int i) (qeM k)
 | .inr x::k=>.cons (.str x) (qeM k)
noncomputable def qov(tl:TE):TI:=λσ H R=>tl σ H λx H1=>∃d kvs,x=.ref d/\((H1 d=some (.dT kvs)/\∀o,R (My.ItD d o kvs) (upd H1 d (.frz o (.dT kvs))))\/∃o,H1 d=some (.frz o (.dT kvs))/\R (My.ItD d o kvs) H1)
theorem qlr{tg l:Expr}{tl:TE}(hl:PE X l tl):PI X tg l (qov tl):=by
 intro pins s σ H R I h
 refine thn (hl pins s σ H _ I h) λv s1 ⟨x,H1,I1,r1,q1⟩=>?_
 obtain⟨d,kvs,rfl,q⟩:=q1
 cases r1
 have key:∀(o:Obj) (H2:Hp),(d == za6)=false->Inv X pins σ H2 s1->s1.heap.get? d=some o->ObjOk X.prog X.w H2 s1.heap d (.dT kvs)->R (My.ItD d o kvs) H2->wpAny (model X.prog X.w) X.A (pyIter (.ref d)) (PIE X pins σ tg R) X.xe s1:=λo H2 lo I2 ho ok q=>by
  obtain⟨_,_,es,ep,⟨o',r1,r2,r3⟩,hes,_⟩:=My.qfr ok
  rw[ho]at r1;cases r1
  refine My.qkO lo ⟨o,ho,r2,r3⟩ ?_
  refine⟨s1.heap.objs.size,[s1.heap.objs.size],_,_,_,rfl,I2.kept (t':=s1.toks) λb o e=>zag _ e,My.qj0 d _ o kvs es ep r3 hes,⟨_,zat _ rfl,rfl,rfl⟩,λb hb=>?_,q⟩
  have e:b=s1.heap.objs.size:=by simpa using hb
  subst e
  exact I2.fpOk (zam _) (I2.hok.fresh (zam _))
 rcases q with⟨hd,q⟩|⟨o,hd,q⟩
 ·have ok:=(show ObjOk X.prog X.w H1 s1.heap d (.dT kvs)from I1.hok d _ hd)
  obtain⟨lo,_,es,ep,⟨o,r1,r2,r3⟩,hes,_⟩:=My.qfr ok
  have I2:=My.qhT I1 hd r1
  have ok2:=(show ObjOk X.prog X.w _ s1.heap d (.frz o (.dT kvs))from I2.hok d _ ql)
  exact key o _ lo I2 r1 ok2.2 (q o)
 ·have ok:=(show ObjOk X.prog X.w H1 s1.heap d (.frz o (.dT kvs))from I1.hok d _ hd)
  obtain⟨lo,_⟩:=My.qfr ok.2
  exact key o H1 lo I1 ok.1 ok.2 q
theorem qiK{a:Addr}{o:Obj}{xs:List (List Key×V)}{l:List (List Key×D)}(e:xs.map (·.1)=l.map (·.1)):ItOk (My.ItD a o xs) [.fz a o (.dT xs)] (l.map λp=>.tup (p.1.map keyD)):=by
 intro A H lv h i
 have hf:H a=some (.frz o (.dT xs)):=h _ (List.mem_singleton.mpr rfl)
 have hl:xs.length=l.length:=by have:=congrArg zbr e;simpa using this
 refine⟨λhi=>⟨hf,by rw[zan]at hi;omega⟩,λd hd=>?_⟩
 rw[zax]at hd
 obtain⟨p,e1,rfl⟩:=map_some hd
 have hi:i<l.length:=(List.getElem?_eq_some_iff.mp e1).1
 refine⟨⟨hf,by omega⟩,λx H' ⟨e2,k,v,b,e3,e4,e5⟩=>?_⟩
 subst e2 e4
 have:k=p.1:=by
  have h1:(xs.map (·.1))[i]?=some k:=by rw[zax,e3];rfl
  rw[e,zax,e1]at h1
  exact(zaA h1).symm
 subst this
 exact⟨Ext.refl _ _,.tup e5 (qeM _)⟩
theorem qmN{A:Av}{H:Hp}{d:Addr}{o:Obj}{u:HO}(n:¬ A d)(hd:H d=some u)(ob:Obs u)(nk:¬ Kp u):Ext A H (upd H d (.frz o u)) where
 rd:=λb w r=>by
  by_cases e:b=d
  ·subst e
   rcases r with r|⟨q,r⟩
   ·rw[hd]at r;cases r;exact .inr ⟨o,ql⟩
   ·rw[hd]at r;cases r;exact ob.elim
  ·exact qba e r
 kp:=λb w k r=>by rw[qi (λz=>by subst z;rw[hd]at r;cases r;exact nk k)];exact r
 ow:=λb w hb r=>by rw[qi (λz=>n (by rw[<- z];exact hb))];exact r
 fz:=λb q w r=>by rw[qi (λz=>by subst z;rw[hd]at r;cases r;exact ob)];exact r
theorem qn1{tg e:Expr}{f:Ev}(h:PD X O e f):PDI X O tg e (lSeq f):=PI.mono (PI.or (PI.or (qnb h) (qpb h)) (qlr h)) <| by
 rintro σ H R ⟨H0,A0,A,E,ρ,items,st,e,q⟩
 obtain⟨d,e1,e⟩:=bind_some e
 cases d with
 | lst l=>
  cases e
  refine .inl (.inl ⟨H0,A0,A,E,ρ,_,st,e1,λv H1 x1 r1=>?_⟩)
  obtain⟨a,xs,rfl,h1,rl⟩:=RepB.lst_inv (.of r1)
  exact⟨a,rfl,⟨xs,.inl h1⟩,q _ H1 [.rep (.lst items) (.ref a)] x1 (λp hp=>by rw[List.mem_singleton.mp hp];exact r1) qnw⟩
 | tup l=>
  cases e
  refine .inl (.inr ⟨H0,A0,A,E,ρ,_,st,e1,λv H1 x1 r1=>?_⟩)
  obtain⟨a,xs,rfl,h1,rl⟩:=RepB.tup_inv (.of r1)
  exact⟨a,rfl,⟨xs,.inl (.inl h1)⟩,q _ H1 [.rep (.tup items) (.ref a)] x1 (λp hp=>by rw[List.mem_singleton.mp hp];exact r1) qpN⟩
 | dT l=>
  cases e
  refine .inr ⟨H0,A0,A,E,ρ,_,st,e1,λv H1 x1 r1=>?_⟩
  cases r1 with
  | @dT _ a xs n h ee rl=>
   refine⟨a,xs,rfl,?_⟩
   rcases h with h|⟨o,h⟩
   ·refine .inl ⟨h,λo=>q _ _ [.fz a o (.dT xs)] (x1.trans (qmN n h trivial λz=>z)) (λp hp=>by rw[List.mem_singleton.mp hp];exact ql) (qiK ee)⟩
   ·exact .inr ⟨o,h,q _ H1 [.fz a o (.dT xs)] x1 (λp hp=>by rw[List.mem_singleton.mp hp];exact h) (qiK ee)⟩
 | _=>cases e
noncomputable def forD(g:Gv)(body:Sv):List D->Rho->Option Out
 | [],ρ=>some (.nx ρ)
 | x::xs,ρ=>(g x ρ).bind λρ1=>(body ρ1).bind λo=>match o with
  | .nx ρ2=>forD g body xs ρ2
  | .ct ρ2=>forD g body xs ρ2
  | .bk ρ2=>some (.nx ρ2)
  | .rt d=>some (.rt d)
noncomputable def sFor(f:Lv)(g:Gv)(body:Sv):Sv:=λρ=>(f ρ).bind λitems=>forD g body items ρ
theorem ST.both{H0:Hp}{A0 A:Av}{E E1:List Fact}{σ:L2.St}{H:Hp}{ρ:Rho}(s:ST H0 A0 A E O σ H ρ)(h:∀p∈E1,p.Holds A H):ST H0 A0 A (E1++E) O σ H ρ:=
 {s with ext:=λp hp=>by rcases List.mem_append.mp hp with e|e;exact h p e;exact s.ext p e}
theorem qnR{tg iter:Expr}{body:List Stmt}{pos:Pos}{f:Lv}{g:Gv}{b:Sv}{O1 Ob:List Nat}(hp:PassesOwn (model X.prog X.w) X.A X.env X.xe)(hc:X.calm=true)(hi:PDI X O tg iter f)(hg:PDG X O1 tg g)(hb:PSDs X ⟨Ob,O1⟩ O1 body b O1)(h1:Sub O1 O=true)(h2:Sub O' O1=true)(h3:Sub O' Ob=true)
  (hs:∀x,zbq iter X.env x=pure x:=by intro _;rfl):PSD X L O (.For tg iter body [] pos) (sFor f g b) O':=PS.mono (qo1 hp hc hi hg hb hs) λT σ H ⟨H0,A0,A,E,ρ,out,st,e,p⟩=>by
 obtain⟨items,e1,e⟩:=bind_some e
 refine⟨H0,A0,A,E,ρ,items,st,e1,λJ H1 E1 x1 hE1 J1=>?_⟩
 obtain⟨A1,st1⟩:=((st.mono x1).both hE1).shut (Sub.mem h1)
 refine⟨λi m σ H=>m=items.length-i/\i<=items.length/\∃ρ A,ST H0 A0 A (E1++E) O1 σ H ρ/\forD g b (items.drop i) ρ=some out,⟨items.length,by simp,zaX _,ρ,A1,st1,e⟩,?_⟩
 rintro i m σ H ⟨rfl,hle,ρ,A,st,e⟩
 have hE:∀p∈E1,p.Holds A H:=λp hp=>st.ext p (List.mem_append_left _ hp)
 obtain⟨stop,go⟩:=J1 A H st.live hE i
 have fin:∀ {O2:List Nat} {A:Av} {σ:L2.St} {H:Hp} {ρ:Rho},Sub O' O2=true->ST H0 A0 A (E1++E) O2 σ H ρ->(∀A σ H,ST H0 A0 A E O' σ H ρ->T.nx σ H)->T.nx σ H:=λhs st k=>by
  obtain⟨A2,st2⟩:=(st.less (E':=E) λq hq=>zbi _ hq).shut (Sub.mem hs)
  exact k A2 _ _ st2
 by_cases hlt:i<items.length
 ·have ed:items[i]?=some items[i]:=by simp[hlt]
  obtain⟨hgo,hy⟩:=go _ ed
  rw[List.drop_eq_getElem_cons hlt]at e
  obtain⟨ρ1,eg,e⟩:=bind_some e
  obtain⟨o,eo,e⟩:=bind_some e
  refine .inr ⟨hgo,λσ' H'=>∃ρ2 A2,ST H0 A0 A2 (E1++E) O1 σ' H' ρ2/\forD g b (items.drop (i+1)) ρ2=some out,λσ' H' ⟨ρ2,A2,s2,e2⟩=>⟨items.length-(i+1),by omega,rfl,hlt,ρ2,A2,s2,e2⟩,λx H' y=>?_⟩
  obtain⟨x2,r2⟩:=hy x H' y
  refine⟨H0,A0,A,E1++E,ρ,_,ρ1,st.mono x2,r2,eg,λσ1 s1=>⟨H0,A0,A,E1++E,ρ1,o,s1,eo,?_⟩⟩
  cases o with
  | nx ρ2=>exact λA2 σ2 H2 s2=>⟨ρ2,A2,s2,e⟩
  | ct ρ2=>exact λA2 σ2 H2 s2=>⟨ρ2,A2,s2,e⟩
  | bk ρ2=>cases e;exact λA2 σ2 H2 s2=>fin h3 s2 p
  | rt d=>cases e;exact p
 ·have hi':i=items.length:=by omega
  subst hi'
  rw[List.drop_length]at e
  cases e
  exact .inl ⟨stop (zam _),fin h2 st p⟩
end
noncomputable def clOf(cells:List (Str×Addr)):List (Str×NameKind)->List (Str×Addr)->List (Str×Addr)
 | [],cs=>cs
 | (x,k)::r,cs=>clOf cells r (if k == .free then(x,(cells.lookup x).getD 0)::cs else cs)
theorem qe6{env:Env}:∀(names:List (Str×NameKind)) (cs:List (Str×Addr)),(∀y∈names,y.2=.free->∃c,env.cells.lookup y.1=some c)->
  (forIn names cs (λ(p:Str×NameKind) (r:List (Str×Addr))=>if(p.2 == .free)=true then(do let c <- cellOf env p.1;pure (ForInStep.yield ((p.1,c)::r)))else(pure (ForInStep.yield r):Sem _)))=(pure (clOf env.cells names cs):Sem _)
 | [],cs,_=>by simp[clOf]
 | (x,k)::r,cs,h=>by
  have ih:=λcs=>qe6 r cs λy hy=>h y (zaz _ hy)
  rw[List.forIn_cons]
  by_cases e:(k == zbH)=true
  ·have e':k=.free:=by simpa using e
   obtain⟨c,hc⟩:=h (x,k) (zay ..) e'
   have hc':env.cells.lookup x=some c:=hc
   simp only[e,if_true,clOf]
   have:cellOf env x=pure c:=by unfold cellOf;rw[hc']
   rw[this]
   simp only[pure_bind,hc',Option.getD_some]
   exact ih _
  ·simp only[e,clOf]
   simp only[zby,if_false,pure_bind]
   exact ih _
theorem qne{scope:Scope}{env:Env}(h:∀y∈scope.names,y.2=.free->∃c,env.cells.lookup y.1=some c):closureFor scope env=pure (clOf env.cells scope.names []):=by
 have:=qe6 scope.names [] h
 unfold closureFor
 simp only[bind_pure]
 exact this
theorem qgV{cells:List (Str×Addr)}{x:Str}:∀ {names:List (Str×NameKind)} {cs:List (Str×Addr)} {c:Addr},(clOf cells names cs).lookup x=some c->(∃c',cs.lookup x=some c'/\c=c')\/((x,zbH)∈names/\c=(cells.lookup x).getD 0)
 | [],cs,c,h=>.inl ⟨c,h,rfl⟩
 | (y,k)::r,cs,c,h=>by
  rw[clOf]at h
  rcases qgV h with⟨c',h1,h2⟩|⟨h1,h2⟩
  ·by_cases e:(k == zbH)=true
   ·rw[if_pos e,List.lookup_cons]at h1
    by_cases ex:(x == y)=true
    ·rw[ex]at h1
     have exy:x=y:=by simpa using ex
     have ek:k=.free:=by simpa using e
     subst exy ek
     cases h1
     exact .inr ⟨zay ..,h2⟩
    ·rw[Bool.not_eq_true]at ex
     rw[ex]at h1
     exact .inl ⟨c',h1,h2⟩
   ·rw[if_neg e]at h1
    exact .inl ⟨c',h1,h2⟩
  ·exact .inr ⟨zaz _ h1,h2⟩
theorem qg0{cells:List (Str×Addr)}{x:Str}:∀ {names:List (Str×NameKind)} {cs:List (Str×Addr)},((x,zbH)∈names\/∃c,cs.lookup x=some c)->∃c,(clOf cells names cs).lookup x=some c
 | [],cs,h=>h.elim (λh=>nomatch h) id
 | (y,k)::r,cs,h=>by
  rw[clOf]
  apply qg0
  rcases h with h|⟨c,h⟩
  ·rcases List.mem_cons.mp h with e|e
   ·cases e
    refine .inr ⟨(cells.lookup x).getD 0,?_⟩
    simp[List.lookup_cons]
   ·exact .inl e
  ·right
   by_cases e:(k == zbH)=true
   ·rw[if_pos e,List.lookup_cons]
    by_cases ex:(x == y)=true
    ·rw[ex];exact⟨_,rfl⟩
    ·rw[Bool.not_eq_true]at ex;rw[ex];exact⟨c,h⟩
   ·rw[if_neg e];exact⟨c,h⟩
theorem qaB{α:Type}{x:Str}{v:α}:∀ {l:List (Str×α)},l.lookup x=some v->(x,v)∈l
 | (y,w)::r,h=>by
  rw[List.lookup_cons]at h
  by_cases ex:(x == y)=true
  ·rw[ex]at h;cases h;rw[show x=y by simpa using ex];exact zay ..
  ·rw[Bool.not_eq_true]at ex;rw[ex]at h;exact zaz _ (qaB h)
noncomputable def qk9(names outer:List (Str×NameKind)):Bool:=
 names.all λy=>y.2 != .cell && (y.2 != .local || names.lookup y.1 == some .local) && (y.2 != .free || outer.lookup y.1 == some .cell)
theorem qj5{X:Cx}{N:List Str}{scope:Scope}{n:Nat}(hk:scope.kind=.function)(h:qk9 scope.names X.env.scope.names=true)(hc:X.env.cells=cellsFrom n X.env.scope.names []):My.Clo X N scope (clOf X.env.cells scope.names []):=by
 have h':=List.all_eq_true.mp h
 have c1:∀y∈scope.names,y.2≠.cell:=λy hy=>by
  have:=h' y hy;simp only[zaC]at this;simpa using this.1.1
 have c2:∀y∈scope.names,y.2=.local->scope.names.lookup y.1=some .local:=λy hy e=>by
  have:=h' y hy;simp only[zaC,Bool.or_eq_true]at this
  rcases this.1.2 with z|z
  ·rw[e]at z;exact absurd z (by decide)
  ·simpa using z
 have c3:∀y∈scope.names,y.2=.free->∃c,X.env.cells.lookup y.1=some c:=λy hy e=>by
  have:=h' y hy;simp only[zaC,Bool.or_eq_true]at this
  rcases this.2 with z|z
  ·rw[e]at z;exact absurd z (by decide)
  ·rw[hc];exact qew (sc:=X.env.scope) (by simpa using z)
 have free_of:∀x,((relabel scope X.env).names.lookup x=some .cell\/(relabel scope X.env).names.lookup x=some .free)->(x,zbH)∈scope.names:=λx hx=>by
  have key:∀k',(k'=NameKind.cell\/k'=zbH)->(x,k')∈(relabel scope X.env).names->(x,zbH)∈scope.names:=λk' hk' hm=>by
   obtain⟨⟨y,k⟩,hy,e⟩:=List.mem_map.mp hm
   dsimp only at e
   by_cases hcnd:(k == zbH && X.env.scope.kind == .function && X.env.kindOf y == some .cell)=true
   ·rw[if_pos hcnd]at e
    have:k=.free:=by simp only[zaC]at hcnd;simpa using hcnd.1.1
    cases e;subst this;exact hy
   ·rw[if_neg hcnd]at e
    cases e
    rcases hk' with z|z
    ·exact absurd z (c1 _ hy)
    ·subst z;exact hy
  rcases hx with hx|hx
  ·exact key _ (.inl rfl) (qaB hx)
  ·exact key _ (.inr rfl) (qaB hx)
 refine⟨qne c3,hk,c1,c2,λx c e=>?_,λx hx=>qg0 (.inl (free_of x hx))⟩
 rcases qgV e with⟨c',z,_⟩|⟨z1,z2⟩
 ·cases z
 ·obtain⟨c0,hc0⟩:=c3 _ z1 rfl
  have hc0:X.env.cells.lookup x=some c0:=hc0
  rw[z2,hc0];rfl
noncomputable def qat(X:Cx)(scope:Scope):List Str->List (Option Nat)->Prop
 | [],[]=>True
 | _::N,none::ms=>qat X scope N ms
 | x::N,some i::ms=>(X.N[i]?=some x/\((relabel scope X.env).names.lookup x == some NameKind.local)=false/\(X.env.kindOf x=some .cell\/X.env.kindOf x=some .free))/\qat X scope N ms
 | _,_=>False
noncomputable def inS{α:Type}(ms:List (Option Nat))(σ:List (Option α)):List (Option α):=ms.map λo=>o.bind λi=>(σ[i]?).join
theorem qbd{X:Cx}{scope:Scope}:∀ {N:List Str} {ms:List (Option Nat)},qat X scope N ms->ms.length=N.length/\∀(j:Nat) (x:Str) (i:Nat),N[j]?=some x->ms[j]?=some (some i)->X.N[i]?=some x/\(relabel scope X.env).names.lookup x≠some .local/\(X.env.kindOf x=some .cell\/X.env.kindOf x=some .free)
 | [],[],_=>⟨rfl,λj x i h _=>by simp at h⟩
 | y::N,none::ms,h=>by
  obtain⟨l,g⟩:=qbd (N:=N) (ms:=ms) h
  refine⟨by simp[l],λj x i h1 h2=>?_⟩
  cases j with
  | zero=>simp at h2
  | succ j=>exact g j x i (by simpa using h1) (by simpa using h2)
 | y::N,some k::ms,h=>by
  obtain⟨l,g⟩:=qbd (N:=N) (ms:=ms) h.2
  refine⟨by simp[l],λj x i h1 h2=>?_⟩
  cases j with
  | zero=>simp at h1 h2;subst h1 h2;exact⟨h.1.1,λz=>by have:=h.1.2.1;rw[z]at this;exact absurd this (by decide),h.1.2.2⟩
  | succ j=>exact g j x i (by simpa using h1) (by simpa using h2)
 | [],_::_,h=>h.elim
 | _::_,[],h=>h.elim
theorem qjf{α:Type}{ms:List (Option Nat)}{σ:List (Option α)}{j:Nat}{v:α}(h:(inS ms σ)[j]?=some (some v)):∃i:Nat,ms[j]?=some (some i)/\σ[i]?=some (some v):=by
 unfold inS at h
 rw[zax]at h
 obtain⟨o,e1,e2⟩:=map_some h
 cases o with
 | none=>cases e2
 | some i=>exact⟨i,e1,qdB e2⟩
theorem qkY{X:Cx}{N:List Str}{scope:Scope}{ms:List (Option Nat)}(h:qat X scope N ms)(σ:L2.St):My.Start X N scope σ (inS ms σ):=by
 obtain⟨l,g⟩:=qbd h
 refine⟨by unfold inS;rw[zan];exact l,λj x v h1 h2 _=>?_⟩
 obtain⟨i,e1,e2⟩:=qjf h2
 obtain⟨a,b,c⟩:=g j x i h1 e1
 exact⟨b,i,a,e2,c⟩
theorem ST.inner{H0:Hp}{A0 A:Av}{E:List Fact}{O:List Nat}{σ:L2.St}{H:Hp}{ρ:Rho}(s:ST H0 A0 A E O σ H ρ)(ms:List (Option Nat))(n:∀i,some i∈ms->i∉O):ST H0 A0 A E [] (inS ms σ) H (inS ms ρ) where
 ex:=s.ex
 sub:=s.sub
 l0:=s.l0
 live:=s.live
 len:=by simp[inS]
 val:=λj d h _=>by
  obtain⟨i,e1,e2⟩:=qjf h
  obtain⟨v,e3,r⟩:=s.val i d e2 (n i (zaH e1))
  refine⟨v,?_,r⟩
  unfold inS
  rw[zax,e1]
  show some ((σ[i]?).join)=_
  rw[e3]
  rfl
 own:=λj d _ h=>nomatch h
 inj:=λi j d d' a hi=>nomatch hi
 ext:=s.ext
noncomputable def qau(g:Gv)(c:Bv)(f:Ev):List D->Rho->Option (List D)
 | [],_=>some []
 | x::xs,ρ=>(g x ρ).bind λρ1=>(c ρ1).bind λb=>if b=true then(f ρ1).bind λd=>(qau g c f xs ρ1).bind λds=>some (d::ds)else qau g c f xs ρ1
noncomputable def qer(ms:List (Option Nat))(it:Lv)(g:Gv)(c:Bv)(f:Ev):Ev:=λρ=>(it ρ).bind λitems=>if szOk items.length then(qau g c f items (inS ms ρ)).map .lst else none
noncomputable def bYes:Bv:=λ_=>some true
theorem qkw{X:Cx}{O:List Nat}:My.PTs X [] (tDT O bYes):=λpins s σ H Q I ⟨H0,A0,A,E,ρ,b,st,e,q⟩=>My.qnU pins s σ H Q I (by cases e;exact q H (Ext.refl _ _))
theorem qk8{X:Cx}{O:List Nat}{c:Expr}{g:Bv}(h:PDT X O c g):My.PTs X [c] (tDT O g):=My.qmA h
section
variable {X:Cx}{O:List Nat}
theorem qeh{scope:Scope}{N:List Str}{ms:List (Option Nat)}{it:Lv}{g:Gv}{c:Bv}{f:Ev}(hst:qat X scope N ms)(hn:(ms.all λo=>match o with|some i=>!O.contains i|none=>true)=true)(σ:L2.St)(H:Hp)(Q:VK) :
  tF O (qer ms it g c f) σ H Q->My.qmt (tDI O it) (tDG [] g) (tDT [] c) (tD Rep [] f) (My.Start X N scope) σ H Q:=λ⟨H0,A0,A,E,ρ,d,st,e,q⟩=>by
 obtain⟨items,e1,e⟩:=bind_some e
 by_cases hz:szOk items.length=true
 case neg=>rw[if_neg hz]at e;cases e
 rw[if_pos hz]at e
 obtain⟨ds,e2,rfl⟩:=map_some e
 have hnO:∀i,some i∈ms->i∉O:=λi hi z=>by
  have:=List.all_eq_true.mp hn _ hi
  simp only[Bool.not_eq_true']at this
  have z':O.contains i=true:=by simpa using z
  rw[z']at this;cases this
 refine⟨inS ms σ,qkY hst σ,H0,A0,A,E,ρ,items,st,e1,λJ H1 E1 x1 hE1 J1 D hD=>?_⟩
 have lv1:=(st.mono x1).live
 have nA:¬ A D:=λz=>lv1 D z hD
 have n0:H D=none:=x1.free hD
 -- the state of the block: the list that grows stands outside all that is borne
 refine⟨λi m σ2 us H2=>m=items.length-i/\i<=items.length/\∃ρ2 done rest,ST H0 A0 (λb=>A b\/b=D) (E1++E) [] σ2 H2 ρ2/\H2 D=some (.lst us)/\Ext A H H2/\RepL (λb=>A b\/b=D) H2 done us/\qau g c f (items.drop i) ρ2=some rest/\done++rest=ds/\done.length<=i,⟨items.length,by simp,zaX _,inS ms ρ,[],ds,?_,ql,x1.trans (Ext.new hD),.nil,e2,rfl,zam _⟩,?_⟩
 ·have s1:=((st.mono x1).both hE1).inner ms hnO
  have up:∀a,(A a\/a=D)->A a\/H1 a=none:=λa ha=>ha.imp id λz=>by rw[z];exact hD
  refine⟨s1.ex.trans (Ext.new hD),λa ha=>.inl (s1.sub a ha),s1.l0,λa ha=>?_,s1.len,λi d h n=>?_,(λi d _ h=>nomatch h),(λi j d d' a hi=>nomatch hi),λp hp=>Fact.ext (Ext.new hD) (Fact.av up (s1.ext p hp))⟩
  ·rcases ha with ha|ha
   ·rw[qi (λz=>by subst z;exact nA ha)];exact s1.live a ha
   ·subst ha;rw[ql];exact λz=>nomatch z
  ·obtain⟨v,h1,h2⟩:=s1.val i d h n
   exact⟨v,h1,(h2.av up).ext (Ext.new hD)⟩
 ·rintro i m σ2 us H2 ⟨rfl,hle,ρ2,done,rest,s2,hD2,x2,rd2,ec,ed,hdl⟩
  obtain⟨stop,go⟩:=J1 _ H2 s2.live (λp hp=>s2.ext p (List.mem_append_left _ hp)) i
  by_cases hlt:i<items.length
  ·have eg:items[i]?=some items[i]:=by simp[hlt]
   obtain⟨hgo,hy⟩:=go _ eg
   rw[List.drop_eq_getElem_cons hlt]at ec
   obtain⟨ρ3,e3,ec⟩:=bind_some ec
   obtain⟨b,e4,ec⟩:=bind_some ec
   have hlen:us.length<zaj:=by
    rw[rd2.length]
    exact Nat.lt_of_le_of_lt hdl (za0 hlt (qbf hz))
   refine .inr ⟨hgo,hlen,λx H3 y=>?_⟩
   obtain⟨x3,r3⟩:=hy x H3 y
   refine⟨H0,A0,_,E1++E,ρ2,_,ρ3,s2.mono x3,r3,e3,λσ3 s3=>⟨H0,A0,_,E1++E,ρ3,b,s3,e4,λH5 x5=>?_⟩⟩
   have x35:=x3.trans x5
   have hD5:H5 D=some (.lst us):=x35.ow D _ (.inr rfl) hD2
   have x25:Ext A H H5:=x2.trans (x35.mono λa ha=>.inl ha)
   cases b with
   | false=>
    rw[if_neg zaq]at ec
    exact iteF ⟨hD5,items.length-(i+1),by omega,rfl,hlt,ρ3,done,rest,s3.mono x5,hD5,x25,rd2.ext x35,ec,ed,by omega⟩
   | true=>
    rw[if_pos rfl]at ec
    refine iteT ?_
    obtain⟨d,e6,ec⟩:=bind_some ec
    obtain⟨rest',e7,ec⟩:=bind_some ec
    cases ec
    refine⟨H0,A0,_,E1++E,ρ3,d,s3.mono x5,e6,λv H6 x6 r6=>?_⟩
    have x36:=x35.trans x6
    have hD6:H6 D=some (.lst us):=x36.ow D _ (.inr rfl) hD2
    refine⟨hD6,items.length-(i+1),by omega,rfl,hlt,ρ3,done++[d],rest',?_,ql,?_,((rd2.ext x36).append (.cons r6 .nil)).put (.inr rfl) hD6 trivial,e7,by rw[<- ed];simp,by rw[za8];show done.length+1<=i+1;omega⟩
    ·have s6:=s3.mono (x5.trans x6)
     have n00:H0 D=none:=st.ex.free n0
     have ne0:∀b,H0 b≠none->b≠D:=λb hb z=>hb (by rw[z];exact n00)
     refine⟨⟨λb w r=>qba (ne0 b (by rcases r with r|⟨_,r⟩ <;> (rw[r];exact λz=>nomatch z))) (s6.ex.rd b w r),λb xs k r=>?_,λb w n r=>?_,λb q w r=>?_⟩,s6.sub,s6.l0,λa ha=>?_,s6.len,λi d h n=>?_,(λi d _ h=>nomatch h),(λi j d d' a hi=>nomatch hi),λp hp=>Fact.put (.inr rfl) hD6 trivial (s6.ext p hp)⟩
     ·rw[qi (ne0 b (by rw[r];exact λz=>nomatch z))];exact s6.ex.kp b xs k r
     ·rw[qi (ne0 b (by rw[r];exact λz=>nomatch z))];exact s6.ex.ow b w n r
     ·rw[qi (ne0 b (by rw[r];exact λz=>nomatch z))];exact s6.ex.fz b q w r
     ·by_cases z:a=D
      ·subst z;rw[ql];exact λz=>nomatch z
      ·rw[qi z];exact s6.live a ha
     ·obtain⟨v,h1,h2⟩:=s6.val i d h n
      exact⟨v,h1,h2.put (.inr rfl) hD6 trivial⟩
    ·have x26:Ext A H H6:=x25.trans (x6.mono λa ha=>.inl ha)
     have ne0:∀b,H b≠none->b≠D:=λb hb z=>hb (by rw[z];exact n0)
     exact⟨λb w r=>qba (ne0 b (by rcases r with r|⟨_,r⟩ <;> (rw[r];exact λz=>nomatch z))) (x26.rd b w r),
      λb xs k r=>by rw[qi (ne0 b (by rw[r];exact λz=>nomatch z))];exact x26.kp b xs k r,
      λb w n r=>by rw[qi (ne0 b (by rw[r];exact λz=>nomatch z))];exact x26.ow b w n r,
      λb q w r=>by rw[qi (ne0 b (by rw[r];exact λz=>nomatch z))];exact x26.fz b q w r⟩
  ·have hi':i=items.length:=by omega
   subst hi'
   rw[List.drop_length]at ec
   cases ec
   rw[List.append_nil]at ed
   subst ed
   exact .inl ⟨stop (zam _),q D H2 x2 n0 nA (.lst hD2 rd2)⟩
theorem qng{elt tg iter:Expr}{ifs:List Expr}{scope:Scope}{pos:Pos}{N:List Str}{cl:List (Str×Addr)}{ms:List (Option Nat)}{it:Lv}{g:Gv}{c:Bv}{f:Ev}
  (hc:X.calm=true) (cc:My.Clo X N scope cl) (hst:qat X scope N ms) (hn:(ms.all λo=>match o with|some i=>!O.contains i|none=>true)=true) (hi:PDI X O tg iter it) (hg:∀C s H fp,PDG (My.qH X N scope cl C s H fp) [] tg g)
  (ht:∀C s H fp,My.PTs (My.qH X N scope cl C s H fp) ifs (tDT [] c)) (he:∀C s H fp,PD (My.qH X N scope cl C s H fp) [] elt f) (hs:∀x,zbq iter X.env x=pure x:=by intro _;rfl) :
  PF X O (.ListComp elt [⟨tg,iter,ifs,0⟩] scope pos) (qer ms it g c f):=PE.mono (My.qno hc cc hi hg ht he hs) (qeh hst hn)
noncomputable def qd(n:Nat)(ds:List D):Rho:=ds.map some++zaG (n-ds.length) none
noncomputable def runD(n:Nat)(f:Sv)(ds:List D):Option D:=(f (qd n ds)).bind λo=>match o with
 | .rt d=>some d
 | .nx _=>some .non
 | _=>none
theorem ST.begun{A:Av}{H:Hp}{N:List Str}{ds:List D}{vs:List V}(lv:Live A H)(r:RepL A H ds vs):ST H A A [] [] (L2.start N vs) H (qd N.length ds) where
 ex:=Ext.refl _ _
 sub:=λ_ h=>h
 l0:=lv
 live:=lv
 len:=by unfold L2.start qd;simp[r.length]
 val:=λi d h _=>by
  unfold qd at h
  by_cases hi:i<ds.length
  ·rw[zb4 (by simpa using hi),zax]at h
   obtain⟨d',e1,e2⟩:=map_some h
   cases e2
   obtain⟨v,e3,r3⟩:=r.get' e1
   refine⟨v,?_,r3⟩
   unfold L2.start
   rw[zb4 (by rw[zan,r.length];exact hi),zax,e3]
   rfl
  ·rw[List.getElem?_append_right (by simpa using hi),List.getElem?_replicate]at h
   split at h <;> cases h
 own:=λi d _ h=>nomatch h
 inj:=λi j d d' a hi=>nomatch hi
 ext:=λp hp=>nomatch hp
theorem qqN{P:zai}{w:World}{K:zae}{mg:Str->Option Value}{base:Heap}{x:Str}{st:Stmt}{N ps:List Str}{k:Nat}{f:Sv}{O':List Nat}(Df:My.DefAt K mg x st ps)(S:FnScope N ps (qt st))
  (h:∀(fa:Addr) (cdv:Value) (A:Around) (outer:List Env) (s:Shared) (H:Hp) (E:XK),Room k (A.deeper (envOfC x (qt st) s.heap.objs.size fa cdv))->∃g,PSDs (cxOf CX0 P w K mg base N x (qt st) fa cdv A outer s H E).nox ⟨[],[]⟩ [] (qaa st) g O'/\g=f) :
  Fn P w K mg base x (k+1) ps (runD N.length f):=by
 refine My.BodyOk.ok (λfa cdv A outer s H vs Q E hr hsp=>?_) Df S (λvs H Q E hsp=>by obtain⟨A,ds,d,_,_,e,_⟩:=hsp;exact e)
 obtain⟨A1,ds,d,lv,r,e,eF,q⟩:=hsp
 obtain⟨o,eo,e2⟩:=bind_some eF
 obtain⟨g,hg,rfl⟩:=h fa cdv A outer s H E hr
 refine⟨_,hg,H,A1,A1,[],_,o,ST.begun lv r,eo,?_⟩
 cases o with
 | nx ρ=>cases e2;exact λA2 σ2 H2 s2=>q .non H2 s2.ex .non
 | rt d'=>cases e2;exact λv H2 x2 r2=>q v H2 x2 r2
 | bk _=>cases e2
 | ct _=>cases e2
noncomputable def qlT(K:zae):Bool:=K.all λp=>match p.2.cls with
 | .type "list" => false
 | _=>true
theorem qi1{K:zae}(h:qlT K=true){a:Addr}{o:Obj}(e:K.lookup a=some o):o.cls≠.type "list" := λz=>by
 have m:∀ {K:zae},K.lookup a=some o->(a,o)∈K:=by
  intro K
  induction K with
  | nil=>intro e;cases e
  | cons p r ih=>
   intro e
   rw[List.lookup_cons]at e
   by_cases q:(a == p.1)=true
   ·rw[q]at e;cases e;rw[show a=p.1 by simpa using q];exact zay ..
   ·rw[Bool.not_eq_true]at q;rw[q]at e;exact zaz _ (ih e)
 have:=List.all_eq_true.mp h _ (m e)
 dsimp only at this
 rw[z]at this
 exact absurd this (by decide)
theorem qpM{P:zai}{w:World}{K:zae}{mg:Str->Option Value}{base:Heap}{st:Stmt}{N:List Str}{k:Nat}{f:Sv}{O':List Nat}(hK:qlT K=true)
  (h:∀(fa:Addr) (cdv:Value) (A:Around) (outer:List Env) (s:Shared) (H:Hp) (E:XK),Room k (A.deeper (envOfC "law" (qt st) s.heap.objs.size fa cdv))->∃g,PSDs (cxOf CX0 P w K mg base N "law" (qt st) fa cdv A outer s H E).nox ⟨[],[]⟩ [] (qaa st) g O'/\g=f)
  (hv:∀ns:List Int,ns.length<=63->runD N.length f [.lst (ns.map .int)]=some (.bl true)):My.BodyOk P w K mg base "law" st N k (My.qif K):=by
 refine λfa cdv A outer s H vs Q E hr hsp=>?_
 obtain⟨a,ns,rfl,hS,hl,q⟩:=hsp
 have hR:Rd H a (.lst (ns.map V.int)):=by
  rcases hS with hS|⟨o,_,_,e,c,_⟩
  ·exact hS
  ·exact absurd c (qi1 hK e)
 have lv:Live (λ_=>False) H:=λa h=>h.elim
 have hints:∀ns:List Int,RepL (λ_=>False) H (ns.map .int) (ns.map V.int):=λns=>by
  induction ns with
  | nil=>exact .nil
  | cons n ns ih=>exact .cons (.int n) ih
 obtain⟨o,eo,e2⟩:=bind_some (hv ns hl)
 obtain⟨g,hg,rfl⟩:=h fa cdv A outer s H E hr
 refine⟨_,hg,H,λ_=>False,λ_=>False,[],_,o,ST.begun lv (.cons (.lst (λz=>z) hR (hints ns)) .nil),eo,?_⟩
 cases o with
 | nx ρ=>cases e2
 | rt d'=>cases e2;exact λv H2 x2 r2=>by cases r2;exact q _
 | bk _=>cases e2
 | ct _=>cases e2
end
mutual
noncomputable def toX:D->Option My.Dx
 | .non=>some .non
 | .bl b=>some (.bl b)
 | .int i=>some (.int i)
 | .str x=>some (.str x)
 | .tup l=>(toXs l).map .tup
 | .lst l=>(toXs l).map .lst
 | .dK _=>none
 | .dT _=>none
noncomputable def toXs:List D->Option (List My.Dx)
 | []=>some []
 | d::ds=>(toX d).bind λx=>(toXs ds).bind λxs=>some (x::xs)
end
mutual
theorem qed:∀ {d e:D} {x:My.Dx},toX d=some x->toX e=some x->d=e
 | .non,e,x,h,k=>by cases h;cases e <;> simp[toX]at k <;> first|rfl|(obtain⟨_,_,z⟩:=k;cases z)
 | .bl b,e,x,h,k=>by cases h;cases e <;> simp[toX]at k <;> first|(rw[k])|(obtain⟨_,_,z⟩:=k;cases z)
 | .int b,e,x,h,k=>by cases h;cases e <;> simp[toX]at k <;> first|(rw[k])|(obtain⟨_,_,z⟩:=k;cases z)
 | .str b,e,x,h,k=>by cases h;cases e <;> simp[toX]at k <;> first|(rw[k])|(obtain⟨_,_,z⟩:=k;cases z)
 | .tup l,e,x,h,k=>by
  rw[toX]at h
  obtain⟨xs,h1,rfl⟩:=map_some h
  cases e with
  | tup m=>
   rw[toX]at k
   obtain⟨ys,k1,k2⟩:=map_some k
   cases k2
   rw[qeo h1 k1]
  | lst m=>rw[toX]at k;obtain⟨ys,k1,k2⟩:=map_some k;cases k2
  | _=>simp[toX]at k
 | .lst l,e,x,h,k=>by
  rw[toX]at h
  obtain⟨xs,h1,rfl⟩:=map_some h
  cases e with
  | lst m=>
   rw[toX]at k
   obtain⟨ys,k1,k2⟩:=map_some k
   cases k2
   rw[qeo h1 k1]
  | tup m=>rw[toX]at k;obtain⟨ys,k1,k2⟩:=map_some k;cases k2
  | _=>simp[toX]at k
 | .dK _,e,x,h,k=>by rw[toX]at h;cases h
 | .dT _,e,x,h,k=>by rw[toX]at h;cases h
theorem qeo:∀ {d e:List D} {x:List My.Dx},toXs d=some x->toXs e=some x->d=e
 | [],e,x,h,k=>by
  rw[toXs]at h;cases h
  cases e with
  | nil=>rfl
  | cons e es=>
   rw[toXs]at k
   obtain⟨_,_,k⟩:=bind_some k
   obtain⟨_,_,k⟩:=bind_some k
   cases k
 | d::ds,e,x,h,k=>by
  rw[toXs]at h
  obtain⟨y,h1,h⟩:=bind_some h
  obtain⟨ys,h2,h⟩:=bind_some h
  cases h
  cases e with
  | nil=>rw[toXs]at k;cases k
  | cons e es=>
   rw[toXs]at k
   obtain⟨z,k1,k⟩:=bind_some k
   obtain⟨zs,k2,k⟩:=bind_some k
   cases k
   rw[qed h1 k1,qeo h2 k2]
end
mutual
theorem qga{K:zae}{A:Av}{H:Hp}:∀ {d:D} {x:My.Dx} {v:V},toX d=some x->Rep A H d v->My.Rep K H x v
 | .non,x,v,h,r=>by cases h;cases r;rw[My.Rep]
 | .bl b,x,v,h,r=>by cases h;cases r;rw[My.Rep]
 | .int b,x,v,h,r=>by cases h;cases r;rw[My.Rep]
 | .str b,x,v,h,r=>by cases h;cases r;rw[My.Rep]
 | .tup l,x,v,h,r=>by
  rw[toX]at h
  obtain⟨xs,h1,rfl⟩:=map_some h
  cases r with
  | tup hh rl=>rw[My.Rep];exact⟨_,_,rfl,.inl (.inl hh),qcv h1 rl⟩
 | .lst l,x,v,h,r=>by
  rw[toX]at h
  obtain⟨xs,h1,rfl⟩:=map_some h
  cases r with
  | lst n hh rl=>rw[My.Rep];exact⟨_,_,rfl,.inl hh,qcv h1 rl⟩
 | .dK _,x,v,h,r=>by rw[toX]at h;cases h
 | .dT _,x,v,h,r=>by rw[toX]at h;cases h
theorem qcv{K:zae}{A:Av}{H:Hp}:∀ {d:List D} {x:List My.Dx} {v:List V},toXs d=some x->RepL A H d v->My.RepL K H x v
 | [],x,v,h,r=>by rw[toXs]at h;cases h;cases r;rw[My.RepL]
 | d::ds,x,v,h,r=>by
  rw[toXs]at h
  obtain⟨y,h1,h⟩:=bind_some h
  obtain⟨ys,h2,h⟩:=bind_some h
  cases h
  cases r with
  | cons r rs=>rw[My.RepL];exact⟨_,_,rfl,qga h1 r,qcv h2 rs⟩
end
theorem qbu{K:zae}{A:Av}{H:Hp}{d:D}{x:My.Dx}{v:V}(h:toX d=some x)(r:RepB A H d v):My.Rep K H x v:=by
 cases r with
 | of r=>exact qga h r
 | lst hh rl=>
  rw[toX]at h
  obtain⟨xs,h1,rfl⟩:=map_some h
  rw[My.Rep];exact⟨_,_,rfl,.inl hh,qcv h1 rl⟩
 | dK=>rw[toX]at h;cases h
 | dT=>rw[toX]at h;cases h
noncomputable def eqOk(d:D):Bool:=match toX d with
 | some x=>x.nb && decide (x.dep<=60)
 | none=>false
noncomputable def seqD:D->Bool
 | .tup _=>true | .lst _=>true|_=>false
noncomputable def qpm:D->D->Bool
 | .non,.non=>true | .non,.int _=>true | .int _,.non=>true | .non,.bl _=>true | .bl _,.non=>true | .non,.str _=>true | .str _,.non=>true
 | .int _,.int _=>true | .bl _,.bl _=>true | .str _,.str _=>true
 | .int _,.str _=>true | .str _,.int _=>true | .bl _,.str _=>true | .str _,.bl _=>true
 | _,_=>false
open Classical in
noncomputable def eqD(d e:D):Option Bool:=if qpm d e=true\/(seqD d=true/\seqD e=true/\eqOk d=true/\eqOk e=true)then some (decide (d=e))else none
noncomputable def dEq(d e:D):Option D:=(eqD d e).map .bl
noncomputable def dNe(d e:D):Option D:=(eqD d e).map λb=>.bl (!b)
theorem qlQ{A:Av}{H:Hp}{d e:D}{v w:V}(h:qpm d e=true)(r:RepB A H d v)(s:RepB A H e w):scal v w=true/\(v=w↔d=e):=by
 cases d <;> cases e <;> first
  | (cases h;done)
  | (have:=r.non_inv;subst this;have:=s.non_inv;subst this;exact⟨rfl,by simp⟩)
  | (have:=r.non_inv;subst this;have:=s.int_inv;subst this;exact⟨rfl,by simp⟩)
  | (have:=r.non_inv;subst this;have:=s.bl_inv;subst this;exact⟨rfl,by simp⟩)
  | (have:=r.non_inv;subst this;have:=s.str_inv;subst this;exact⟨rfl,by simp⟩)
  | (have:=r.int_inv;subst this;have:=s.non_inv;subst this;exact⟨rfl,by simp⟩)
  | (have:=r.int_inv;subst this;have:=s.int_inv;subst this;exact⟨rfl,by simp⟩)
  | (have:=r.int_inv;subst this;have:=s.str_inv;subst this;exact⟨rfl,by simp⟩)
  | (have:=r.bl_inv;subst this;have:=s.non_inv;subst this;exact⟨rfl,by simp⟩)
  | (have:=r.bl_inv;subst this;have:=s.bl_inv;subst this;exact⟨rfl,by simp⟩)
  | (have:=r.bl_inv;subst this;have:=s.str_inv;subst this;exact⟨rfl,by simp⟩)
  | (have:=r.str_inv;subst this;have:=s.non_inv;subst this;exact⟨rfl,by simp⟩)
  | (have:=r.str_inv;subst this;have:=s.int_inv;subst this;exact⟨rfl,by simp⟩)
  | (have:=r.str_inv;subst this;have:=s.bl_inv;subst this;exact⟨rfl,by simp⟩)
  | (have:=r.str_inv;subst this;have:=s.str_inv;subst this;exact⟨rfl,by simp⟩)
section
variable {X:Cx}{O:List Nat}
theorem OpR.orM{f:Value->Value->Sem Value}{r r' r2:R2}(h:OpR X f r)(h':OpR X f r')(x:∀a b H Q,r2 a b H Q->r a b H Q\/r' a b H Q):OpR X f r2:=OpR.mono (OpR.or h h') x
theorem qdT{d:D}(h:eqOk d=true):∃x,toX d=some x/\x.nb=true/\x.dep<=60:=by
 unfold eqOk at h
 cases e:toX d with
 | none=>rw[e]at h;cases h
 | some x=>rw[e]at h;simp only[zaC,decide_eq_true_eq]at h;exact⟨x,rfl,h.1,h.2⟩
theorem qlf{d:D}{x:My.Dx}(h:seqD d=true)(e:toX d=some x):x.seq=true:=by
 cases d with
 | tup l=>rw[toX]at e;obtain⟨xs,_,rfl⟩:=map_some e;rfl
 | lst l=>rw[toX]at e;obtain⟨xs,_,rfl⟩:=map_some e;rfl
 | _=>cases h
theorem qql(hu:X.A.units+64<cLine):OpX X (zap .Eq) dEq:=OpR.orM qqk (My.qpH hu) <| by
 rintro x y H Q ⟨A,dx,dy,d,lv,rx,ry,e,q⟩
 obtain⟨b,eb,rfl⟩:=map_some e
 unfold eqD at eb
 split at eb
 case isFalse=>cases eb
 rename_i hc
 cases eb
 rcases hc with hs|⟨s1,s2,k1,k2⟩
 ·left
  obtain⟨h1,h2⟩:=qlQ hs rx ry
  refine⟨h1,?_⟩
  have:decide (x=y)=@decide (dx=dy) (zbQ _):=decide_eq_decide.mpr h2
  rw[this]
  exact q _ H (Ext.refl _ _) (.bl _)
 ·right
  obtain⟨x1,a1,a2,a3⟩:=qdT k1
  obtain⟨x2,b1,b2,b3⟩:=qdT k2
  refine⟨x1,x2,qbu a1 rx,qbu b1 ry,qlf s1 a1,qlf s2 b1,a2,b2,a3,?_⟩
  have:@decide (x1=x2) (zbQ _)=@decide (dx=dy) (zbQ _):=decide_eq_decide.mpr ⟨λz=>qed a1 (z ▸ b1),λz=>by subst z;rw[a1]at b1;exact zaA b1⟩
  show Q (.bl (@decide (x1=x2) (zbQ _))) H
  rw[this]
  exact q _ H (Ext.refl _ _) (.bl _)
theorem qqB(hu:X.A.units+64<cLine):OpX X (zap .NotEq) dNe:=OpR.orM qq2 (My.qoU hu) <| by
 rintro x y H Q ⟨A,dx,dy,d,lv,rx,ry,e,q⟩
 obtain⟨b,eb,rfl⟩:=map_some e
 unfold eqD at eb
 split at eb
 case isFalse=>cases eb
 rename_i hc
 cases eb
 rcases hc with hs|⟨s1,s2,k1,k2⟩
 ·left
  obtain⟨h1,h2⟩:=qlQ hs rx ry
  refine⟨h1,?_⟩
  have:decide (x=y)=@decide (dx=dy) (zbQ _):=decide_eq_decide.mpr h2
  rw[this]
  exact q _ H (Ext.refl _ _) (.bl _)
 ·right
  obtain⟨x1,a1,a2,a3⟩:=qdT k1
  obtain⟨x2,b1,b2,b3⟩:=qdT k2
  refine⟨x1,x2,qbu a1 rx,qbu b1 ry,qlf s1 a1,qlf s2 b1,a2,b2,a3,?_⟩
  have:@decide (x1=x2) (zbQ _)=@decide (dx=dy) (zbQ _):=decide_eq_decide.mpr ⟨λz=>qed a1 (z ▸ b1),λz=>by subst z;rw[a1]at b1;exact zaA b1⟩
  show Q (.bl (!@decide (x1=x2) (zbQ _))) H
  rw[this]
  exact q _ H (Ext.refl _ _) (.bl _)
theorem Inv.lstR{pins:List (Addr×Obj)}{σ:L2.St}{H:Hp}{s:Shared}{l:Addr}{xs:List V}(I:Inv X pins σ H s)(hH:Rd H l (.lst xs)):xs.length<=zaj/\∃(its:List Value) (n:Nat),Vals xs its/\xs.length=its.length/\s.heap.get? l=some {cls:=.type "list",data:=.seq its.toArray n}:=by
 obtain⟨hz,its,n,r,e⟩:=(show ObjOk X.prog X.w H s.heap l (.lst xs)from hH.ok I.hok)
 exact⟨hz,its,n,r,r.length,e⟩
noncomputable def qq0:R2:=λx y H Q=>∃l b xs zs,x=.ref l/\y=.ref b/\Rd H l (.lst xs)/\Rd H b (.lst zs)/\xs.length+zs.length<=zaj/\∀p,H p=none->Q (.ref p) (upd H p (.lst (xs++zs)))
theorem qod:OpR X (zaN .Add) qq0:=by
 intro pins s σ H x y v u Q I rx ry h
 obtain⟨l,b,xs,zs,rfl,rfl,hH,hB,hz,q⟩:=h
 cases rx
 cases ry
 obtain⟨z,its,n,r,hl,e⟩:=Inv.lstR I hH
 obtain⟨z2,its2,n2,r2,hl2,e2⟩:=Inv.lstR I hB
 refine PySem.P.add_list e e2 ?_ (by rw[zau,zau];omega)
 have ea:its.toArray++its2.toArray=(its++its2).toArray:=by simp
 rw[ea]
 exact⟨.ref _,_,I.lnew (t':=s.toks) (r.append r2) (by rw[za8];omega),rfl,q _ I.fresh⟩
end
section
variable {X:Cx}{O:List Nat}
theorem RepL.nil_iff{A:Av}{H:Hp}{ds:List D}{vs:List V}(r:RepL A H ds vs):vs=[]↔ds=[]:=by cases r <;> simp
noncomputable def qhN:D->D->Option D
 | .int i,.int j=>some (.int (i+j))
 | .str i,.str j=>if szOk (i.length+j.length)then some (.str (i++j))else none
 | .lst l,.lst m=>if szOk (l.length+m.length)then some (.lst (l++m))else none
 | .tup (a::l),.tup m=>if szOk (l.length+1+m.length)then some (.tup (a::l++m))else none
 | _,_=>none
theorem qoR:OpX X (zaN .Add) qhN:=OpR.mono (OpR.or (OpR.or qoJ qh5) (OpR.or qod qmm)) <| by
 rintro x y H Q ⟨A,dx,dy,d,lv,rx,ry,e,q⟩
 cases dx with
 | int i=>
  cases dy with
  | int j=>cases e;have:=rx.int_inv;subst this;have:=ry.int_inv;subst this;exact .inl (.inl ⟨i,j,rfl,rfl,q _ H (Ext.refl _ _) (.int _)⟩)
  | _=>cases e
 | str i=>
  cases dy with
  | str j=>
   simp only[qhN]at e
   by_cases hz:szOk (i.length+j.length)=true
   ·rw[if_pos hz]at e;cases e;have:=rx.str_inv;subst this;have:=ry.str_inv;subst this
    exact .inl (.inr ⟨i,j,rfl,rfl,qbf hz,q _ H (Ext.refl _ _) (.str _)⟩)
   ·rw[if_neg hz]at e;cases e
  | _=>cases e
 | lst l=>
  cases dy with
  | lst m=>
   simp only[qhN]at e
   by_cases hz:szOk (l.length+m.length)=true
   ·rw[if_pos hz]at e;cases e
    obtain⟨a,xs,rfl,h1,r1⟩:=rx.lst_inv
    obtain⟨b,ys,rfl,h2,r2⟩:=ry.lst_inv
    exact .inr (.inl ⟨a,b,xs,ys,rfl,rfl,h1,h2,by rw[r1.length,r2.length];exact qbf hz,λp hp=>q _ _ (Ext.new hp) (.lst (λz=>lv p z hp) (.inl ql) ((r1.append r2).ext (Ext.new hp)))⟩)
   ·rw[if_neg hz]at e;cases e
  | _=>cases e
 | tup l=>
  cases l with
  | nil=>cases dy <;> cases e
  | cons a0 l=>
   cases dy with
   | tup m=>
    simp only[qhN]at e
    by_cases hz:szOk (l.length+1+m.length)=true
    ·rw[if_pos hz]at e;cases e
     obtain⟨a,xs,rfl,h1,r1⟩:=rx.tup_inv
     obtain⟨b,ys,rfl,h2,r2⟩:=ry.tup_inv
     refine .inr (.inr ⟨a,b,xs,ys,rfl,rfl,.inl (.inl h1),.inl (.inl h2),λz=>(by have:=r1.nil_iff.mp z;cases this),by rw[r1.length,r2.length];exact qbf hz,λz=>?_,λ_ p hp=>q _ _ (Ext.new hp) (.tup ql ((r1.append r2).ext (Ext.new hp)))⟩)
     refine q _ H (Ext.refl _ _) (.tup h1 ?_)
     have:=r2.nil_iff.mp z
     subst this
     rw[List.append_nil]
     exact r1
    ·rw[if_neg hz]at e;cases e
   | _=>cases e
 | _=>cases dy <;> cases e
noncomputable def qap:List D->Option (List Int)
 | []=>some []
 | .int i::ds=>(qap ds).map (i::·)
 | _=>none
theorem qao{A:Av}{H:Hp}:∀ {ds:List D} {ns:List Int} {vs:List V},qap ds=some ns->RepL A H ds vs->vs=ns.map V.int
 | [],ns,vs,h,r=>by cases h;cases r;rfl
 | .int i::ds,ns,vs,h,r=>by
  obtain⟨ms,h1,rfl⟩:=map_some h
  cases r with
  | cons r rs=>cases r;rw[qao h1 rs];rfl
noncomputable def dLt:D->D->Option D
 | .int i,.int j=>some (.bl (decide (i<j)))
 | .tup l,.tup m=>(qap l).bind λns=>(qap m).map λms=>.bl (HT.lexLt ns ms)
 | _,_=>none
theorem qqb(hu:X.A.units<cLine):OpX X (zap .Lt) dLt:=OpR.mono (OpR.or qqI (qoO hu)) <| by
 rintro x y H Q ⟨A,dx,dy,d,lv,rx,ry,e,q⟩
 cases dx with
 | int i=>
  cases dy with
  | int j=>cases e;have:=rx.int_inv;subst this;have:=ry.int_inv;subst this;exact .inl ⟨i,j,rfl,rfl,q _ H (Ext.refl _ _) (.bl _)⟩
  | _=>cases e
 | tup l=>
  cases dy with
  | tup m=>
   obtain⟨ns,e1,e⟩:=bind_some e
   obtain⟨ms,e2,rfl⟩:=map_some e
   obtain⟨a,xs,rfl,h1,r1⟩:=rx.tup_inv
   obtain⟨b,ys,rfl,h2,r2⟩:=ry.tup_inv
   have:=qao e1 r1;subst this
   have:=qao e2 r2;subst this
   exact .inr ⟨a,b,ns,ms,rfl,rfl,.inl (.inl h1),.inl (.inl h2),q _ H (Ext.refl _ _) (.bl _)⟩
  | _=>cases e
 | _=>cases dy <;> cases e
open Classical in
noncomputable def dInB(x y:D):Option Bool:=match y with
 | .dK _=>(qal y x).map (·.isSome)
 | .dT _=>(qal y x).map (·.isSome)
 | .lst l=>if eqOk x=true/\l.all eqOk=true then some (l.any λd=>decide (d=x))else none
 | .tup l=>if eqOk x=true/\l.all eqOk=true then some (l.any λd=>decide (d=x))else none
 | _=>none
noncomputable def dIn(x y:D):Option D:=(dInB x y).map .bl
noncomputable def qmh(x y:D):Option D:=(dInB x y).map λb=>.bl (!b)
open Classical in
theorem qcw{pins:List (Addr×Obj)}{σ:L2.St}{H:Hp}{s:Shared}{A:Av}{Ar:Around}(I:Inv X pins σ H s)(hu:Ar.units+60<cLine){x:D}{v:V}{u:Value}(kx:eqOk x=true)(rx:RepB A H x v)(ru:RelV v u){l:List D}{xs:List V}{its:List Value}(kl:l.all eqOk=true)(rl:RepL A H l xs)(rv:Vals xs its) :
  ∃f:Value->Bool,(∀y∈its,SeqAt.EqAt Ar s y u (f y))/\its.any f=l.any λd=>decide (d=x):=by
 obtain⟨x1,a1,a2,a3⟩:=qdT kx
 have rx1:My.Rep X.K H x1 v:=qbu a1 rx
 let g:Value->Bool:=λy=>decide (∃w z,RelV w y/\My.Rep X.K H z w/\z=x1)
 have one:∀ {d:D} {w:V} {y:Value},eqOk d=true->Rep A H d w->RelV w y->g y=decide (d=x)/\SeqAt.EqAt Ar s y u (g y):=by
  intro d w y kd rd ry
  obtain⟨z,b1,b2,b3⟩:=qdT kd
  have rz:My.Rep X.K H z w:=qga b1 rd
  have e:g y=decide (z=x1):=by
   refine decide_eq_decide.mpr ⟨λ⟨w',z',q1,q2,q3⟩=>?_,λe=>⟨w,z,ry,rz,e⟩⟩
   have:=RelV.inj ry q1
   subst this
   rw[My.Rep.inj I _ _ _ rz q2,q3]
  have e2:decide (z=x1)=decide (d=x):=decide_eq_decide.mpr ⟨λq=>qed b1 (q ▸ a1),λq=>by subst q;rw[b1]at a1;exact zaA a1⟩
  refine⟨e.trans e2,?_⟩
  rw[e]
  exact My.qfK I 60 Ar z x1 w v y u b3 hu b2 a2 rz rx1 ry ru
 refine⟨g,?_,?_⟩
 ·intro y hy
  obtain⟨j,hj⟩:=List.mem_iff_getElem?.mp hy
  have hlen:=rv.length
  have hjl:j<its.length:=(List.getElem?_eq_some_iff.mp hj).1
  have hx:xs[j]?=some (xs[j]'(by omega)):=zaO (by omega)
  obtain⟨u',e1,r1⟩:=rv.get hx
  rw[hj]at e1;cases e1
  obtain⟨d,e2,r2⟩:=rl.get hx
  exact(one (List.all_eq_true.mp kl _ (zaH e2)) r2 r1).2
 ·have all:∀(l:List D) (xs:List V) (its:List Value),l.all eqOk=true->RepL A H l xs->Vals xs its->its.any g=l.any λd=>decide (d=x):=by
   intro l
   induction l with
   | nil=>intro xs its _ r v;cases r;cases v;rfl
   | cons d l ih=>
    intro xs its k r v
    cases r with
    | cons h t=>
     cases v with
     | cons r rs=>
      rw[List.all_cons,zaC]at k
      rw[zbe,zbe,(one k.1 h r).1,ih _ _ k.2 t rs]
  exact all l xs its kl rl rv
theorem qqC(hu:X.A.units+64<cLine):OpX X (zap .In) dIn:=by
 intro pins s σ H x y v u Q I rv ru h
 obtain⟨A,dx,dy,d,lv,rx,ry,e,q⟩:=h
 obtain⟨b,eb,rfl⟩:=map_some e
 have fin:∀k,k=b->EP X pins σ Q (.bool k) s:=λk hk=>⟨.bl b,H,I,by rw[hk];rfl,q _ H (Ext.refl _ _) (.bl _)⟩
 have hu1:X.A.units+1<cLine:=by omega
 have dict:∀o,qal dy dx=some o->o.isSome=b->wpAny (model X.prog X.w) X.A (zap .In v u) (EP X pins σ Q) X.xe s:=λo eo ob=>by
  obtain⟨a,ov,rfl,_,g,e3⟩:=qbv eo ry rx
  cases ru
  refine d_in hu1 I g rv λs' I'=>⟨.bl b,H,I',?_,q _ H (Ext.refl _ _) (.bl _)⟩
  have:ov.isSome=b:=by rw[<- ob];rcases e3 with⟨rfl,rfl⟩|⟨_,_,rfl,rfl,_⟩ <;> rfl
  rw[this];rfl
 cases dy with
 | dK l=>obtain⟨o,eo,ob⟩:=map_some eb;exact dict o eo ob
 | dT l=>obtain⟨o,eo,ob⟩:=map_some eb;exact dict o eo ob
 | lst l=>
  simp only[dInB]at eb
  split at eb
  case isFalse=>cases eb
  rename_i hc
  cases eb
  obtain⟨a,xs,rfl,h1,r1⟩:=ry.lst_inv
  cases ru
  obtain⟨its,r,pl,hz⟩:=I.list (.inl h1)
  obtain⟨f,f1,f2⟩:=qcw (Ar:=X.A.in1) I (by show X.A.units+1+60<cLine;omega) hc.1 rx rv hc.2 r1 r
  refine SeqAt.in_listAt f (My.PlainL.isList pl) (λw hw=>f1 w (by simpa using hw)) (fin _ ?_)
  rw[<- f2];simp
 | tup l=>
  simp only[dInB]at eb
  split at eb
  case isFalse=>cases eb
  rename_i hc
  cases eb
  obtain⟨a,xs,rfl,h1,r1⟩:=ry.tup_inv
  cases ru
  obtain⟨its,r,pl,hz⟩:=I.tuple (.inl (.inl h1))
  obtain⟨f,f1,f2⟩:=qcw (Ar:=X.A.in1) I (by show X.A.units+1+60<cLine;omega) hc.1 rx rv hc.2 r1 r
  refine SeqAt.in_tupleAt f pl (λw hw=>f1 w (by simpa using hw)) (fin _ ?_)
  rw[<- f2];simp
 | _=>cases eb
theorem qlc(hu:X.A.units+64<cLine):OpX X (zap .NotIn) qmh:=by
 intro pins s σ H x y v u Q I rv ru h
 obtain⟨A,dx,dy,d,lv,rx,ry,e,q⟩:=h
 obtain⟨b,eb,rfl⟩:=map_some e
 have fin:∀k,k=(!b)->EP X pins σ Q (.bool k) s:=λk hk=>⟨.bl (!b),H,I,by rw[hk];rfl,q _ H (Ext.refl _ _) (.bl _)⟩
 have hu1:X.A.units+1<cLine:=by omega
 have dict:∀o,qal dy dx=some o->o.isSome=b->wpAny (model X.prog X.w) X.A (zap .NotIn v u) (EP X pins σ Q) X.xe s:=λo eo ob=>by
  obtain⟨a,ov,rfl,_,g,e3⟩:=qbv eo ry rx
  cases ru
  refine qnP hu1 I g rv λs' I'=>⟨.bl (!b),H,I',?_,q _ H (Ext.refl _ _) (.bl _)⟩
  have:ov.isSome=b:=by rw[<- ob];rcases e3 with⟨rfl,rfl⟩|⟨_,_,rfl,rfl,_⟩ <;> rfl
  rw[this];rfl
 cases dy with
 | dK l=>obtain⟨o,eo,ob⟩:=map_some eb;exact dict o eo ob
 | dT l=>obtain⟨o,eo,ob⟩:=map_some eb;exact dict o eo ob
 | lst l=>
  simp only[dInB]at eb
  split at eb
  case isFalse=>cases eb
  rename_i hc
  cases eb
  obtain⟨a,xs,rfl,h1,r1⟩:=ry.lst_inv
  cases ru
  obtain⟨its,r,pl,hz⟩:=I.list (.inl h1)
  obtain⟨f,f1,f2⟩:=qcw (Ar:=X.A.in1) I (by show X.A.units+1+60<cLine;omega) hc.1 rx rv hc.2 r1 r
  refine SeqAt.notIn_listAt f (My.PlainL.isList pl) (λw hw=>f1 w (by simpa using hw)) (fin _ ?_)
  rw[<- f2];simp
 | tup l=>
  simp only[dInB]at eb
  split at eb
  case isFalse=>cases eb
  rename_i hc
  cases eb
  obtain⟨a,xs,rfl,h1,r1⟩:=ry.tup_inv
  cases ru
  obtain⟨its,r,pl,hz⟩:=I.tuple (.inl (.inl h1))
  obtain⟨f,f1,f2⟩:=qcw (Ar:=X.A.in1) I (by show X.A.units+1+60<cLine;omega) hc.1 rx rv hc.2 r1 r
  refine SeqAt.notIn_tupleAt f pl (λw hw=>f1 w (by simpa using hw)) (fin _ ?_)
  rw[<- f2];simp
 | _=>cases eb
noncomputable def dLen:List D->Option D
 | [.lst l]=>some (.int l.length)
 | [.tup l]=>some (.int l.length)
 | [.str z]=>if szOk z.length then some (.int z.length)else none
 | [.dK l]=>some (.int l.length)
 | _=>none
theorem qpd:qcn X (.builtin "len") dLen:=by
 intro pins s σ H xs us Q I r h
 obtain⟨A,ds,d,lv,rl,e,q⟩:=h
 match ds,rl,e with
 | [.lst l],rl,e=>
  cases e
  obtain⟨v,rfl,h1⟩:=rl.one
  obtain⟨a,xs,rfl,h2,r2⟩:=h1.lst_inv
  exact qeq pins s σ H _ us Q I r ⟨_,_,rfl,.inl ⟨xs,.inl h2,rfl⟩,by rw[r2.length];exact q _ H (Ext.refl _ _) (.int _)⟩
 | [.tup l],rl,e=>
  cases e
  obtain⟨v,rfl,h1⟩:=rl.one
  obtain⟨a,xs,rfl,h2,r2⟩:=h1.tup_inv
  exact qeq pins s σ H _ us Q I r ⟨_,_,rfl,.inr ⟨xs,.inl (.inl h2),rfl⟩,by rw[r2.length];exact q _ H (Ext.refl _ _) (.int _)⟩
 | [.str z],rl,e=>
  simp only[dLen]at e
  by_cases hz:szOk z.length=true
  ·rw[if_pos hz]at e;cases e
   obtain⟨v,rfl,h1⟩:=rl.one
   have:=h1.str_inv;subst this
   exact qeq pins s σ H _ us Q I r ⟨_,_,rfl,⟨qbf hz,rfl⟩,q _ H (Ext.refl _ _) (.int _)⟩
  ·rw[if_neg hz]at e;cases e
 | [.dK l],rl,e=>
  cases e
  obtain⟨v,rfl,h1⟩:=rl.one
  obtain⟨a,xs,rfl,h2,e2,r2⟩:=h1.dK_inv
  obtain⟨u,rfl,ru⟩:=vals1 r
  cases ru
  have hl:xs.length=l.length:=by have:=congrArg zbr e2;simpa using this
  exact qqn I h2 λt s' I'=>⟨.int xs.length,H,I',⟨t,rfl⟩,by rw[hl];exact q _ H (Ext.refl _ _) (.int _)⟩
 | [],_,e=>cases e
 | [.non],_,e=>cases e
 | [.bl _],_,e=>cases e
 | [.int _],_,e=>cases e
 | [.dT _],_,e=>cases e
 | _::_::_,_,e=>simp[dLen]at e
noncomputable def qjZ:List D->Option D
 | [.int i,.int j]=>some (.int (if j<i then j else i))
 | _=>none
noncomputable def qiI:List D->Option D
 | [.int i,.int j]=>some (.int (if j>i then j else i))
 | _=>none
theorem qgR{ds:List D}{d:D}{g:Int->Int->D}(h:(match ds with|[.int i,.int j]=>some (g i j)|_=>none)=some d):∃i j,ds=[.int i,.int j]/\d=g i j:=by
 split at h
 ·cases h;exact⟨_,_,rfl,rfl⟩
 ·cases h
theorem qoc(hc:X.calm=true):qcn X (.builtin "min") qjZ:=CallR.mono (qiT hc) <| by
 rintro xs H Q ⟨A,ds,d,lv,r,e,q⟩
 obtain⟨i,j,rfl,rfl⟩:=qgR (g:=λi j=>.int (if j<i then j else i)) e
 obtain⟨v,w,rfl,h1,h2⟩:=r.two
 have:=h1.int_inv;subst this
 have:=h2.int_inv;subst this
 exact⟨i,j,rfl,q _ H (Ext.refl _ _) (.int _)⟩
theorem qmM(hc:X.calm=true):qcn X (.builtin "max") qiI:=CallR.mono (qj7 hc) <| by
 rintro xs H Q ⟨A,ds,d,lv,r,e,q⟩
 obtain⟨i,j,rfl,rfl⟩:=qgR (g:=λi j=>.int (if j>i then j else i)) e
 obtain⟨v,w,rfl,h1,h2⟩:=r.two
 have:=h1.int_inv;subst this
 have:=h2.int_inv;subst this
 exact⟨i,j,rfl,q _ H (Ext.refl _ _) (.int _)⟩
noncomputable def qch:List D->Option D
 | [.lst l]=>some (.tup l)
 | [.tup l]=>some (.tup l)
 | _=>none
noncomputable def qfS:List D->Option D
 | [.lst l]=>some (.lst l)
 | [.tup l]=>some (.lst l)
 | _=>none
theorem qjS{ds:List D}{d:D}{g:List D->D}(h:(match ds with|[.lst l]=>some (g l)|[.tup l]=>some (g l)|_=>none)=some d):∃l,(ds=[.lst l]\/ds=[.tup l])/\d=g l:=by
 split at h
 ·cases h;exact⟨_,.inl rfl,rfl⟩
 ·cases h;exact⟨_,.inr rfl,rfl⟩
 ·cases h
theorem qeF:qcn X (.type "tuple") qch:=CallR.mono qeu <| by
 rintro xs H Q ⟨A,ds,d,lv,r,e,q⟩
 obtain⟨l,hl,rfl⟩:=qjS (g:=.tup) e
 rcases hl with rfl|rfl
 ·obtain⟨v,rfl,h1⟩:=r.one
  obtain⟨a,xs,rfl,h2,r2⟩:=h1.lst_inv
  exact⟨a,xs,rfl,.inl ⟨.inl h2,λp hp=>q _ _ (Ext.new hp) (.tup ql (r2.ext (Ext.new hp)))⟩⟩
 ·obtain⟨v,rfl,h1⟩:=r.one
  obtain⟨a,xs,rfl,h2,r2⟩:=h1.tup_inv
  exact⟨a,xs,rfl,.inr ⟨.inl (.inl h2),q _ H (Ext.refl _ _) (.tup h2 r2)⟩⟩
theorem qmE:qiq X (.type "list") qfS:=CallR.mono qfm <| by
 rintro xs H Q ⟨A,ds,d,lv,r,e,q⟩
 obtain⟨l,hl,rfl⟩:=qjS (g:=.lst) e
 rcases hl with rfl|rfl
 ·obtain⟨v,rfl,h1⟩:=r.one
  obtain⟨a,xs,rfl,h2,r2⟩:=h1.lst_inv
  exact⟨a,xs,rfl,.inl (.inl h2),λp hp=>q p _ (Ext.new hp) hp (λz=>lv p z hp) (.lst ql (r2.fresh hp))⟩
 ·obtain⟨v,rfl,h1⟩:=r.one
  obtain⟨a,xs,rfl,h2,r2⟩:=h1.tup_inv
  exact⟨a,xs,rfl,.inr (.inl (.inl h2)),λp hp=>q p _ (Ext.new hp) hp (λz=>lv p z hp) (.lst ql (r2.fresh hp))⟩
end
section
variable {X:Cx}{O:List Nat}
noncomputable def tyN:D->String
 | .non => "NoneType" | .bl _ => "bool" | .int _ => "int" | .str _ => "str" | .tup _ => "tuple" | .lst _ => "list" | .dK _ => "dict" | .dT _ => "dict"
noncomputable def rIsD(K:zae):List V->Hp->VK->Prop:=λxs H Q=>∃A d x n b,xs=[x,.ty n]/\RepB A H d x/\PySem.W.kitOne K (.type (tyN d)) (.type n)=some b/\Q (.bl b) H
theorem qkR:CallR X (.builtin "isinstance") (rIsD X.K):=by
 intro pins s σ H xs us Q I r h
 obtain⟨A,d,x,n,b,rfl,rx,e,q⟩:=h
 have go:∀t,TyOf X.K H x t->t=.type (tyN d)->wpAny (model X.prog X.w) X.A (call (.builtin "isinstance") us) (EP X pins σ Q) X.xe s:=λt ht et=>by
  subst et
  exact My.qk5 pins s σ H _ us Q I r ⟨x,n,_,b,rfl,ht,e,q⟩
 cases d with
 | non=>have:=rx.non_inv;subst this;exact go _ .non rfl
 | bl c=>have:=rx.bl_inv;subst this;exact go _ (.bl c) rfl
 | int c=>have:=rx.int_inv;subst this;exact go _ (.int c) rfl
 | str c=>have:=rx.str_inv;subst this;exact go _ (.str c) rfl
 | tup l=>obtain⟨a,xs,rfl,h1,_⟩:=rx.tup_inv;exact go _ (.tup h1) rfl
 | lst l=>
  obtain⟨a,xs,rfl,h1,_⟩:=rx.lst_inv
  rcases h1 with h1|⟨o,h1⟩
  ·exact go _ (.lst h1) rfl
  ·exact go _ (.frz h1) rfl
 | dK l=>
  obtain⟨a,xs,rfl,h1,_⟩:=rx.dK_inv
  obtain⟨u,u',rfl,r1,r2⟩:=vals2 r
  cases r1
  cases r2
  obtain⟨_,_,vs,_,p⟩:=(show ObjOk X.prog X.w H s.heap a (.dK xs)from h1.ok I.hok)
  obtain⟨o,es,ep,h1,h2,_⟩:=p
  exact zbd PySem.W.kitx_dict I.kIn ⟨o,h1,h2.1⟩ e (λz=>nomatch z) λtk=>⟨.bl b,H,I.tok tk,rfl,q⟩
 | dT l=>
  obtain⟨a,xs,rfl,h1,_⟩:=rx.dT_inv
  obtain⟨u,u',rfl,r1,r2⟩:=vals2 r
  cases r1
  cases r2
  obtain⟨_,_,xs,_,o,es,ep,h1,h2,_⟩:=(show ObjOk X.prog X.w H s.heap a (.dT xs)from h1.ok I.hok)
  exact zbd PySem.W.kitx_dict I.kIn ⟨o,h1,h2.1⟩ e (λz=>nomatch z) λtk=>⟨.bl b,H,I.tok tk,rfl,q⟩
noncomputable def isiB(n:String)(d:D):Bool:=match d with
 | .non=>false
 | .bl _=>n == "bool" || n == "int"
 | .int _=>n == "int"
 | .str _=>n == "str"
 | .tup _=>n == "tuple"
 | .lst _=>n == "list"
 | .dK _=>n == "dict"
 | .dT _=>n == "dict"
noncomputable def Kit(n:String):Prop:=∀(K:zae) (d:D),PySem.W.kitOne K (.type (tyN d)) (.type n)=some (isiB n d)
theorem qm4:Kit "int" := λK d=>by cases d <;> rfl
theorem qkf:Kit "bool" := λK d=>by cases d <;> rfl
theorem kit_tuple:Kit "tuple" := λK d=>by cases d <;> rfl
noncomputable def eIsi(n:String)(f:Ev):Ev:=λρ=>(f ρ).map λd=>.bl (isiB n d)
theorem qiG{e:Expr}{x:Str}{n:String}{f:Ev}{p p2 pos:Pos}(kit:Kit n)(hg:Gl X "isinstance")(hm:X.mg "isinstance" = none)(hg2:Gl X x)(hm2:X.mg x=none)(hb:zaE x=some (.type n))(he:PB X O e f)(hn:x ≠ "__name__" := by decide)(hd:(x == ("__debug__" : Str))=false:=by decide)
  (h1:zaf [e,.Name x p2] X.env=(false,eval e X.env)::zaf [.Name x p2] X.env:=by rfl) (h2:(backTo pos (zaf [.Name x p2] X.env)).any (·.1)=false:=by rfl) (h3:zaf [.Name x p2] X.env=(false,eval (.Name x p2) X.env)::zaf [] X.env:=by rfl) :
  PD X O (.Call (.Name "isinstance" p) [e,.Name x p2] [] pos) (eIsi n f):=
 PE.mono (qem qkR hg hm My.boot_isinstance (qbh he (qbh (qmF (v:=.ty n) hg2 hm2 hb rfl hn hd) qdy h3) h1) (by decide) (by decide) h1 h2) <| by
  rintro σ H Q ⟨H0,A0,A,E,ρ,d,st,e,q⟩
  obtain⟨x,ex,rfl⟩:=map_some e
  exact⟨H0,A0,A,E,ρ,x,st,ex,λv H1 x1 r1=>⟨A,x,v,n,_,rfl,r1,kit _ _,q _ H1 x1 (.bl _)⟩⟩
noncomputable def qfe:List Key->Option (List Int)
 | []=>some []
 | .inl i::ks=>(qfe ks).map (i::·)
 | _=>none
theorem qfo:∀ {k:List Key} {ns:List Int},qfe k=some ns->k=ns.map zao
 | [],ns,h=>by cases h;rfl
 | .inl i::ks,ns,h=>by obtain⟨ms,h1,rfl⟩:=map_some h;rw[qfo h1];rfl
theorem qdm:∀ns:List Int,qfe (ns.map zao)=some ns
 | []=>rfl
 | n::ns=>by rw[zak,qfe,qdm ns];rfl
noncomputable def intKeys{α:Type}:List (List Key×α)->Option (List (List Int×α))
 | []=>some []
 | p::l=>(qfe p.1).bind λns=>(intKeys l).map λr=>(ns,p.2)::r
noncomputable def kI'{α:Type}(p:List Int×α):List Key×α:=(p.1.map zao,p.2)
theorem qb1{α:Type}:∀ {l:List (List Key×α)} {m:List (List Int×α)},intKeys l=some m->l=m.map kI'
 | [],m,h=>by cases h;rfl
 | p::l,m,h=>by
  obtain⟨ns,h1,h⟩:=bind_some h
  obtain⟨r,h2,rfl⟩:=map_some h
  rw[zak,qb1 h2]
  congr 1
  show p=(ns.map zao,p.2)
  rw[<- qfo h1]
theorem qcx{α:Type}:∀m:List (List Int×α),intKeys (m.map kI')=some m
 | []=>rfl
 | p::m=>by rw[zak,intKeys,show(kI' p).1=p.1.map zao from rfl,qdm,qcx m];rfl
noncomputable def qhn(k:List Int):Bool:=(k.length == 1 || k.length == 2) && k.all λe=>decide (0<=e) && decide (e<=8)
theorem qjo{k:List Int}(h:qhn k=true):My.qhv k:=by
 simp only[qhn,zaC,Bool.or_eq_true,beq_iff_eq,zbW,decide_eq_true_eq]at h
 exact h
noncomputable def qkS:List D->Option D
 | [.dT l]=>(intKeys l).bind λm=>if m.all λp=>qhn p.1 then some (.dT l)else none
 | _=>none
theorem qhV{ds:List D}{d:D}(h:qkS ds=some d):∃l m,ds=[.dT l]/\d=.dT l/\intKeys l=some m/\(m.all λp=>qhn p.1)=true:=by
 unfold qkS at h
 split at h
 ·obtain⟨m,e1,h⟩:=bind_some h
  split at h
  ·cases h;exact⟨_,m,rfl,rfl,e1,by assumption⟩
  ·cases h
 ·cases h
theorem qdQ{xs:List (List Key×V)}{m:List (List Int×D)}(e:xs.map (·.1)=(m.map kI').map (·.1)):∃ps:List (List Int×V),xs=ps.map My.kI/\ps.map (·.1)=m.map (·.1):=by
 induction m generalizing xs with
 | nil=>cases xs with
  | nil=>exact⟨[],rfl,rfl⟩
  | cons _ _=>cases e
 | cons p m ih=>cases xs with
  | nil=>cases e
  | cons x xs=>
   rw[zak,zak,zak]at e
   injection e with e1 e2
   obtain⟨ps,h1,h2⟩:=ih e2
   refine⟨(p.1,x.2)::ps,?_,by rw[zak,zak,h2]⟩
   rw[zak,<- h1]
   congr 1
   show x=(p.1.map zao,x.2)
   rw[<- show x.1=p.1.map zao from e1]
theorem qm5:qiq X (.type "dict") qkS:=by
 intro pins s σ H xs us Q I r h
 obtain⟨A,ds,d,lv,rl,e,q⟩:=h
 obtain⟨l,m,rfl,rfl,e1,e2⟩:=qhV e
 obtain⟨v,rfl,h1⟩:=rl.one
 obtain⟨a,ys,rfl,h2,e3,r3⟩:=h1.dT_inv
 have el:=qb1 e1
 subst el
 obtain⟨ps,rfl,e4⟩:=qdQ e3
 obtain⟨_,_,hnd,_⟩:=My.qi8 I h2
 have hn:((ps.map My.kI).map λp=>(zaS (qC X.prog X.w)).hash p.1).Nodup:=by
  let cs:List My.Tm:=ps.map λp=>(p.1,(0:Int))
  have k1:cs.map (·.1)=ps.map (·.1):=by rw[zaB];rfl
  have:=My.qhK X.prog X.w (cs:=cs) (by rw[k1];exact hnd) (λt ht=>by
   have:t.1∈m.map (·.1):=by rw[<- e4,<- k1];exact List.mem_map.mpr ⟨t,ht,rfl⟩
   obtain⟨p,hp,ep⟩:=List.mem_map.mp this
   rw[<- ep]
   exact qjo (List.all_eq_true.mp e2 p hp))
  have e5:((cs.map My.kJ).map λp=>(zaS (qC X.prog X.w)).hash p.1)=(ps.map My.kI).map λp=>(zaS (qC X.prog X.w)).hash p.1:=by
   rw[zaB,zaB,zaB]
   rfl
  rw[<- e5];exact this
 exact My.qhL pins s σ H _ us Q I r ⟨a,_,rfl,h2,hn,λp hp=>q p _ (Ext.new hp) hp (λz=>lv p z hp) (.dT ql e3 (r3.fresh hp))⟩
noncomputable def ins{α:Type}(p:List Int×α):List (List Int×α)->List (List Int×α)
 | []=>[p]
 | q::r=>if HT.lexLt p.1 q.1=true then p::q::r else q::ins p r
noncomputable def qQ{α:Type}:List (List Int×α)->List (List Int×α)
 | []=>[]
 | p::r=>ins p (qQ r)
theorem ins_map{α β:Type}(f:α->β)(p:List Int×α):∀l:List (List Int×α),(ins p l).map (λx=>(x.1,f x.2))=ins (p.1,f p.2) (l.map λx=>(x.1,f x.2))
 | []=>rfl
 | q::r=>by
  rw[ins,zak,ins]
  by_cases h:HT.lexLt p.1 q.1=true
  ·rw[if_pos h,if_pos h];rfl
  ·rw[if_neg h,if_neg h,zak,ins_map f p r]
theorem qbA{α β:Type}(f:α->β):∀l:List (List Int×α),(qQ l).map (λx=>(x.1,f x.2))=qQ (l.map λx=>(x.1,f x.2))
 | []=>rfl
 | p::r=>by rw[qQ,ins_map,qbA f r,zak,qQ]
theorem qeG{α:Type}(p:List Int×α):∀l:List (List Int×α),(ins p l).Perm (p::l)
 | []=>.refl _
 | q::r=>by
  rw[ins]
  by_cases h:HT.lexLt p.1 q.1=true
  ·rw[if_pos h]
  ·rw[if_neg h];exact((qeG p r).cons q).trans (.swap ..)
theorem qY{α:Type}:∀l:List (List Int×α),(qQ l).Perm l
 | []=>.refl _
 | p::r=>(qeG p (qQ r)).trans ((qY r).cons p)
noncomputable def qaP{α:Type}(l:List (List Int×α)):Prop:=l.Pairwise λa b=>HT.lexLt a.1 b.1=true
theorem qd8{α:Type}(p:List Int×α):∀l:List (List Int×α),(∀q∈l,q.1≠p.1)->qaP l->qaP (ins p l)
 | [],_,_=>by rw[ins];exact List.pairwise_singleton _ _
 | q::r,hn,h=>by
  rw[ins]
  have hq:=List.pairwise_cons.mp h
  by_cases c:HT.lexLt p.1 q.1=true
  ·rw[if_pos c]
   refine List.pairwise_cons.mpr ⟨λx hx=>?_,h⟩
   rcases List.mem_cons.mp hx with e|e
   ·rw[e];exact c
   ·exact My.qgK _ _ _ c (hq.1 x e)
  ·rw[if_neg c]
   refine List.pairwise_cons.mpr ⟨λx hx=>?_,qd8 p r (λy hy=>hn y (zaz _ hy)) hq.2⟩
   rcases List.mem_cons.mp ((qeG p r).subset hx)with e|e
   ·rw[e]
    rcases My.qf1 p.1 q.1 (λz=>hn q (zay ..) z.symm)with z|z
    ·exact absurd z c
    ·exact z
   ·exact hq.1 x e
theorem qaY{α:Type}:∀l:List (List Int×α),(l.map (·.1)).Nodup->qaP (qQ l)
 | [],_=>List.Pairwise.nil
 | p::r,h=>by
  rw[zak,List.nodup_cons]at h
  refine qd8 p _ (λq hq z=>h.1 ?_) (qaY r h.2)
  exact List.mem_map.mpr ⟨q,(qY r).subset hq,z⟩
theorem qeK{α:Type}{l m:List (List Int×α)}(h1:qaP l)(h2:qaP m)(hp:l.Perm m):l=m:=by
 refine List.Perm.eq_of_pairwise (le:=λ(a b:List Int×α)=>HT.lexLt a.1 b.1=true) (λa b _ _ x y=>?_) h1 h2 hp
 have:=My.qgK _ _ _ x y
 rw[My.qf8]at this
 cases this
theorem qgw{A:Av}{H:Hp}{m:List (List Int×D)}{ps qs:List (List Int×V)}(hnd:(ps.map (·.1)).Nodup)(h:PP A H (m.map kI') (ps.map My.kI))(hs:My.qhf qs)(hp:qs.Perm ps):Paired (λ(p:List Int×D) (q:List Int×V)=>p.1=q.1/\Rep A H p.2 q.2) (qQ m) qs:=by
 -- both by one list of triples
 have key:∀ {m:List (List Int×D)} {ps:List (List Int×V)},PP A H (m.map kI') (ps.map My.kI)->∃ts:List (List Int×(D×V)),m=ts.map (λt=>(t.1,t.2.1))/\ps=ts.map (λt=>(t.1,t.2.2))/\∀t∈ts,Rep A H t.2.1 t.2.2:=by
  intro m
  induction m with
  | nil=>intro ps h;cases ps with
   | nil=>exact⟨[],rfl,rfl,λ_ h=>nomatch h⟩
   | cons _ _=>cases h
  | cons p m ih=>intro ps h;cases ps with
   | nil=>cases h
   | cons q ps=>
    cases h with
    | cons h t=>
     obtain⟨ts,e1,e2,e3⟩:=ih t
     have ek:p.1=q.1:=My.qb5.mp h.1
     refine⟨(p.1,(p.2,q.2))::ts,by rw[zak,<- e1],by rw[zak,<- e2];congr 1;rw[ek],λt ht=>?_⟩
     rcases List.mem_cons.mp ht with e|e
     ·rw[e];exact h.2
     ·exact e3 t e
 obtain⟨ts,e1,e2,e3⟩:=key h
 have d1:qQ m=(qQ ts).map λt=>(t.1,t.2.1):=by rw[e1,qbA]
 have d2:qs=(qQ ts).map λt=>(t.1,t.2.2):=by
  have s1:qaP (qQ ps):=qaY ps hnd
  have:=qeK (l:=qs) (m:=qQ ps) hs s1 (hp.trans (qY ps).symm)
  rw[this,e2,qbA]
 rw[d1,d2]
 refine My.qa6 _ λt ht=>⟨rfl,e3 t ((qY ts).subset ht)⟩
theorem qhr{A:Av}{H:Hp}:∀ns:List Int,RepL A H (ns.map .int) (ns.map V.int)
 | []=>.nil
 | n::ns=>.cons (.int n) (qhr ns)
theorem qoi{o:Expr}{name:Str}{id:String}{r:V->List V->Hp->VK->Prop}{to:TE}{apos cpos:Pos}(slot:Slot "dict" name id)(hty:typeOf (.builtin id)=pure (.type "method_descriptor"))(hm:MtR X id r)(ho:PE X o to)
  (hbase:attributeBase o name X.env (eval o X.env)=eval o X.env:=by rfl) (hline:(apos.endLine == cpos.line)=true:=by rfl):PE X (.Call (.Attribute o name apos) [] [] cpos) (λσ H Q=>to σ H λx H1=>∃a,x=.ref a/\IsD H1 a/\r x [] H1 Q):=by
 intro pins s σ H Q I h
 refine wpAny_Call_method0_late hbase hline (thn (ho pins s σ H _ I h) λv s1 ⟨x,H1,I1,r1,a,ex,isd,q1⟩=>?_)
 subst ex
 cases r1
 obtain⟨h1,h2,_⟩:=qiH I1 isd
 exact⟨"dict",id,PySem.F.plainAttrs_dict,slot,hty,h1,h2,Calls.callWith_builtin rfl (PySem.evalArgs_none (hm pins s1 σ H1 (.ref a) [] (.ref a) [] Q I1 rfl .nil q1))⟩
noncomputable def qh4(g:D->Option D)(f:Ev):Ev:=λρ=>(f ρ).bind g
noncomputable def qeE:D->Option D
 | .dT l=>(intKeys l).bind λm=>if m.length<64 then some (.lst ((qQ m).map λp=>.tup [.tup (p.1.map .int),p.2]))else none
 | _=>none
theorem qhO{o:Expr}{f:Ev}{p pos apos cpos:Pos}(hc:X.calm=true)(hu:X.A.units+64<cLine)(hg:Gl X "sorted")(hm:X.mg "sorted" = none)(ho:PB X O o f)
  (hp:∀ {to:TE},PE X o to->PE X (.Call (.Attribute o "items" apos) [] [] cpos) (λσ H Q=>to σ H λx H1=>∃a,x=.ref a/\IsD H1 a/\My.qlG x [] H1 Q))
  (he:zaf [.Call (.Attribute o "items" apos) [] [] cpos] X.env=(false,eval (.Call (.Attribute o "items" apos) [] [] cpos) X.env)::zaf [] X.env:=by rfl) (hpl:(backTo pos (zaf [] X.env)).any (·.1)=false:=by rfl) :
  PF X O (.Call (.Name "sorted" p) [.Call (.Attribute o "items" apos) [] [] cpos] [] pos) (qh4 qeE f):=by
 have main:CallR X (.builtin "sorted") (λxs H Q=>∃A r a ys m,xs=[.ref r]/\Live A H/\H r=some (.ext λh=>h.IsItemsView r a)/\Rd H a (.dT ys)/\ys.map (·.1)=(m.map kI').map (·.1)/\RepL A H ((m.map kI').map (·.2)) (ys.map (·.2))/\m.length<64/\∀a H',Ext A H H'->H a=none->¬ A a->Own (λb=>A b\/b=a) H' (.lst ((qQ m).map λp=>.tup [.tup (p.1.map .int),p.2])) a->Q (.ref a) H'):=by
  intro pins s σ H xs us Q I r h
  obtain⟨A,r',a,ys,m,rfl,lv,hr,h2,e3,r3,hlt,q⟩:=h
  obtain⟨ps,rfl,e4⟩:=qdQ e3
  obtain⟨_,_,hnd,_⟩:=My.qi8 I h2
  have hlen:ps.length=m.length:=by have:=congrArg zbr e4;simpa using this
  refine My.qfl hc hu pins s σ H _ us Q I r ⟨r',a,ps,rfl,hr,h2,by omega,λla us qs H2 sm n0 h3 pr pm so=>?_⟩
  have sb:=qgw (A:=A) (H:=H) hnd (qhW e3 r3) so pm
  have up:∀ {d:D} {v:V},Rep A H d v->Rep (λb=>A b\/b=la) H2 d v:=λr=>by
   have r1:Rep (λb=>A b\/b=la) H _ _:=r.av λb hb=>hb.imp id λz=>by rw[z];exact n0
   exact r1.ext (Ext.same sm)
  have rl2:∀ {ts:List (List Int×D)} {qs:List (List Int×V)} {us:List V},Paired (λ(p:List Int×D) (q:List Int×V)=>p.1=q.1/\Rep A H p.2 q.2) ts qs->Paired (My.elP H2) us qs->RepL (λb=>A b\/b=la) H2 (ts.map λp=>.tup [.tup (p.1.map .int),p.2]) us:=by
   intro ts qs us h
   induction h generalizing us with
   | nil=>intro h;cases h;exact .nil
   | cons h t ih=>
    intro h'
    cases h' with
    | cons h' t'=>
     obtain⟨a,b,rfl,ha,hb⟩:=h'
     exact .cons (.tup ha (.cons (.tup hb (by rw[h.1];exact qhr _)) (.cons (up h.2) .nil))) (ih t')
  exact q la H2 (Ext.same sm) n0 (λz=>lv la z n0) (.lst h3 (rl2 sb pr))
 refine PE.mono (qem main hg hm My.boot_sorted (qbh (hp ho) qdy he) (by decide) (by decide) he hpl) λσ H Q ⟨H0,A0,A,E,ρ,d,st,e,q⟩=>?_
 obtain⟨x,ex,e⟩:=bind_some e
 cases x with
 | dT l=>
  obtain⟨m,e1,e⟩:=bind_some e
  split at e
  case isFalse=>cases e
  rename_i hlt
  cases e
  have el:=qb1 e1
  subst el
  refine⟨H0,A0,A,E,ρ,_,st,ex,λv H1 x1 r1=>?_⟩
  obtain⟨a,ys,rfl,h2,e3,r3⟩:=r1.dT_inv
  refine⟨a,rfl,.inr ⟨ys,h2⟩,a,ys,rfl,rfl,h2,λr hr=>⟨A,r,a,ys,m,rfl,Live.ext (st.mono x1).live (Ext.new hr),ql,qba (λz=>?_) h2,e3,r3.ext (Ext.new hr),hlt,λa' H' x' n na o=>?_⟩⟩
  ·subst z;rcases h2 with h2|⟨_,h2⟩ <;> (rw[hr]at h2;cases h2)
  ·have x2:=(x1.trans (Ext.new hr)).trans x'
   exact q a' H' x2 ((x1.trans (Ext.new hr)).free n) na o
 | _=>cases e
end
noncomputable def dSlA:D->Option Int->Option Int->Option D
 | .tup l,lo,hi=>some (.tup (cutD l lo hi))
 | .lst l,lo,hi=>some (.lst (cutD l lo hi))
 | _,_,_=>none
theorem sl_A{X:Cx}:SlR X (rS dSlA):=SlR.mono (SlR.or sl_T (SlR.mono sl_L λx lo hi H Q (h:rS dSlL x lo hi H Q)=>by
  obtain⟨A,dx,d,lv,rx,e,q⟩:=h
  exact⟨A,dx,d,lv,rx,e,λa H' x n na o=>q _ H' x ((o.av (A':=A) λb hb=>.inl (.inl hb)).rep na)⟩)) λx lo hi H Q ⟨A,dx,d,lv,rx,e,q⟩=>by
 cases dx with
 | tup l=>exact .inl ⟨A,_,d,lv,rx,e,q⟩
 | lst l=>exact .inr ⟨A,_,d,lv,rx,e,q⟩
 | _=>cases e
section
variable {ρ:Rho}{f g:Ev}{d x y:D}{i j:Int}{k:Nat}
@[simp] theorem q_seq{f g:Sv}:sSeq f g ρ=(f ρ).bind λo=>match o with | .nx ρ'=>g ρ'|o=>some o:=rfl
@[simp] theorem q_set:sSet k f ρ=(f ρ).map λd=>.nx (ρ.set k (some d)):=rfl
@[simp] theorem q_if{c:Bv}{f g:Sv}:sIf c f g ρ=(c ρ).bind λb=>if b=true then f ρ else g ρ:=rfl
@[simp] theorem q_rt:sRt f ρ=(f ρ).map .rt:=rfl
@[simp] theorem q_nx:sNx ρ=some (.nx ρ):=rfl
@[simp] theorem q_bad:sBad ρ=none:=rfl
@[simp] theorem q_asg{g:Gv}:sAsg f g ρ=(f ρ).bind λd=>(g d ρ).map .nx:=rfl
@[simp] theorem q_for{f:Lv}{g:Gv}{b:Sv}:sFor f g b ρ=(f ρ).bind λitems=>forD g b items ρ:=rfl
@[simp] theorem q_drop:qmu f ρ=(f ρ).map λ_=>.nx ρ:=rfl
@[simp] theorem q_app:sApp k f ρ=(eVar k ρ).bind λx=>match x with
 | .lst l=>(f ρ).bind λd=>if szOk l.length then some (.nx (ρ.set k (some (.lst (l++[d])))))else none
 | _=>none:=rfl
@[simp] theorem q_put:sPut k f g ρ=(g ρ).bind λe=>(eVar k ρ).bind λx=>(f ρ).bind λq=>(dPut x q e).map λd=>.nx (ρ.set k (some d)):=rfl
@[simp] theorem q_var:eVar k ρ=(ρ[k]?).join:=rfl
@[simp] theorem q_c:eC d ρ=some d:=rfl
@[simp] theorem q_op{o:D->D->Option D}:eOp o f g ρ=(f ρ).bind λx=>(g ρ).bind λy=>o x y:=rfl
@[simp] theorem q_call{F:List D->Option D}{l:Lv}:qT F l ρ=(l ρ).bind F:=rfl
@[simp] theorem q_lnil:lNil ρ=some []:=rfl
@[simp] theorem q_lcons{l:Lv}:qz f l ρ=(f ρ).bind λx=>(l ρ).bind λxs=>some (x::xs):=rfl
@[simp] theorem q_tup{l:Lv}:eTup l ρ=(l ρ).map .tup:=rfl
@[simp] theorem q_lst{l:Lv}:eLst l ρ=(l ρ).map .lst:=rfl
@[simp] theorem q_bind{o:D->Option D}:qh4 o f ρ=(f ρ).bind o:=rfl
@[simp] theorem q_bof:bOf f ρ=(f ρ).bind asB:=rfl
@[simp] theorem q_asB{b:Bool}:asB (.bl b)=some b:=rfl
@[simp] theorem q_asI:asI (.int i)=some i:=rfl
@[simp] theorem q_bnot{c:Bv}:bNot c ρ=(c ρ).map (!·):=rfl
@[simp] theorem q_band{a b:Bv}:bAnd a b ρ=(a ρ).bind λx=>if x=true then b ρ else some false:=rfl
@[simp] theorem q_bor{a b:Bv}:bOr a b ρ=(a ρ).bind λx=>if x=true then some true else b ρ:=rfl
@[simp] theorem q_and:eAnd f g ρ=(f ρ).bind λx=>(asB x).bind λb=>if b=true then g ρ else some (.bl false):=rfl
@[simp] theorem q_not:eNot f ρ=(f ρ).bind λx=>(asB x).map λb=>.bl (!b):=rfl
@[simp] theorem q_neg:eNeg f ρ=(f ρ).bind λd=>(asI d).map λi=>.int (-i):=rfl
@[simp] theorem q_ifx{c:Bv}:eIf c f g ρ=(c ρ).bind λb=>if b=true then f ρ else g ρ:=rfl
@[simp] theorem q_isi{n:String}:eIsi n f ρ=(f ρ).map λd=>.bl (isiB n d):=rfl
@[simp] theorem q_get2{a b c:Ev}:qfQ a b c ρ=(a ρ).bind λd=>(b ρ).bind λk=>(c ρ).bind λe=>(qal d k).map λo=>o.getD e:=rfl
@[simp] theorem q_sl{o:D->Option Int->Option Int->Option D}{a b:Ov}:eSl o f a b ρ=(f ρ).bind λx=>(a ρ).bind λlo=>(b ρ).bind λhi=>o x lo hi:=rfl
@[simp] theorem q_oN:qli ρ=some none:=rfl
@[simp] theorem q_oS:qly f ρ=(f ρ).bind λd=>(asI d).map some:=rfl
@[simp] theorem q_lR{o:List D->Option (List D)}{l:Lv}:lR o l ρ=(l ρ).bind o:=rfl
@[simp] theorem q_lSeq:lSeq f ρ=(f ρ).bind λd=>match d with
 | .lst l=>some l
 | .tup l=>some l
 | .dT l=>some (l.map λp=>.tup (p.1.map keyD))
 | _=>none:=rfl
@[simp] theorem q_comp{ms:List (Option Nat)}{it:Lv}{g:Gv}{c:Bv}:qer ms it g c f ρ=(it ρ).bind λitems=>if szOk items.length then(qau g c f items (inS ms ρ)).map .lst else none:=rfl
@[simp] theorem q_yes:bYes ρ=some true:=rfl
@[simp] theorem q_name:qx k d ρ=some (ρ.set k (some d)):=rfl
@[simp] theorem q_gnil:qa8 [] ρ=some ρ:=rfl
@[simp] theorem q_gcons{g:Gv}{h:Gsv}{ds:List D}:qL g h (d::ds) ρ=(g d ρ).bind λρ'=>h ds ρ':=rfl
@[simp] theorem q_gtup{n:Nat}{h:Gsv}{l:List D}:qaQ n h (.tup l) ρ=if l.length=n then h l ρ else none:=rfl
@[simp] theorem q_sub:dSub (.int i) (.int j)=some (.int (i-j)):=rfl
@[simp] theorem q_addI:qhN (.int i) (.int j)=some (.int (i+j)):=rfl
@[simp] theorem q_ltI:dLt (.int i) (.int j)=some (.bl (decide (i<j))):=rfl
@[simp] theorem q_gtI:dGtI (.int i) (.int j)=some (.bl (decide (j<i))):=rfl
@[simp] theorem q_geI:dGeI (.int i) (.int j)=some (.bl (decide (j<=i))):=rfl
@[simp] theorem q_eqI:dEq (.int i) (.int j)=some (.bl (decide (i=j))):=by
 unfold dEq eqD
 rw[if_pos (.inl rfl)]
 simp
@[simp] theorem q_neI:dNe (.int i) (.int j)=some (.bl (!decide (i=j))):=by
 unfold dNe eqD
 rw[if_pos (.inl rfl)]
 simp
@[simp] theorem q_eqB{a b:Bool}:dEq (.bl a) (.bl b)=some (.bl (decide (a=b))):=by
 unfold dEq eqD
 rw[if_pos (.inl rfl)]
 simp
@[simp] theorem q_neB{a b:Bool}:dNe (.bl a) (.bl b)=some (.bl (!decide (a=b))):=by
 unfold dNe eqD
 rw[if_pos (.inl rfl)]
 simp
theorem qD(h:0<j):dMod (.int i) (.int j)=some (.int (i%j)):=if_pos h
theorem qae(h:0<j)(h2:j<1073741824):dDiv (.int i) (.int j)=some (.int (i/j)):=if_pos ⟨h,h2⟩
theorem qit(h:0<=j)(h2:j<=1000000)(h3:i.natAbs<2^64):dPow (.int i) (.int j)=some (.int (i^j.toNat)):=if_pos ⟨h,h2,h3⟩
@[simp] theorem q_lenL{l:List D}:dLen [.lst l]=some (.int l.length):=rfl
@[simp] theorem q_lenT{l:List D}:dLen [.tup l]=some (.int l.length):=rfl
@[simp] theorem q_min:qjZ [.int i,.int j]=some (.int (if j<i then j else i)):=rfl
@[simp] theorem q_max:qiI [.int i,.int j]=some (.int (if j>i then j else i)):=rfl
@[simp] theorem q_tuL{l:List D}:qch [.lst l]=some (.tup l):=rfl
@[simp] theorem q_tuT{l:List D}:qch [.tup l]=some (.tup l):=rfl
@[simp] theorem q_liL{l:List D}:qfS [.lst l]=some (.lst l):=rfl
@[simp] theorem q_liT{l:List D}:qfS [.tup l]=some (.lst l):=rfl
@[simp] theorem q_slT{l:List D}{lo hi:Option Int}:dSlA (.tup l) lo hi=some (.tup (cutD l lo hi)):=rfl
@[simp] theorem q_slL{l:List D}{lo hi:Option Int}:dSlA (.lst l) lo hi=some (.lst (cutD l lo hi)):=rfl
@[simp] theorem q_itL{l:List D}:qu (.lst l) (.int i)=atI l i:=rfl
@[simp] theorem q_itT{l:List D}:qu (.tup l) (.int i)=atI l i:=rfl
@[simp] theorem q_itD{l:List (List Key×D)}:qu (.dT l) d=(qal (.dT l) d).join:=rfl
@[simp] theorem isi_int_int:isiB "int" (.int i)=true:=rfl
@[simp] theorem isi_bool_int:isiB "bool" (.int i)=false:=rfl
@[simp] theorem isi_tuple_tup{l:List D}:isiB "tuple" (.tup l)=true:=rfl
@[simp] theorem isi_list_lst{l:List D}:isiB "list" (.lst l)=true:=rfl
end
noncomputable def turn(g:Gv)(b:Sv)(x:D):Sv:=λρ=>(g x ρ).bind b
theorem qbb{g:Gv}{b:Sv}{items:List D}{ρ:Rho}(I:Nat->Rho->Prop)(h0:I 0 ρ)(hs:∀i x ρ,items[i]?=some x->I i ρ->∃ρ',turn g b x ρ=some (.nx ρ')/\I (i+1) ρ'):∃ρ',forD g b items ρ=some (.nx ρ')/\I items.length ρ':=by
 have gen:∀(m:List D) (k:Nat) (ρ:Rho),items.drop k=m->k<=items.length->I k ρ->∃ρ',forD g b m ρ=some (.nx ρ')/\I items.length ρ':=by
  intro m
  induction m with
  | nil=>
   intro k ρ e hk h
   have:items.length<=k:=by rw[List.drop_eq_nil_iff]at e;exact e
   have:k=items.length:=by omega
   subst this
   exact⟨ρ,rfl,h⟩
  | cons x m ih=>
   intro k ρ e hk h
   have hlt:k<items.length:=by
    rcases Nat.lt_or_ge k items.length with z|z
    ·exact z
    ·rw[List.drop_eq_nil_iff.mpr z]at e;cases e
   rw[List.drop_eq_getElem_cons hlt]at e
   injection e with e1 e2
   obtain⟨ρ',h1,h2⟩:=hs k x ρ (by rw[<- e1];simp[hlt]) h
   obtain⟨ρ2,h3,h4⟩:=ih (k+1) ρ' e2 hlt h2
   refine⟨ρ2,?_,h4⟩
   unfold turn at h1
   obtain⟨ρ1,z1,z2⟩:=bind_some h1
   unfold forD
   rw[z1]
   show(b ρ1).bind _=_
   rw[z2]
   exact h3
 exact gen items 0 ρ rfl (zaX _) h0
theorem qG{n:Nat}{f:Sv}{ds:List D}{d:D}(h:f (qd n ds)=some (.rt d)):runD n f ds=some d:=by
 unfold runD;rw[h];rfl
theorem qpe{n:Nat}{f:Sv}{ds:List D}{ρ:Rho}(h:f (qd n ds)=some (.nx ρ)):runD n f ds=some .non:=by
 unfold runD;rw[h];rfl
theorem qe{f g:Sv}{ρ ρ':Rho}(h:f ρ=some (.nx ρ')):sSeq f g ρ=g ρ':=by
 unfold sSeq;rw[h];rfl
theorem qmf{f g:Sv}{ρ:Rho}{d:D}(h:f ρ=some (.rt d)):sSeq f g ρ=some (.rt d):=by
 unfold sSeq;rw[h];rfl
theorem if_f{c:Bv}{f g:Sv}{ρ:Rho}(h:c ρ=some false):sIf c f g ρ=g ρ:=by
 unfold sIf;rw[h];rfl
theorem qm{k:Nat}{f:Ev}{ρ:Rho}{d:D}(h:f ρ=some d):sSet k f ρ=some (.nx (ρ.set k (some d))):=by
 unfold sSet;rw[h];rfl
theorem rt_v{f:Ev}{ρ:Rho}{d:D}(h:f ρ=some d):sRt f ρ=some (.rt d):=by
 unfold sRt;rw[h];rfl
theorem qar{f:Lv}{g:Gv}{b rest:Sv}{ρ:Rho}{items:List D}{out:Option Out}(hf:f ρ=some items)(I:Nat->Rho->Prop)(h0:I 0 ρ)(hs:∀i x ρ,items[i]?=some x->I i ρ->∃ρ',turn g b x ρ=some (.nx ρ')/\I (i+1) ρ')(k:∀ρ',I items.length ρ'->rest ρ'=out):sSeq (sFor f g b) rest ρ=out:=by
 obtain⟨ρ',e,h⟩:=qbb (g:=g) (b:=b) I h0 hs
 rw[qe (by rw[q_for,hf];exact e)]
 exact k ρ' h
open My (look put qZ add1 qU)
noncomputable def kD(t:My.Tm):List Key×D:=(t.1.map zao,.int t.2)
noncomputable def tupI(k:List Int):D:=.tup (k.map .int)
noncomputable def tmD(t:My.Tm):D:=.tup [tupI t.1,.int t.2]
theorem qfn:∀k:List Int,asKs (k.map .int)=some (k.map zao)
 | []=>rfl
 | i::k=>by rw[zak,asKs,qfn k];rfl
@[simp] theorem asT_tupI(k:List Int):asT (tupI k)=some (k.map zao):=qfn k
theorem qoD(cs:List My.Tm)(k:List Int):valD (cs.map kD) (k.map zao:List Key)=(look cs k).map D.int:=by
 induction cs with
 | nil=>rfl
 | cons t cs ih=>
  rw[zak]
  by_cases e:t.1=k
  ·have:(kD t).1=k.map zao:=by show t.1.map zao=_;rw[e]
   simp[valD,look,za4,this,e,kD]
  ·have:¬ (kD t).1=k.map zao:=by show ¬ t.1.map zao=_;rw[My.qb5];exact e
   have a:valD (kD t::cs.map kD) (k.map zao)=valD (cs.map kD) (k.map zao):=by simp[valD,za4,this]
   rw[a,ih]
   simp[look,za4,e]
theorem qlX(cs:List My.Tm)(k:List Int)(c:Int):putD (cs.map kD) (k.map zao:List Key) (.int c)=(put cs k c).map kD:=by
 unfold putD put
 have e:((cs.map kD).any λkv=>decide (kv.1=(k.map zao:List Key)))=cs.any λt=>decide (t.1=k):=by
  rw[List.any_map]
  congr 1
  funext t
  exact decide_eq_decide.mpr (My.qb5 (a:=t.1) (b:=k))
 rw[e]
 by_cases h:(cs.any λt=>decide (t.1=k))=true
 ·rw[if_pos h,if_pos h,zaB,zaB]
  congr 1
  funext t
  show(if t.1.map zao=(k.map zao:List Key)then((t.1.map zao:List Key),D.int c)else kD t)=kD (if t.1=k then(t.1,c)else t)
  by_cases z:t.1=k
  ·rw[if_pos z,if_pos (My.qb5.mpr z)];rfl
  ·rw[if_neg z,if_neg (λq=>z (My.qb5.mp q))]
 ·rw[if_neg h,if_neg h,zbm]
  rfl
@[simp] theorem look_kD(cs:List My.Tm)(k:List Int):qal (.dT (cs.map kD)) (tupI k)=some ((look cs k).map D.int):=by
 show(asT (tupI k)).map _=_
 rw[asT_tupI,zad,qoD]
theorem qjU{cs:List My.Tm}(k:List Int)(c:Int)(h:cs.length<=1000000):dPut (.dT (cs.map kD)) (tupI k) (.int c)=some (.dT ((put cs k c).map kD)):=by
 show(asT (tupI k)).bind _=_
 rw[asT_tupI,zac,if_pos (by rw[szOk,zan];exact decide_eq_true h),qlX]
theorem qh1(cs:List My.Tm):intKeys (cs.map kD)=some (cs.map λt=>(t.1,D.int t.2)):=by
 have:=qcx (cs.map λt=>(t.1,D.int t.2))
 rw[zaB]at this
 exact this
theorem qmV(a b:List Int):dLt (tupI a) (tupI b)=some (.bl (HT.lexLt a b)):=by
 have h:∀k:List Int,qap (k.map .int)=some k:=λk=>by
  induction k with
  | nil=>rfl
  | cons i k ih=>rw[zak,qap,ih];rfl
 show(qap (a.map .int)).bind _=_
 rw[h a,zac,h b];rfl
theorem qhD{cs:List My.Tm}(h:cs.length<64):qeE (.dT (cs.map kD))=some (.lst ((qQ cs).map tmD)):=by
 show(intKeys (cs.map kD)).bind _=_
 rw[qh1,zac,if_pos (by rw[zan];exact h)]
 have:(qQ (cs.map λt=>(t.1,D.int t.2)))=(qQ cs).map λt=>(t.1,D.int t.2):=(qbA D.int cs).symm
 rw[this,zaB]
 rfl
theorem qoF{a b c:Int}(hc:0<c){i:Nat}(h:i<My.rsz a b c):a+(i:Int)*c<b:=by
 unfold My.rsz zbp at h
 rw[if_pos (by omega)]at h
 split at h
 ·have h1:(i:Int)<=(b-a-1)/c:=by omega
  have h2:(i:Int)*c<=(b-a-1)/c*c:=Int.mul_le_mul_of_nonneg_right h1 (by omega)
  have h3:=Int.ediv_mul_le (b-a-1) (show c≠0 by omega)
  omega
 ·simp at h
theorem cut2{n:Int}(hn:n=1\/n=2)(a b:Int):∃k:List Int,cutD [.int a,.int b] none (some n)=k.map .int/\(k.length:Int)=n/\∀e∈k,e=a\/e=b:=by
 rcases hn with rfl|rfl
 ·exact⟨[a],rfl,rfl,λe he=>by simp at he;exact .inl he⟩
 ·exact⟨[a,b],rfl,rfl,λe he=>by simpa using he⟩
theorem qeJ{ns:List Int}{k:Int}(h0:0<=k)(h:k<(ns.length:Int)):∃c,atI (ns.map D.int) k=some (.int c)/\ns[k.toNat]?=some c:=by
 obtain⟨j,rfl⟩:∃j:Nat,k=(j:Int):=⟨k.toNat,by omega⟩
 have hj:j<ns.length:=by omega
 exact⟨ns[j],qaf (by simp[hj]),by simp[hj]⟩
noncomputable def qep:D->Option (List D)
 | .lst l=>some l
 | .tup l=>some l
 | _=>none
noncomputable def zipL:List D->List D->List D
 | x::xs,y::ys=>.tup [x,y]::zipL xs ys
 | _,_=>[]
noncomputable def lZip(f:Lv):Lv:=λρ=>(f ρ).bind λds=>match ds with
 | [a,b]=>(qep a).bind λxs=>(qep b).map λys=>zipL xs ys
 | _=>none
theorem qg3:∀ {xs ys:List D} {i:Nat} {d:D},(zipL xs ys)[i]?=some d->∃x y,xs[i]?=some x/\ys[i]?=some y/\d=.tup [x,y]
 | [],_,i,d,h=>by simp[zipL]at h
 | _::_,[],i,d,h=>by simp[zipL]at h
 | x::xs,y::ys,0,d,h=>by simp[zipL]at h;exact⟨x,y,rfl,rfl,h.symm⟩
 | x::xs,y::ys,i+1,d,h=>qg3 (xs:=xs) (ys:=ys) (i:=i) (by simpa[zipL]using h)
theorem qhs:∀ {xs ys:List D} {i:Nat},(zipL xs ys).length<=i->xs.length<=i\/ys.length<=i
 | [],_,i,_=>.inl (zaX _)
 | _::_,[],i,_=>.inr (zaX _)
 | x::xs,y::ys,0,h=>by simp[zipL]at h
 | x::xs,y::ys,i+1,h=>(qhs (xs:=xs) (ys:=ys) (i:=i) (by simpa[zipL]using h)).imp (λz=>by simpa using z) λz=>by simpa using z
theorem qgq{A:Av}{H:Hp}{K:zae}{d:D}{l:List D}{v:V}(h:qep d=some l)(r:Rep A H d v):∃t a xs,v=.ref a/\My.SqB K t H a xs/\RepL A H l xs/\∀A' H',Rep A' H' d v->∃ys,My.SqB K t H' a ys/\RepL A' H' l ys:=by
 cases d with
 | lst m=>
  cases h
  obtain⟨a,xs,rfl,h1,r1⟩:=RepB.lst_inv (.of r)
  refine⟨false,a,xs,rfl,.inl h1,r1,λA' H' r'=>?_⟩
  obtain⟨a',ys,e,h2,r2⟩:=RepB.lst_inv (.of r')
  cases e
  exact⟨ys,.inl h2,r2⟩
 | tup m=>
  cases h
  obtain⟨a,xs,rfl,h1,r1⟩:=RepB.tup_inv (.of r)
  refine⟨true,a,xs,rfl,.inl (.inl h1),r1,λA' H' r'=>?_⟩
  obtain⟨a',ys,e,h2,r2⟩:=RepB.tup_inv (.of r')
  cases e
  exact⟨ys,.inl (.inl h2),r2⟩
 | _=>cases h
theorem qnd{X:Cx}{O:List Nat}{elts:List Expr}{x1}{tp:Pos}{a b:Expr}{f:Lv}{p pos:Pos}(hg:Gl X "zip")(hm:X.mg "zip" = none)(ha:PDA X O [a,b] f)(hs:zaf [a,b] X.env=[(false,eval a X.env),(false,eval b X.env)]:=by rfl)(hs2:zaf [b] X.env=[(false,eval b X.env)]:=by rfl) :
  PDI X O (.Tuple elts x1 tp) (.Call (.Name "zip" p) [a,b] [] pos) (lZip f):=PI.mono (My.qqg hg hm ha hs hs2) λσ H R ⟨H0,A0,A,E,ρ,items,st,e,q⟩=>by
 obtain⟨ds,e1,e⟩:=bind_some e
 refine⟨H0,A0,A,E,ρ,ds,st,e1,λvs H1 x1 r1=>?_⟩
 split at e
 case h_2=>cases e
 rename_i da db
 obtain⟨xs,e2,e⟩:=bind_some e
 obtain⟨ys,e3,rfl⟩:=map_some e
 obtain⟨v,w,rfl,r2,r3⟩:=r1.two
 obtain⟨t1,l1,us,rfl,q1,_,k1⟩:=qgq (K:=X.K) e2 r2
 obtain⟨t2,l2,ws,rfl,q2,_,k2⟩:=qgq (K:=X.K) e3 r3
 refine⟨t1,t2,l1,l2,us,ws,rfl,q1,q2,q _ H1 [.rep da (.ref l1),.rep db (.ref l2)] x1 (λp hp=>?_) ?_⟩
 ·rcases List.mem_cons.mp hp with z|z
  ·rw[z];exact r2
  ·rw[List.mem_singleton.mp z];exact r3
 ·intro A' H' lv hE i
  have a1:Rep A' H' da (.ref l1):=hE (.rep da (.ref l1)) (zay ..)
  have a2:Rep A' H' db (.ref l2):=hE (.rep db (.ref l2)) (zaz _ (zay ..))
  obtain⟨us',g1,rl1⟩:=k1 A' H' a1
  obtain⟨ws',g2,rl2⟩:=k2 A' H' a2
  refine⟨λhi=>⟨us',ws',g1,g2,(qhs hi).imp (λz=>by rw[rl1.length];exact z) λz=>by rw[rl2.length];exact z⟩,λd hd=>?_⟩
  obtain⟨x,y,ex,ey,rfl⟩:=qg3 hd
  obtain⟨u,eu,ru⟩:=rl1.get' ex
  obtain⟨w,ew,rw'⟩:=rl2.get' ey
  refine⟨⟨us',ws',g1,g2,(List.getElem?_eq_some_iff.mp eu).1,(List.getElem?_eq_some_iff.mp ew).1⟩,λx' H2 ⟨p,u',w',e4,n,e5,e6⟩=>?_⟩
  subst e4 e5
  obtain⟨z1,z2⟩:=e6 us' ws' g1 g2
  rw[eu]at z1;cases z1
  rw[ew]at z2;cases z2
  exact⟨Ext.new n,.tup ql (.cons (ru.ext (Ext.new n)) (.cons (rw'.ext (Ext.new n)) .nil))⟩
@[simp] theorem q_zip{f:Lv}{ρ:Rho}:lZip f ρ=(f ρ).bind λds=>match ds with
 | [a,b]=>(qep a).bind λxs=>(qep b).map λys=>zipL xs ys
 | _=>none:=rfl
@[simp] theorem q_seqL{l:List D}:qep (.lst l)=some l:=rfl
@[simp] theorem q_seqT{l:List D}:qep (.tup l)=some l:=rfl
theorem qoT{a b A B:Int}(h1:-A<a)(h2:a<A)(h3:-B<b)(h4:b<B):-(A*B)<a*b/\a*b<A*B:=by
 have e:(a*b).natAbs<(A*B).natAbs:=by
  rw[Int.natAbs_mul,Int.natAbs_mul]
  exact Nat.mul_lt_mul_of_lt_of_le (by omega) (by omega) (by omega)
 have hA:0<=A*B:=Int.mul_nonneg (by omega) (by omega)
 omega
end P
namespace P
theorem len2{α:Type}:∀ {l:List α},l.length=2->∃a b,l=[a,b]
 | [a,b],_=>⟨a,b,rfl⟩
 | [],h=>by simp at h
 | [_],h=>by simp at h
 | _::_::_::_,h=>by simp at h
end P
namespace P
open PySem PySem.Spec PyProof.Rows L2
@[simp] theorem q_chain{g g':D->D->Option D}{fa fb fc:Ev}{ρ:Rho}:qbB g g' fa fb fc ρ=(fa ρ).bind λx=>(fb ρ).bind λy=>(g x y).bind λz=>(asB z).bind λb=>if b=true then(fc ρ).bind λw=>g' y w else some (.bl false):=rfl
theorem qfL{cs:List My.Tm}{k:List Int}{c:Int}{t:My.Tm}(h:t∈My.put cs k c):t=(k,c)\/t∈cs:=by
 unfold My.put at h
 split at h
 ·obtain⟨u,hu,e⟩:=List.mem_map.mp h
  split at e
  ·rename_i z;left;rw[<- e,z]
  ·right;rw[<- e];exact hu
 ·rcases List.mem_append.mp h with z|z
  ·exact .inr z
  ·exact .inl (List.mem_singleton.mp z)
noncomputable def pick{α:Type}(l:List α)(lo hi st:Option Int):List α:=(sliceRange (zbw lo hi st l.length).1 (zbw lo hi st l.length).2.1 (zbw lo hi st l.length).2.2).filterMap (l[·]?)
section
variable {X:Cx}{O:List Nat}
end
end P
namespace My
open PySem PySem.Spec PyProof.Rows L2 PySem.SeqAt
section
variable {X:Cx}
theorem Inv.gone{pins:List (Addr×Obj)}{σ:L2.St}{H:Hp}{s:Shared}{h':Heap}{C:Addr}(I:Inv X pins σ H s)(f:FpOk X pins H C)(hs:zaM C s.heap h'):Inv X pins σ H {s with heap:=h'}:=by
 obtain⟨f0,f1,f2,f3,f4,f5⟩:=f
 refine I.call' (s':={s with heap:=h'}) (ch:=[C]) rfl ⟨λb o e n hb hx=>?_,λb o e n hb hx=>?_,λ_ _ _ n _=>n,λb o e hx=>?_,λ_ _ q=>q,λ_ _ _ q=>q,λ_ ps q=>⟨#[],by simpa using q⟩⟩ ?_ I.bare λb hb=>?_
 ·exact(hs.2 b (λz=>hx (z ▸ List.mem_singleton.mpr rfl))).trans e
 ·exact⟨o.slots,(hs.2 b (λz=>hx (z ▸ List.mem_singleton.mpr rfl))).trans e⟩
 ·exact⟨o,(hs.2 b (λz=>hx (z ▸ List.mem_singleton.mpr rfl))).trans e⟩
 ·intro b ob e
  refine(I.hok b ob e).stay (λc w' hc q=>(hs.2 c ?_).trans q) (λ_ q=>q) λ_ _ q=>q
  rintro rfl
  rcases hc with z|z
  ·subst z;rw[f0]at e;cases e
  ·rw[f0]at z;cases z
 ·rw[List.mem_singleton.mp hb]
  exact⟨f3,f1,f4,f5⟩
theorem qjv{i:Nat}{x:Str}{elt tg iter:Expr}{ifs:List Expr}{scope:Scope}{pos pos' spos:Pos}{N:List Str}{cl:List (Str×Addr)}{wi:TI}{g:TG}{tt:TT}{te:TE}(hN:X.N.Nodup)(hix:X.N[i]?=some x)(hx:Loc X.env.scope x)
  (hc:X.calm=true) (cc:Clo X N scope cl) (hi:PI X tg iter wi) (hg:∀C s H fp,PG (qH X N scope cl C s H fp) tg g) (ht:∀C s H fp,PTs (qH X N scope cl C s H fp) ifs tt) (he:∀C s H fp,PE (qH X N scope cl C s H fp) elt te)
  (hs:∀x,zbq iter X.env x=pure x:=by intro _;rfl) (hsw:zaV (.ListComp elt [⟨tg,iter,ifs,0⟩] scope pos) (some (.Name x pos')) spos.line X.env=pure true:=by rfl)
  (hf:X.fn x=true\/X.env.scope.names.lookup x=some .local:=by first|exact .inl rfl|exact .inr rfl) :
  PS X (.Assign [.Name x pos'] (.ListComp elt [⟨tg,iter,ifs,0⟩] scope pos) spos) (tAsg (qmt wi g tt te (Start X N scope)) (qgb i)):=by
 intro pins s σ H D I h
 obtain⟨σ',sS,hw⟩:=h
 rw[exec_Assign_Name_used _ _ _ _ hsw]
 refine zaa (wpAny_standAt (zaa ?_))
 show wpAny _ X.A (do let _ <- comprehension (.ListComp elt [⟨tg,iter,ifs,0⟩] scope pos) scope X.env _ (newList []) false (eval iter X.env) (some (assign (.Name x pos') X.env))) _ _ s
 refine zaa (zaZ (wpAny_comprehension_free (use:=some (assign (.Name x pos') X.env)) (Q:=λ_ s'=>SP X pins D .next s') rfl hs cc.clos cc.kind cc.names
  (thn (hi pins s σ H _ I hw) λv s1 h1=>thn h1 λitv s2 h2=>?_)) (λ_ s' hq=>zab (zab hq)) λ_ _ e=>e)
 obtain⟨it,fp,tn,J,H2,e,I2,T,st2,f2,q2⟩:=h2
 subst e
 refine qfs (wi:=wi) (Q:=λv H1=>qgb i v σ H1 D.nx) (RR:=λacc C=>compPost (model X.prog X.w) X.A X.xe (some (assign (.Name x pos') X.env)) (λ_ s'=>SP X pins D .next s') acc C) hc cc hg ht he I2 T st2 f2 sS q2 ?_
 intro s3 s5 H3 H5 σ5 D1 I3 f3 I5 q
 obtain⟨m,hn,_⟩:=id I5.loc
 have I6:Inv X pins σ H5 s5:=comp_back I3 f3 I5 (Heap.SameBut.refl _ _)
 have fc:FpOk X pins H5 s3.heap.objs.size:=I3.fpOk (zam _) I5.free
 show wpAny _ X.A (assign (.Name x pos') X.env (.ref D1)) _ _ s5
 refine wpAny_assign_Name (qfh (v:=.ref D1) I6 hN hix hx rfl (λs7 I7 ⟨a,hs7,ha⟩=>?_) hf)
 have ne:s3.heap.objs.size≠a:=λz=>by
  rcases ha with ha|ha
  ·exact fc.2.1 (z.trans ha)
  ·exact fc.2.2.2.2.1 x a ha z.symm
 exact⟨m,Heap.Ns.sameBut hn hs7 ne,λh' hs'=>⟨_,H5,Inv.gone I7 fc hs',q⟩⟩
end
end My
namespace P
open PySem PySem.Spec PyProof.Rows L2 PySem.SeqAt
section
variable {X:Cx}{O O':List Nat}{L:Lp}
theorem qh8{i:Nat}{x:Str}{e:Expr}{pos pos':Pos}{f:Ev}(hp:PS X (.Assign [.Name x pos'] e pos) (tAsg (tD Rep O f) (qgb i)))(h:Sub O' (O.filter (· != i))=true):PSD X L O (.Assign [.Name x pos'] e pos) (sSet i f) O':=
 PS.mono hp <| by
  rintro T σ H ⟨H0,A0,A,E,ρ,out,st,e,p⟩
  obtain⟨d,e1,rfl⟩:=map_some e
  refine⟨H0,A0,A,E,ρ,d,st,e1,λv H' x r=>?_⟩
  have st1:=(st.mono x).more r
  obtain⟨A',st'⟩:=st1.shut (O':=O') λj hj=>(Sub.er h hj).1
  exact p A' _ H' ((st'.put (st'.ext _ (zay ..)) λz=>(Sub.er h z).2 rfl).less λq hq=>zaz _ hq)
theorem qgk{i:Nat}{x:Str}{e:Expr}{pos pos':Pos}{f:Ev}(hp:PS X (.Assign [.Name x pos'] e pos) (tAsg (tF O f) (qgb i)))(h:Sub O' (i::O)=true)(hn:O.contains i=false):PSD X L O (.Assign [.Name x pos'] e pos) (sSet i f) O':=
 PS.mono hp <| by
  rintro T σ H ⟨H0,A0,A,E,ρ,out,st,e,p⟩
  obtain⟨d,e1,rfl⟩:=map_some e
  refine⟨H0,A0,A,E,ρ,d,st,e1,λa H' x n na o=>?_⟩
  have ni:i∉O:=λz=>by
   have:O.contains i=true:=by simpa using z
   rw[hn]at this;cases this
  obtain⟨A1,st1⟩:=(st.own_put x n na o ni).shut (Sub.mem h)
  exact p A1 _ H' st1
theorem qqq{f:Ev}{σ:L2.St}{H:Hp}{Q:VK}:tD Rep O f σ H Q->tF O f σ H Q:=λ⟨H0,A0,A,E,ρ,d,st,e,q⟩=>
 ⟨H0,A0,A,E,ρ,d,st,e,λa H' x n na o=>q _ H' x ((o.av (A':=A) λb hb=>.inl (.inl hb)).rep na)⟩
theorem qkG{i:Nat}{x:Str}{elt tg iter:Expr}{ifs:List Expr}{scope:Scope}{pos pos' spos:Pos}{N:List Str}{cl:List (Str×Addr)}{ms:List (Option Nat)}{it:Lv}{g:Gv}{c:Bv}{f:Ev}(hN:X.N.Nodup)(hix:X.N[i]?=some x)(hx:Loc X.env.scope x)
  (hc:X.calm=true) (cc:My.Clo X N scope cl) (hst:qat X scope N ms) (hn:(ms.all λo=>match o with|some i=>!O.contains i|none=>true)=true) (hi:PDI X O tg iter it) (hg:∀C s H fp,PDG (My.qH X N scope cl C s H fp) [] tg g)
  (ht:∀C s H fp,My.PTs (My.qH X N scope cl C s H fp) ifs (tDT [] c)) (he:∀C s H fp,PD (My.qH X N scope cl C s H fp) [] elt f) (h:Sub O' (O.filter (· != i))=true:=by rfl) (hs:∀x,zbq iter X.env x=pure x:=by intro _;rfl)
  (hsw:zaV (.ListComp elt [⟨tg,iter,ifs,0⟩] scope pos) (some (.Name x pos')) spos.line X.env=pure true:=by rfl) (hf:X.fn x=true\/X.env.scope.names.lookup x=some .local:=by first|exact .inl rfl|exact .inr rfl) :
  PSD X L O (.Assign [.Name x pos'] (.ListComp elt [⟨tg,iter,ifs,0⟩] scope pos) spos) (sSet i (qer ms it g c f)) O':=
 qh8 (PS.mono (My.qjv hN hix hx hc cc hi hg ht he hs hsw hf) λT σ H w=>qeh hst hn _ _ _ (qqq w)) h
theorem qj4{i:Nat}{x:Str}{elt tg iter:Expr}{ifs:List Expr}{scope:Scope}{pos pos' spos:Pos}{N:List Str}{cl:List (Str×Addr)}{ms:List (Option Nat)}{it:Lv}{g:Gv}{c:Bv}{f:Ev}(hN:X.N.Nodup)(hix:X.N[i]?=some x)(hx:Loc X.env.scope x)
  (hc:X.calm=true) (cc:My.Clo X N scope cl) (hst:qat X scope N ms) (hn:(ms.all λo=>match o with|some i=>!O.contains i|none=>true)=true) (hi:PDI X O tg iter it) (hg:∀C s H fp,PDG (My.qH X N scope cl C s H fp) [] tg g)
  (ht:∀C s H fp,My.PTs (My.qH X N scope cl C s H fp) ifs (tDT [] c)) (he:∀C s H fp,PD (My.qH X N scope cl C s H fp) [] elt f) (h:Sub O' (i::O)=true:=by rfl) (hni:O.contains i=false:=by rfl) (hs:∀x,zbq iter X.env x=pure x:=by intro _;rfl)
  (hsw:zaV (.ListComp elt [⟨tg,iter,ifs,0⟩] scope pos) (some (.Name x pos')) spos.line X.env=pure true:=by rfl) (hf:X.fn x=true\/X.env.scope.names.lookup x=some .local:=by first|exact .inl rfl|exact .inr rfl) :
  PSD X L O (.Assign [.Name x pos'] (.ListComp elt [⟨tg,iter,ifs,0⟩] scope pos) spos) (sSet i (qer ms it g c f)) O':=
 qgk (PS.mono (My.qjv hN hix hx hc cc hi hg ht he hs hsw hf) λT σ H w=>qeh hst hn _ _ _ w) h hni
end
end P
namespace My
open PySem PySem.Spec PyProof.Rows L2 PySem.SeqAt
noncomputable def gSeq(K:zae)(n:Nat)(t:TGs):TG:=λv σ H Q=>∃a xs,v=.ref a/\(SqT K H a xs\/SqL K H a xs)/\xs.length=n/\t xs σ H Q
theorem qfk{X:Cx}{pos:Pos}{es:List Expr}{k:Nat}{t:TGs}{n:Nat}(hc:X.calm=true)(h:PGs X es t)
  (hn:(za2 es X.env).length=n:=by rfl) (hst:(za2 es X.env).findIdx? (·.1)=none:=by rfl):PG X (.Tuple es k pos) (gSeq X.K n t):=by
 intro pins s σ H v u Q I r hw
 obtain⟨a,xs,e1,hq,hl,hw⟩:=hw
 subst e1
 rcases hq with hq|hq
 ·exact qlD hc h hn hst pins s σ H _ u Q I r ⟨a,xs,rfl,hq,hl,hw⟩
 ·cases r
  obtain⟨its,rv,ht,hz⟩:=I.list hq
  have hsz:(za2 es X.env).length=its.toArray.size:=by simp[hn,<- hl,rv.length]
  rw[assign_Tuple]
  refine zaa (wpAny_standAt ?_)
  unfold unpack
  rw[hsz,hst]
  refine zaa (zbb (PySem.W.kun_itemsOf (I.ok.hd hc) (My.PlainL.isList ht) λh' hx=>?_))
  have I1:Inv X pins σ H {s with heap:=h'}:=I.kept (t':=s.toks) λb o e=>hx b o (zaw (zah e)) e
  exact h pins _ σ H xs _ Q I1 (by simpa using rv) hw
end My
namespace P
open PySem PySem.Spec PyProof.Rows L2 PySem.SeqAt
noncomputable def qb9(n:Nat)(k:Gsv):Gv:=λd ρ=>match d with
 | .tup l=>if l.length=n then k l ρ else none
 | .lst l=>if l.length=n then k l ρ else none
 | _=>none
theorem qc7{X:Cx}{O:List Nat}{tg:Expr}{n:Nat}{k:Gsv}(hp:PG X tg (My.gSeq X.K n (tDGs O k))):PDG X O tg (qb9 n k):=PG.mono hp <| by
 rintro v σ H Q ⟨H0,A0,A,E,ρ,d,ρ',st,r,e,q⟩
 cases d with
 | tup l=>
  obtain⟨a,xs,rfl,h,rl⟩:=RepB.tup_inv (.of r)
  by_cases hn:l.length=n
  ·simp only[qb9,if_pos hn]at e
   exact⟨a,xs,rfl,.inl (.inl (.inl h)),by rw[rl.length];exact hn,H0,A0,A,E,ρ,l,ρ',st,rl,e,q⟩
  ·simp only[qb9,if_neg hn]at e;cases e
 | lst l=>
  obtain⟨a,xs,rfl,h,rl⟩:=RepB.lst_inv (.of r)
  by_cases hn:l.length=n
  ·simp only[qb9,if_pos hn]at e
   exact⟨a,xs,rfl,.inr (.inl h),by rw[rl.length];exact hn,H0,A0,A,E,ρ,l,ρ',st,rl,e,q⟩
  ·simp only[qb9,if_neg hn]at e;cases e
 | _=>cases e
@[simp] theorem q_gseqT{n:Nat}{h:Gsv}{l:List D}{ρ:Rho}:qb9 n h (.tup l) ρ=if l.length=n then h l ρ else none:=rfl
@[simp] theorem q_gseqL{n:Nat}{h:Gsv}{l:List D}{ρ:Rho}:qb9 n h (.lst l) ρ=if l.length=n then h l ρ else none:=rfl
end P
namespace P
open PySem PySem.Spec PyProof.Rows L2
noncomputable def cf(qs:List My.Tm)(k:List Int):Int:=(My.look qs k).getD 0
theorem qjq(q:My.Tm)(qs:List My.Tm)(k:List Int):cf (q::qs) k=if q.1=k then q.2 else cf qs k:=by
 unfold cf My.look
 rw[za4]
 by_cases e:q.1=k <;> simp[e]
theorem qoK{qs:List My.Tm}{k:List Int}(h:k∉qs.map (·.1)):cf qs k=0:=by
 induction qs with
 | nil=>rfl
 | cons q qs ih=>
  rw[qjq,if_neg (λz=>h (by simp[z])),ih λz=>h (by simp at z ⊢;exact .inr z)]
theorem qaZ{f:Lv}{g:Gv}{b rest:Sv}{ρ:Rho}{items:List D}{R:D->Prop}(hf:f ρ=some items)(I:Nat->Rho->Prop)(h0:I 0 ρ)(hs:∀i x ρ,items[i]?=some x->I i ρ->∃ρ',turn g b x ρ=some (.nx ρ')/\I (i+1) ρ')(k:∀ρ',I items.length ρ'->∃d,rest ρ'=some (.rt d)/\R d):∃d,sSeq (sFor f g b) rest ρ=some (.rt d)/\R d:=by
 obtain⟨ρ',e,h⟩:=qbb (g:=g) (b:=b) I h0 hs
 rw[qe (by rw[q_for,hf];exact e)]
 exact k ρ' h
theorem qaF{n:Nat}{f:Sv}{ds:List D}{R:D->Prop}(h:∃d,f (qd n ds)=some (.rt d)/\R d):∃d,runD n f ds=some d/\R d:=by
 obtain⟨d,e,r⟩:=h
 exact⟨d,qG e,r⟩
end P
namespace My
open PySem PySem.Spec PyProof.Rows L2 PySem.SeqAt
theorem qcm:fillsNumberSlot (.type "tuple") "mul" = pure false:=
 PySem.fillsNumberSlot_seq (id := "tuple.__mul__") (r:=some (.builtin "tuple.__rmul__")) PySem.F.slot_tuple_mul.lookup (by decide +kernel) PySem.F.slot_tuple_rmul.lookup (by decide +kernel)
theorem qfa:seqRepeat? (.type "tuple")=pure (some (.builtin "tuple.__mul__")):=by
 unfold seqRepeat?
 rw[PySem.seqSlot_of (T := "tuple") (name := "__mul__") (id := "tuple.__mul__") PySem.F.slot_tuple_mul.lookup (by decide +kernel),PySem.seqSlot_of (T := "tuple") (name := "__rmul__") (id := "tuple.__rmul__") PySem.F.slot_tuple_rmul.lookup (by decide +kernel)]
 rfl
theorem qdp(a:Int)(t:Tok)(l:Addr)(items:Array Value)(n:Nat)(dd sl) :
  Meets (Builtin.«int.__rmul__» ⟨[.int a t,.ref l],[]⟩) (λ_ R s=>s.heap.get? l=some {cls:=.type "tuple",dict:=dd,data:=.seq items n,slots:=sl}/\R (.ok (.ret Value.notImplemented)) s):=
 .of_wp λprog w A R s h=>by obtain⟨hp,g,d,tk,os⟩:=s;obtain⟨hl,h⟩:=h;wp_walk;exact⟨_,rfl,h⟩
theorem qhY(t:Tok)(l:Addr)(items:Array Value)(n:Nat)(dd sl) :
  Meets (Builtin.«tuple.__mul__» ⟨[.ref l,.int 1 t],[]⟩) (λ_ R s=>s.heap.get? l=some {cls:=.type "tuple",dict:=dd,data:=.seq items n,slots:=sl}/\R (.ok (.ret (.ref l))) s):=
 .of_wp λprog w A R s h=>by obtain⟨hp,g,d,tk,os⟩:=s;obtain⟨hl,h⟩:=h;wp_walk;exact⟨_,rfl,h⟩
theorem qhR(t:Tok)(l:Addr)(x:Value)(n:Nat)(dd sl) :
  Meets (Builtin.«tuple.__mul__» ⟨[.ref l,.int 2 t],[]⟩) (λ_ R s=>s.heap.get? l=some {cls:=.type "tuple",dict:=dd,data:=.seq #[x] n,slots:=sl}/\R (.ok (.ret (.ref s.heap.objs.size))) {s with heap:=s.heap.push {cls:=.type "tuple",data:=.seq #[x,x]} }):=
 .of_wp λprog w A R s h=>by obtain⟨hp,g,d,tk,os⟩:=s;obtain⟨hl,h⟩:=h;wp_walk;exact⟨_,rfl,h⟩
theorem qnc{prog:zai}{w:World}{A:Around}{E:Value->Shared->Prop}{s:Shared}{l:Addr}{y:Value}{x:Int}{u:Tok}{Q:Value->Shared->Prop}(ht:IsTup s.heap l #[y])(hx:x=1\/x=2)
  (h1:x=1->Q (.ref l) s) (h2:x=2->Q (.ref s.heap.objs.size) {s with heap:=s.heap.push {cls:=.type "tuple",data:=.seq #[y,y]} }):wpAny (model prog w) A (zaN .Mult (.ref l) (.int x u)) Q E s:=by
 obtain⟨⟨cls,dd,data,sl⟩,ho,hc,n,hd⟩:=id ht
 simp only at hc hd
 subst hc hd
 refine wpAny_binaryOp_repeat_ref (T := "tuple") (U := "int") (by decide) ⟨_,ho,rfl⟩ (λs'=>typeIs_int s' x u) qcm PySem.F.fills_int_mul PySem.F.slot_int_rmul qfa PySem.F.slot_int_index.lookup
  (call_meets PySem.F.slot_int_rmul (typeIs_int s x u) PySem.F.entry_int_rmul (PySem.F.args_int_rmul_2 _ _) (qdp x u l #[y] n dd sl) ⟨ho,rfl,⟨_,ho,rfl⟩,?_⟩)
 rcases hx with rfl|rfl
 ·exact call_meets PySem.F.slot_tuple_mul ⟨_,ho,rfl⟩ PySem.F.entry_tuple_mul (PySem.F.args_tuple_mul_2 _ _) (qhY u l #[y] n dd sl) ⟨ho,h1 rfl⟩
 ·exact call_meets PySem.F.slot_tuple_mul ⟨_,ho,rfl⟩ PySem.F.entry_tuple_mul (PySem.F.args_tuple_mul_2 _ _) (qhR u l y n dd sl) ⟨ho,h2 rfl⟩
end My
namespace P
open PySem PySem.Spec PyProof.Rows L2 PySem.SeqAt
noncomputable def qk1:D->D->Option D
 | .tup [x],.int n=>if n=1 then some (.tup [x])else if n=2 then some (.tup [x,x])else none
 | _,_=>none
section
variable {X:Cx}
theorem qns:OpR X (zaN .Mult) (λx y H Q=>∃a v n,x=.ref a/\y=.int n/\SqT X.K H a [v]/\(n=1\/n=2)/\(n=1->Q (.ref a) H)/\(n=2->∀p,H p=none->Q (.ref p) (upd H p (.tup [v,v])))):=by
 intro pins s σ H x y v u Q I rx ry h
 obtain⟨a,w,n,rfl,rfl,ha,hn,q1,q2⟩:=h
 cases rx
 obtain⟨t,rfl⟩:∃t,u=.int n t:=ry
 obtain⟨its,r1,p1,_⟩:=I.tuple ha
 cases r1 with
 | cons r0 rr=>
  cases rr
  rename_i y
  refine My.qnc p1 hn (λe=>⟨.ref a,H,I,rfl,q1 e⟩) λe=>?_
  refine⟨.ref s.heap.objs.size,_,I.laid (t':=s.toks) (o:=.tup [w,w]) (λb ob q=>zag _ q) (zam _) ?_,rfl,q2 e _ (I.hok.fresh (zam _))⟩
  exact⟨by show 2<=zaj;decide,_,.cons r0 (.cons r0 .nil),IsTupN.new _ _⟩
theorem qob:OpX X (zaN .Mult) qk1:=OpR.mono qns <| by
 rintro x y H Q ⟨A,dx,dy,d,lv,rx,ry,e,q⟩
 unfold qk1 at e
 split at e
 case h_2=>cases e
 rename_i d0 n
 obtain⟨a,xs,rfl,h1,r1⟩:=rx.tup_inv
 have:=ry.int_inv;subst this
 cases r1 with
 | cons r0 rr=>
  cases rr
  by_cases n1:n=1
  ·rw[if_pos n1]at e;cases e
   exact⟨a,_,n,rfl,rfl,.inl (.inl h1),.inl n1,λ_=>q _ H (Ext.refl _ _) (.tup h1 (.cons r0 .nil)),λz=>by omega⟩
  ·rw[if_neg n1]at e
   by_cases n2:n=2
   ·rw[if_pos n2]at e;cases e
    exact⟨a,_,n,rfl,rfl,.inl (.inl h1),.inr n2,λz=>absurd z n1,λ_ p hp=>q _ _ (Ext.new hp) (.tup ql (.cons (r0.ext (Ext.new hp)) (.cons (r0.ext (Ext.new hp)) .nil)))⟩
   ·rw[if_neg n2]at e;cases e
end
@[simp] theorem q_mulT1{x:D}:qk1 (.tup [x]) (.int 1)=some (.tup [x]):=rfl
@[simp] theorem q_mulT2{x:D}:qk1 (.tup [x]) (.int 2)=some (.tup [x,x]):=rfl
end P
namespace My
open PySem PySem.Spec PyProof.Rows L2 PySem.SeqAt
noncomputable def qpF(tk tv:TE):TE:=λσ H Q=>∀p,H p=none->tk σ (upd H p (.dT [])) λx H1=>tv σ H1 λy H2=>∃k b,x=.ref b/\H2 p=some (.dT [])/\H2 b=some (.tup (k.map kV))/\Q (.ref p) (upd H2 p (.dT [(k,y)]))
theorem qk0{X:Cx}{pos:Pos}{k v:Expr}{tk tv:TE}(hu:X.A.units+1<cLine)(hk:PE X k tk)(hv:PE X v tv):PE X (.Dict [some k] [v] pos) (qpF tk tv):=by
 intro pins s σ H Q I q
 have hn:=I.hok.fresh (zam s.heap.objs.size)
 have I1:=I.laid (a:=s.heap.objs.size) (o:=.dT []) (h':=s.heap.push {cls:=.type "dict",data:=.dict #[]}) (t':=s.toks) (λ_ _ q=>zag _ q) (zam _) (qex s.heap I.big)
 refine wpAny_Dict_any rfl rfl (by simp) (by simp) ?_
 refine pairTrees_cons_walk (thn (hk pins _ σ _ _ I1 (q _ hn)) λu s1 ⟨x,H1,I2,rx,q1⟩=>thn (hv pins s1 σ H1 _ I2 q1) λw2 s2 ⟨y,H2,I3,ry,kk,b,ex,e,eb,q2⟩=>pairTrees_nil_walk ?_)
 subst ex
 cases(show u=zal b from rx)
 obtain⟨z,hd,xs,rel,dd⟩:=qmq I3.hok e
 have hz:xs.length<=zaj:=by rw[<- zbt rel];exact z
 show wpAny _ X.A (storeAll s.heap.objs.size [(zal b,w2)]) _ _ s2
 unfold storeAll
 refine zaa (zaa (wpAny_dictSet_heap (hsz:=hz) (show X.A.units<cLine by omega) (qbz I3.hok eb) dd λh' dd' hs=>?_))
 refine zab (zab ?_)
 obtain⟨q,es,ep,hq,h2,h3,h4,_,h5⟩:=dd'
 refine⟨.ref s.heap.objs.size,_,qcg I3 (ob:=.dT (putK [] kk y)) (by rw[e];exact za3) hs ⟨q,hq⟩ ⟨zaY (qad _ _ _) (by decide),hd,_,(rel.put kk eb ry).keeps λc ys ec=>?_,q,es,ep,hq,h2,h3,h4,h5⟩,rfl,q2⟩
 rw[qi (qlx ec e (λz=>nomatch z))]
 exact ec
end My
namespace P
open PySem PySem.Spec PyProof.Rows L2 PySem.SeqAt
theorem ST.aside{H0:Hp}{A0 A:Av}{E:List Fact}{O:List Nat}{σ:L2.St}{H:Hp}{ρ:Rho}(s:ST H0 A0 A E O σ H ρ){p:Addr}(hp:H p=none)(o:HO):ST H0 A0 (λb=>A b\/b=p) E O σ (upd H p o) ρ:=by
 have up:∀a,(A a\/a=p)->A a\/H a=none:=λa ha=>ha.imp id λz=>by rw[z];exact hp
 refine⟨s.ex.trans (Ext.new hp),λa ha=>.inl (s.sub a ha),s.l0,λa ha=>?_,s.len,λi d h n=>?_,λi d h n=>?_,s.inj,λq hq=>Fact.ext (Ext.new hp) (Fact.av up (s.ext q hq))⟩
 ·rcases ha with ha|ha
  ·rw[qi (λz=>by subst z;exact s.live _ ha hp)];exact s.live a ha
  ·subst ha;rw[ql];exact λz=>nomatch z
 ·obtain⟨v,h1,h2⟩:=s.val i d h n
  exact⟨v,h1,(h2.av up).ext (Ext.new hp)⟩
 ·obtain⟨a,e1,e2,e3,e4⟩:=s.own i d h n
  exact⟨a,e1,.inl e2,e3,Own.ext (Ext.new hp) (.inl e2) (e4.av up)⟩
noncomputable def qlW(fk fv:Ev):Ev:=λρ=>(fk ρ).bind λk=>(fv ρ).bind λv=>(asT k).map λkk=>.dT [(kk,v)]
@[simp] theorem q_disp1{fk fv:Ev}{ρ:Rho}:qlW fk fv ρ=(fk ρ).bind λk=>(fv ρ).bind λv=>(asT k).map λkk=>.dT [(kk,v)]:=rfl
theorem qkM{X:Cx}{O:List Nat}{k v:Expr}{pos:Pos}{fk fv:Ev}(hu:X.A.units+1<cLine)(hk:PB X O k fk)(hv:PD X O v fv):PF X O (.Dict [some k] [v] pos) (qlW fk fv):=
 PE.mono (My.qk0 hu hk hv) <| by
  rintro σ H Q ⟨H0,A0,A,E,ρ,d,st,e,q⟩
  obtain⟨dk,ek,e⟩:=bind_some e
  obtain⟨dv,ev,e⟩:=bind_some e
  obtain⟨kk,et,rfl⟩:=map_some e
  intro p hp
  have s1:=st.aside hp (.dT [])
  have na:¬ A p:=λz=>st.live p z hp
  refine⟨H0,A0,_,E,ρ,dk,s1,ek,λx H1 x1 r1=>⟨H0,A0,_,E,ρ,dv,s1.mono x1,ev,λy H2 x2 r2=>?_⟩⟩
  obtain⟨b,rfl,hb⟩:=qez et (r1.ext x2)
  have hp2:H2 p=some (.dT []):=(x1.trans x2).ow p _ (.inr rfl) ql
  have x02:Ext A H H2:=(Ext.new hp).trans ((x1.trans x2).mono λa ha=>.inl ha)
  have ne0:∀b,H b≠none->b≠p:=λb hb z=>hb (by rw[z];exact hp)
  refine⟨kk,b,rfl,hp2,hb,q p _ ?_ hp na (.dT ql rfl (.cons (r2.put (.inr rfl) hp2 trivial) .nil))⟩
  exact⟨λb w r=>qba (ne0 b (by rcases r with r|⟨_,r⟩ <;> (rw[r];exact λz=>nomatch z))) (x02.rd b w r),
      λb xs k r=>by rw[qi (ne0 b (by rw[r];exact λz=>nomatch z))];exact x02.kp b xs k r,
      λb w n r=>by rw[qi (ne0 b (by rw[r];exact λz=>nomatch z))];exact x02.ow b w n r,
      λb q w r=>by rw[qi (ne0 b (by rw[r];exact λz=>nomatch z))];exact x02.fz b q w r⟩
end P
namespace My
open PySem PySem.Spec PyProof.Rows L2
section
variable {X:Cx}
theorem qeO{ns:List Int}{its:List Value}(r:Vals (ns.map V.int) its){i:Nat}{v:Value}(h:its[i]?=some v):∃t,v=.int ((ns[i]?).getD 0) t:=by
 have hl:=r.length
 rw[zan]at hl
 have hi:i<ns.length:=by rw[hl];exact(List.getElem?_eq_some_iff.mp h).1
 have e:(ns.map V.int)[i]?=some (.int ns[i]):=by simp[hi]
 obtain⟨u,eu,ru⟩:=r.get e
 rw[h]at eu
 cases eu
 obtain⟨t,rfl⟩:=ru
 exact⟨t,by simp[hi]⟩
theorem qmJ:OpR X (zaN .Add) (λx y H Q=>∃a b ys,x=.ref a/\y=.ref b/\SqT X.K H a []/\SqT X.K H b ys/\Q (.ref b) H):=by
 intro pins s σ H x y v u Q I rx ry h
 obtain⟨a,b,ys,rfl,rfl,ha,hb,q⟩:=h
 cases rx
 cases ry
 obtain⟨its,r1,p1,_⟩:=I.tuple ha
 obtain⟨its2,r2,p2,_⟩:=I.tuple hb
 have e1:its=[]:=r1.nil_iff.mpr rfl
 subst e1
 obtain⟨⟨cls,dd,data,sl⟩,ho,hc,n,hd⟩:=p1
 obtain⟨⟨cls2,dd2,data2,sl2⟩,ho2,hc2,n2,hd2⟩:=p2
 have hc':cls=.type "tuple" := hc
 have hd':data=.seq #[] n:=hd
 have hc2':cls2=.type "tuple" := hc2
 have hd2':data2=.seq its2.toArray n2:=hd2
 subst hc' hd' hc2' hd2'
 exact concat_meets ⟨_,ho,rfl⟩ ⟨_,ho2,rfl⟩ noFill_tuple_add seq_tuple_add PySem.F.slot_tuple_add PySem.F.entry_tuple_add (PySem.F.args_tuple_add_2 _ _)
  (tuple_addW0 a b #[] its2.toArray n n2 dd dd2 sl sl2 rfl) ⟨ho,ho2,.ref b,H,I,rfl,q⟩
noncomputable def qqw:R2:=λx y H Q=>∃l k xs,x=.ref l/\y=.int k/\Rd H l (.lst xs)/\-(2^63)<=k/\k<2^63/\xs.length*k.toNat<=zaj /\
 ∀p,H p=none->Q (.ref p) (upd H p (.lst (zaG k.toNat xs).flatten))
theorem qmx:OpR X (zaN .Mult) qqw:=by
 intro pins s σ H x y v u Q I rx ry h
 obtain⟨l,k,xs,rfl,rfl,hH,h1,h2,hz,q⟩:=h
 cases rx
 obtain⟨t,rfl⟩:=ry
 obtain⟨z,its,n,r,hl,e⟩:=P.Inv.lstR I hH
 have hlen:its.toArray.size*k.toNat<=zaj:=by rw[zau,<- hl];exact hz
 have hcap:¬ its.toArray.size*k.toNat>(2^63-1)/8:=by
  have:(zaj:Nat)<=(2^63-1)/8:=by decide
  omega
 have hfit:¬ (!Builtin.List.listFitsIndex k)=true:=by
  rw[fitsIndex_both h1 h2]
  exact zaq
 have hlong:¬ Builtin.List.listTooLong (its.toArray.size*k.toNat)=true:=by
  rw[qld hlen]
  exact zaq
 have hnew:List.foldl (λx1 x2=>x1++x2) #[] (zaG (if its.toArray.isEmpty=true then 0 else k.toNat) its.toArray)=(zaG k.toNat its).flatten.toArray:=by
  have f0:∀m:Nat,List.foldl (λx1 x2=>x1++x2) #[] (zaG m its.toArray)=(zaG m its).flatten.toArray:=λm=>by
   have:=foldl_rep its m []
   rw[List.nil_append]at this
   exact this
  rw[f0]
  cases its with
  | nil=>simp
  | cons a r'=>rw[if_neg (by simp)]
 refine wpAny_binaryOp_repeat_ref (T := "list") (U := "int") (by decide) ⟨_,e,rfl⟩ (λs'=>typeIs_int s' k t) noFill_list_mul F.fills_int_mul F.slot_int_rmul repeat_list F.slot_int_index.lookup
  (call_meets F.slot_int_rmul (typeIs_int s k t) F.entry_int_rmul (F.args_int_rmul_2 _ _) (int___rmul___int_list k t l its.toArray n)
   ⟨e,rfl,⟨_,e,rfl⟩,call_meets F.slot_list_mul ⟨_,e,rfl⟩ F.entry_list_mul (F.args_list_mul_2 _ _) (AutoListH.list___mul___list_int_3 l its.toArray n k t hfit hcap hlong) ⟨e,?_⟩⟩)
 rw[hnew]
 exact⟨.ref _,_,I.lnew (t':=s.toks) (r.rep k.toNat) (by rw[len_rep,Nat.mul_comm];exact hz),rfl,q _ I.fresh⟩
end
end My
namespace P
open PySem PySem.Spec PyProof.Rows L2
theorem qb{α β:Type}(a:α)(f:α->Option β):(some a).bind f=f a:=by rw[zac]
theorem qg{α β:Type}(a:α)(f:α->β):(some a).map f=some (f a):=by rw[zad]
section
variable {X:Cx}{O O':List Nat}{L:Lp}
noncomputable def dInt:List D->Option D
 | [.int i]=>some (.int i)
 | [.bl b]=>some (.int (if b then 1 else 0))
 | _=>none
theorem qo6:qcn X (.type "int") dInt:=CallR.mono qj6 <| by
 rintro xs H Q ⟨A,ds,d,lv,r,e,q⟩
 unfold dInt at e
 split at e
 ·cases e
  obtain⟨v,rfl,rv⟩:=r.one
  cases rv.int_inv
  exact .inl ⟨_,rfl,q _ H (Ext.refl _ _) (.int _)⟩
 ·cases e
  obtain⟨v,rfl,rv⟩:=r.one
  cases rv.bl_inv
  exact .inr ⟨_,rfl,q _ H (Ext.refl _ _) (.int _)⟩
 ·cases e
@[simp] theorem q_intB{b:Bool}:dInt [.bl b]=some (.int (if b then 1 else 0)):=rfl
@[simp] theorem q_intI{i:Int}:dInt [.int i]=some (.int i):=rfl
theorem qaR:∀ns:List Int,qap (ns.map .int)=some ns
 | []=>rfl
 | n::ns=>by rw[zak,qap,qaR ns];rfl
noncomputable def dRep:D->D->Option D
 | .lst l,.int k=>if qaw k=true/\szOk (l.length*k.toNat)=true then some (.lst (zaG k.toNat l).flatten)else none
 | _,_=>none
theorem RepL.rep{A:Av}{H:Hp}{ds:List D}{vs:List V}(r:RepL A H ds vs):∀k:Nat,RepL A H (zaG k ds).flatten (zaG k vs).flatten
 | 0=>.nil
 | k+1=>by rw[zbN,zbN,zbU,zbU];exact r.append (RepL.rep r k)
theorem qma{a b:Expr}{pos:Pos}{fa fb:Ev}(ha:PB X O a fa)(hb:PB X O b fb):PF X O (.BinOp a .Mult b pos) (eOp dRep fa fb):=
 PE.mono (qpX My.qmx ha hb) <| by
  rintro σ H Q ⟨H0,A0,A,E,ρ,d,st,e,q⟩
  obtain⟨x,ex,e⟩:=bind_some e
  obtain⟨y,ey,e⟩:=bind_some e
  refine⟨H0,A0,A,E,ρ,x,st,ex,λv H1 x1 r1=>⟨H0,A0,A,E,ρ,y,st.mono x1,ey,λw H2 x2 r2=>?_⟩⟩
  unfold dRep at e
  split at e
  ·rename_i _ l k _
   by_cases hz:qaw k=true/\szOk (l.length*k.toNat)=true
   ·rw[if_pos hz]at e
    cases e
    obtain⟨p,xs,rfl,h3,r3⟩:=(r1.ext x2).lst_inv
    cases r2.int_inv
    have hk:=qaL hz.1
    refine⟨p,k,xs,rfl,rfl,h3,by omega,by omega,by rw[r3.length];exact qbf hz.2,λb hb=>?_⟩
    have n0:H b=none:=(x1.trans x2).free hb
    have na:¬ A b:=λz=>(st.mono (x1.trans x2)).live b z hb
    exact q b _ ((x1.trans x2).trans (Ext.new hb)) n0 na (.lst ql ((r3.rep k.toNat).fresh hb))
   ·rw[if_neg hz]at e;cases e
  ·cases e
@[simp] theorem q_rep{l:List D}{k:Int}:dRep (.lst l) (.int k)=if qaw k=true/\szOk (l.length*k.toNat)=true then some (.lst (zaG k.toNat l).flatten)else none:=rfl
noncomputable def qfY(fk fv:Ev):Ev:=λρ=>(fk ρ).bind λk=>(fv ρ).bind λv=>(asK k).map λkk=>.dK [(kk,v)]
@[simp] theorem q_dispK1{fk fv:Ev}{ρ:Rho}:qfY fk fv ρ=(fk ρ).bind λk=>(fv ρ).bind λv=>(asK k).map λkk=>.dK [(kk,v)]:=rfl
theorem qj9{k v:Expr}{pos:Pos}{fk fv:Ev}(hk:PB X O k fk)(hv:PD X O v fv):PF X O (.Dict [some k] [v] pos) (qfY fk fv):=
 PE.mono (qnI (qkq hk hv qmo) rfl rfl (by simp) (by simp)) <| by
  rintro σ H Q ⟨H0,A0,A,E,ρ,d,st,e,q⟩
  obtain⟨dk,ek,e⟩:=bind_some e
  obtain⟨dv,ev,e⟩:=bind_some e
  obtain⟨kk,et,rfl⟩:=map_some e
  intro p hp
  have s1:=st.aside hp (.dK [])
  have na:¬ A p:=λz=>st.live p z hp
  refine⟨H0,A0,_,E,ρ,dk,s1,ek,λx H1 x1 r1=>⟨H0,A0,_,E,ρ,dv,s1.mono x1,ev,λy H2 x2 r2=>?_⟩⟩
  have hx:=qeP et (r1.ext x2)
  subst hx
  have hp2:H2 p=some (.dK []):=(x1.trans x2).ow p _ (.inr rfl) ql
  have x02:Ext A H H2:=(Ext.new hp).trans ((x1.trans x2).mono λa ha=>.inl ha)
  have ne0:∀b,H b≠none->b≠p:=λb hb z=>hb (by rw[z];exact hp)
  refine⟨hp2,[(kk,y)],rfl,by simp,q p _ ?_ hp na (.dK ql rfl (.cons (r2.put (.inr rfl) hp2 trivial) .nil))⟩
  exact⟨λb w r=>qba (ne0 b (by rcases r with r|⟨_,r⟩ <;> (rw[r];exact λz=>nomatch z))) (x02.rd b w r),
      λb xs k r=>by rw[qi (ne0 b (by rw[r];exact λz=>nomatch z))];exact x02.kp b xs k r,
      λb w n r=>by rw[qi (ne0 b (by rw[r];exact λz=>nomatch z))];exact x02.ow b w n r,
      λb q w r=>by rw[qi (ne0 b (by rw[r];exact λz=>nomatch z))];exact x02.fz b q w r⟩
noncomputable def qav(x y:D):Option D:=match x,y with
 | .tup l,.tup m=>if szOk (l.length+m.length)then some (.tup (l++m))else none
 | x,y=>qhN x y
theorem qnn:OpX X (zaN .Add) qav:=OpR.mono (OpR.or qoR My.qmJ) <| by
 rintro x y H Q ⟨A,dx,dy,d,lv,rx,ry,e,q⟩
 unfold qav at e
 split at e
 ·rename_i l m
  cases l with
  | nil=>
   by_cases hz:szOk (([]:List D).length+m.length)=true
   ·rw[if_pos hz]at e
    cases e
    obtain⟨a,xs,rfl,h1,r1⟩:=rx.tup_inv
    obtain⟨b,ys,rfl,h2,r2⟩:=ry.tup_inv
    cases r1
    exact .inr ⟨a,b,ys,rfl,rfl,.inl (.inl h1),.inl (.inl h2),q _ H (Ext.refl _ _) (.tup h2 r2)⟩
   ·rw[if_neg hz]at e;cases e
  | cons a l=>
   refine .inl ⟨A,_,_,d,lv,rx,ry,?_,q⟩
   rw[<- e]
   rfl
 ·exact .inl ⟨A,_,_,d,lv,rx,ry,e,q⟩
@[simp] theorem q_addAI{i j:Int}:qav (.int i) (.int j)=some (.int (i+j)):=rfl
@[simp] theorem q_addAT{l m:List D}:qav (.tup l) (.tup m)=if szOk (l.length+m.length)then some (.tup (l++m))else none:=rfl
@[simp] theorem q_addAL{l m:List D}:qav (.lst l) (.lst m)=if szOk (l.length+m.length)then some (.lst (l++m))else none:=rfl
@[simp] theorem q_addAS{l m:Str}:qav (.str l) (.str m)=if szOk (l.length+m.length)then some (.str (l++m))else none:=rfl
noncomputable def qpv(fd fk:Ev):Ev:=λρ=>(fd ρ).bind λd=>(fk ρ).bind λk=>(qal d k).map λo=>o.getD .non
theorem qmk{o e:Expr}{apos cpos:Pos}{fd fk:Ev}(hu:X.A.units+1<cLine)(ho:PB X O o fd)(he:PB X O e fk)(m:M1 X o "get" apos e cpos):PD X O (.Call (.Attribute o "get" apos) [e] [] cpos) (qpv fd fk):=
 PE.mono (qkZ hu ho he m) <| by
  rintro σ H Q ⟨H0,A0,A,E,ρ,d,st,e,q⟩
  obtain⟨x,ex,e⟩:=bind_some e
  obtain⟨y,ey,e⟩:=bind_some e
  obtain⟨ov,eo,rfl⟩:=map_some e
  refine⟨H0,A0,A,E,ρ,x,st,ex,λv H1 x1 r1=>?_⟩
  obtain⟨a,e1,isd⟩:=ql8 y eo r1
  refine⟨a,e1,isd,H0,A0,A,E,ρ,y,st.mono x1,ey,λw H2 x2 r2=>?_⟩
  obtain⟨a',ov',e2,_,g,e3⟩:=qbv eo (r1.ext x2) r2
  rw[e1]at e2;cases e2
  refine⟨ov',g,?_⟩
  rcases e3 with⟨rfl,rfl⟩|⟨z',v',rfl,rfl,r4⟩
  ·exact q _ H2 (x1.trans x2) .non
  ·exact q v' H2 (x1.trans x2) r4
@[simp] theorem q_get1{fd fk:Ev}{ρ:Rho}:qpv fd fk ρ=(fd ρ).bind λd=>(fk ρ).bind λk=>(qal d k).map λo=>o.getD .non:=rfl
noncomputable def qck(c:Bv)(b:Sv):Nat->Rho->Option Out
 | 0,_=>none
 | n+1,ρ=>(c ρ).bind λt=>if t=true then(b ρ).bind λo=>match o with
   | .nx ρ'=>qck c b n ρ'
   | .ct ρ'=>qck c b n ρ'
   | .bk ρ'=>some (.nx ρ')
   | .rt d=>some (.rt d)
  else some (.nx ρ)
noncomputable def qfC(c:Bv)(b:Sv):Sv:=λρ=>qck c b 100000 ρ
theorem qka{c:Expr}{body:List Stmt}{pos:Pos}{g:Bv}{b:Sv}{O1 Ob:List Nat}(hp:PassesOwn (model X.prog X.w) X.A X.env X.xe)(hc:PDT X O1 c g)(hb:PSDs X ⟨Ob,O1⟩ O1 body b O1)(h1:Sub O1 O=true)(h2:Sub O' O1=true)(h3:Sub O' Ob=true) :
  PSD X L O (.While c body [] pos) (qfC g b) O':=PS.mono (qlm hp hc hb) λT σ H ⟨H0,A0,A,E,ρ,out,st,e,p⟩=>by
 obtain⟨A1,st1⟩:=st.shut (Sub.mem h1)
 refine⟨λm σ H=>∃ρ A,ST H0 A0 A E O1 σ H ρ/\qck g b m ρ=some out,⟨100000,ρ,A1,st1,e⟩,?_⟩
 rintro m σ H ⟨ρ,A,st,e⟩
 cases m with
 | zero=>cases e
 | succ m=>
  obtain⟨t,et,e⟩:=bind_some e
  refine⟨H0,A0,A,E,ρ,t,st,et,λH1 x1=>?_⟩
  have fin:∀ {O2:List Nat} {A:Av} {σ:L2.St} {H:Hp} {ρ:Rho},Sub O' O2=true->ST H0 A0 A E O2 σ H ρ->(∀A σ H,ST H0 A0 A E O' σ H ρ->T.nx σ H)->T.nx σ H:=λhs st k=>by
   obtain⟨A2,st2⟩:=st.shut (Sub.mem hs)
   exact k A2 _ _ st2
  cases t with
  | true=>
   rw[if_pos rfl]at e
   dsimp only
   rw[if_pos rfl]
   obtain⟨o,eo,e⟩:=bind_some e
   refine⟨λσ' H'=>∃ρ2 A2,ST H0 A0 A2 E O1 σ' H' ρ2/\qck g b m ρ2=some out,λσ' H' ⟨ρ2,A2,s2,e2⟩=>⟨m,zbR m,ρ2,A2,s2,e2⟩,H0,A0,A,E,ρ,o,st.mono x1,eo,?_⟩
   cases o with
   | nx ρ2=>exact λA2 σ2 H2 s2=>⟨ρ2,A2,s2,e⟩
   | ct ρ2=>exact λA2 σ2 H2 s2=>⟨ρ2,A2,s2,e⟩
   | bk ρ2=>cases e;exact λA2 σ2 H2 s2=>fin h3 s2 p
   | rt d=>cases e;exact p
  | false=>
   rw[if_neg zaq]at e
   dsimp only
   rw[if_neg zaq]
   cases e
   exact fin h2 (st.mono x1) p
end
end P
namespace My
open PySem PySem.Spec PyProof.Rows L2
open AutoSeq1 (wpAny_loadPart')
theorem qiv(l:Addr)(items:Array Value)(n:Nat)(dct:Option Addr)(sl:Array (Option Value)) :
  Meets (Builtin.«enumerate.__new__» ⟨[.type "enumerate",.ref l],[]⟩) (λ_ R s=>s.heap.get? l=some {cls:=.type "tuple",dict:=dct,data:=.seq items n,slots:=sl} /\
   R (.ok (.ret (.ref (s.heap.push {cls:=.type "tuple_iterator",data:=.fields #[.ref l,.int 0 0]}).objs.size)))
    {s with heap:=(s.heap.push {cls:=.type "tuple_iterator",data:=.fields #[.ref l,.int 0 0]}).push {cls:=.type "enumerate",data:=.fields #[.none,.bool false,.ref s.heap.objs.size,rawInt 0,.none,.none]} }):=
 .of_wp λprog w A R s h=>by
  obtain⟨hp,g,d,tk,os⟩:=s;obtain⟨hl,h⟩:=h
  have hsub:=sub_enumerate
  have hL:Heap.IsTuple (Shared.heap ⟨hp,g,d,tk,os⟩) l items:=⟨_,hl,rfl,n,rfl⟩
  wp_walk using zbD hl
  refine wpAny_stack_any λst=>zab ?_
  split
  ·rename_i c _ _ _ _ _
   cases(c == Value.type "enumerate")
   ·wp_walk using zbD hl,zbo hL
    exact⟨_,rfl,h⟩
   ·wp_walk using zbD hl,zbo hL
    exact⟨_,rfl,h⟩
  ·wp_walk using zbD hl,zbo hL
   exact⟨_,rfl,h⟩
section
variable {prog:zai}{w:World}{A:Around}{E:Value->Shared->Prop}{s:Shared}
theorem qjm{t:Bool}{l:Addr}{xs:Array Value}{Q:Value->Shared->Prop}(hl:SSq t s.heap l xs)
  (h:∀h',IsEnum h' (s.heap.objs.size+1) s.heap.objs.size 0 .none->SIt t h' s.heap.objs.size l 0->(∀b o,s.heap.get? b=some o->h'.get? b=some o)->Q (.ref (s.heap.objs.size+1)) {s with heap:=h'}) :
  wpAny (model prog w) A (call (.type "enumerate") [.ref l]) Q E s:=by
 obtain⟨⟨cls,dct,data,sl⟩,ho,hc,n,hd⟩:=hl
 have hc':cls=.type (sqN t):=hc
 have hd':data=.seq xs n:=hd
 subst hc' hd'
 have hz:(s.heap.push (itO t l)).objs.size=s.heap.objs.size+1:=zbA ..
 have fin:IsEnum ((s.heap.push (itO t l)).push {cls:=.type "enumerate",data:=.fields #[.none,.bool false,.ref s.heap.objs.size,rawInt 0,.none,.none]}) (s.heap.objs.size+1) s.heap.objs.size 0 .none:=by
  have:=zat (s.heap.push (itO t l)) (o:={cls:=.type "enumerate",data:=.fields #[.none,.bool false,.ref s.heap.objs.size,rawInt 0,.none,.none]}) rfl
  rw[hz]at this;exact this
 have q:=h _ fin ⟨_,zag _ (zat _ rfl),rfl,rfl⟩ λb o x=>zag _ (zag _ x)
 cases t with
 | false=>
  refine callType_new F.called_enumerate (by decide) (F.typeCall_enumerate_1 _) (F.newCall_enumerate_1 _) (λobj=>F.args_object_init_2 obj _) F.entry_enumerate_new (meets_enumerate_newL l xs n dct sl) ⟨ho,?_⟩
  have hz':(s.heap.push {cls:=.type "list_iterator",data:=.fields #[.ref l,.int 0 0]}).objs.size=s.heap.objs.size+1:=hz
  show _/\_
  rw[hz']
  exact⟨⟨_,fin,rfl⟩,q⟩
 | true=>
  refine callType_new F.called_enumerate (by decide) (F.typeCall_enumerate_1 _) (F.newCall_enumerate_1 _) (λobj=>F.args_object_init_2 obj _) F.entry_enumerate_new (qiv l xs n dct sl) ⟨ho,?_⟩
  have hz':(s.heap.push {cls:=.type "tuple_iterator",data:=.fields #[.ref l,.int 0 0]}).objs.size=s.heap.objs.size+1:=hz
  show _/\_
  rw[hz']
  exact⟨⟨_,fin,rfl⟩,q⟩
theorem qiY{t:Bool}{e it l:Addr}{i:Nat}{items:Array Value}{x old:Value}{Q:Value->Shared->Prop}
  (he:IsEnum s.heap e it i old) (hit:SIt t s.heap it l i) (hl:SSq t s.heap l items) (hx:items[i]?=some x) (hne:e≠it)
  (hQ:∀h', IsEnumOut h' e it ((i:Int)+1) x s.heap.objs.size -> SIt t h' it l (i+1) ->
   h'.get? s.heap.objs.size=some {cls:=.type "tuple",data:=.seq #[.int i s.toks,x]}->h'.objs.size=s.heap.objs.size+1->
   (∀b o,b≠e->b≠it->s.heap.get? b=some o->h'.get? b=some o)->Q (.ref s.heap.objs.size) {s with heap:=h',toks:=s.toks+1}) :
  wpAny (model prog w) A (Builtin.«enumerate.__next__» ⟨[.ref e],[]⟩) (λfin s'=>∃v,fin=.done (.ret v)/\Q v s') E s:=by
 obtain⟨hp,g,d,tk,os⟩:=s
 show wpAny _ _ (field (.ref e) 2 >>= _) _ _ _
 refine zaa (zaI he rfl (x:=.ref it) rfl ?_)
 refine zaa (next_item hit hl hx λh₁ hit₁ hs₁=>?_)
 replace hs₁:zaM it hp h₁:=hs₁
 have he₁:IsEnum h₁ e it i old:=(hs₁.2 e hne).trans he
 show wpAny _ _ (field (.ref e) 3 >>= _) _ _ ⟨h₁,g,d,tk,os⟩
 refine zaa (zaI he₁ rfl (x:=rawInt i) rfl ?_)
 show wpAny _ _ (field (.ref e) 4 >>= _) _ _ ⟨h₁,g,d,tk,os⟩
 refine zaa (zaI he₁ rfl (x:=.none) rfl ?_)
 show wpAny _ _ (mkInt i >>= _) _ _ ⟨h₁,g,d,tk,os⟩
 refine zaa (wpAny_mkInt ?_)
 show wpAny _ _ (setField (.ref e) 3 (rawInt ((i:Int)+1)) >>= _) _ _ ⟨h₁,g,d,tk+1,os⟩
 refine zaa (za5 he₁ (by simp) λh₂ he₂ hs₂=>?_)
 replace hs₂:zaM e h₁ h₂:=hs₂
 replace he₂:IsEnum h₂ e it ((i:Int)+1) old:=he₂
 show wpAny _ _ (setField (.ref e) 4 .none >>= _) _ _ ⟨h₂,g,d,tk+1,os⟩
 refine zaa (za5 he₂ (by simp) λh₃ he₃ hs₃=>?_)
 replace hs₃:zaM e h₂ h₃:=hs₃
 replace he₃:IsEnum h₃ e it ((i:Int)+1) old:=he₃
 show wpAny _ _ (newTuple [.int i tk,x] >>= _) _ _ ⟨h₃,g,d,tk+1,os⟩
 refine zaa (wpAny_newTuple ?_)
 have he₄:IsEnum (h₃.push {cls:=.type "tuple",data:=.seq #[.int i tk,x]}) e it ((i:Int)+1) old:=zag _ he₃
 generalize hh₄:h₃.push {cls:=.type "tuple",data:=.seq #[.int i tk,x]}=h₄ at he₄
 have hsz:h₃.objs.size=hp.objs.size:=by rw[hs₃.1,hs₂.1,hs₁.1]
 have hel:e<hp.objs.size:=zah he
 have ht₄:h₄.get? hp.objs.size=some {cls:=.type "tuple",data:=.seq #[.int i tk,x]}:=by rw[<- hh₄,<- hsz];exact zat _ rfl
 have hz₄:h₄.objs.size=hp.objs.size+1:=by rw[<- hh₄,zbA,hsz]
 have hk₄:∀b o,b≠e->b≠it->hp.get? b=some o->h₄.get? b=some o:=λb o hbe hbi hb=>by
  rw[<- hh₄];exact zag _ (hs₃.extBut b o hbe (hs₂.extBut b o hbe (hs₁.extBut b o hbi hb)))
 have hit₄:SIt t h₄ it l (i+1):=by
  rw[<- hh₄];exact hit₁.to λo q=>zag _ (hs₃.extBut it o (zaJ hne) (hs₂.extBut it o (zaJ hne) q))
 show wpAny _ _ (zb2 (.ref e) >>= _) _ _ ⟨h₄,g,d,tk+1,os⟩
 rw[hsz]
 clear hh₄ he₃ hs₃ he₂ hs₂ he₁ hs₁ hit₁ hsz h₃ h₂ h₁
 refine zaa ?_
 ·unfold zb2
  refine zaa (zaI he₄ rfl (x:=.none) rfl (zab ?_))
  simp only[if_true]
  refine zaa (wpAny_rule ?_)
  refine zaa (zaI he₄ rfl (x:=old) rfl ?_)
  refine zaa (za5 he₄ (by simp) λh₅ he₅ hs₅=>?_)
  replace hs₅:zaM e h₄ h₅:=hs₅
  replace he₅:IsEnum h₅ e it ((i:Int)+1) x:=he₅
  show wpAny _ _ (zcg (.ref e) (.ref hp.objs.size) >>= _) _ _ ⟨h₅,g,d,tk+1,os⟩
  refine zaa ?_
  ·unfold zcg
   refine zaa (za5 he₅ (by simp) λh₆ he₆ hs₆=>?_)
   replace hs₆:zaM e h₅ h₆:=hs₆
   replace he₆:IsEnumOut h₆ e it ((i:Int)+1) x hp.objs.size:=he₆
   refine za5 he₆ (by simp) λh₇ he₇ hs₇=>?_
   replace hs₇:zaM e h₆ h₇:=hs₇
   replace he₇:IsEnumOut h₇ e it ((i:Int)+1) x hp.objs.size:=he₇
   refine zaa (wpAny_letGo (zab ⟨_,rfl,hQ h₇ he₇ ?_ ?_ ?_ ?_⟩))
   ·exact hit₄.to λo q=>hs₇.extBut it o (zaJ hne) (hs₆.extBut it o (zaJ hne) (hs₅.extBut it o (zaJ hne) q))
   ·exact hs₇.extBut _ _ (zaF hel) (hs₆.extBut _ _ (zaF hel) (hs₅.extBut _ _ (zaF hel) ht₄))
   ·rw[hs₇.1,hs₆.1,hs₅.1,hz₄]
   ·exact λb o hbe hbi hb=>hs₇.extBut b o hbe (hs₆.extBut b o hbe (hs₅.extBut b o hbe (hk₄ b o hbe hbi hb)))
theorem qjd{t:Bool}{e it l:Addr}{i:Nat}{items:Array Value}{x old:Value}{Q:Option Value->Shared->Prop}
  (he:IsEnum s.heap e it i old) (hit:SIt t s.heap it l i) (hl:SSq t s.heap l items) (hx:items[i]?=some x) (hne:e≠it)
  (hQ:∀h', IsEnumOut h' e it ((i:Int)+1) x s.heap.objs.size -> SIt t h' it l (i+1) ->
   h'.get? s.heap.objs.size=some {cls:=.type "tuple",data:=.seq #[.int i s.toks,x]}->h'.objs.size=s.heap.objs.size+1->
   (∀b o,b≠e->b≠it->s.heap.get? b=some o->h'.get? b=some o)->Q (some (.ref s.heap.objs.size)) {s with heap:=h',toks:=s.toks+1}) :
  wpAny (model prog w) A (pyNext (.ref e)) Q E s:=by
 have hT:s.TypeIs (.ref e) "enumerate" := ⟨_,he,rfl⟩
 unfold pyNext
 exact zaa (wpAny_attempt (zbk (name:=zaU "__next__") hT F.slot_enumerate_next
  (za9 F.slot_enumerate_next hT F.entry_enumerate_next
   (qiY he hit hl hx hne λh' a b c d k=>zab (hQ h' a b c d k)) (F.args_enumerate_next_1 _))))
theorem qk7{t:Bool}{e it l:Addr}{i:Nat}{items:Array Value}{old:Value}{Q:Option Value->Shared->Prop}(hh:A.handled=none)
  (he:IsEnum s.heap e it i old) (hit:SIt t s.heap it l i) (hl:SSq t s.heap l items) (hx:items[i]?=none)
  (hQ:∀h',Heap.ExtBut it s.heap h'->Q none {s with heap:=h'}):wpAny (model prog w) A (pyNext (.ref e)) Q E s:=by
 have hT:s.TypeIs (.ref e) "enumerate" := ⟨_,he,rfl⟩
 unfold pyNext
 refine zaa (wpAny_attempt (zbk (name:=zaU "__next__") hT F.slot_enumerate_next
  (za9 F.slot_enumerate_next hT F.entry_enumerate_next ?_ (F.args_enumerate_next_1 _))))
 show wpAny _ _ (field (.ref e) 2 >>= _) _ _ _
 refine zaa (zaI he rfl (x:=.ref it) rfl ?_)
 refine zaa (next_end hh hit hl hx λh' x he' hx'=>?_)
 obtain⟨o,ho,hc⟩:=hx'
 refine zaa (wpAny_isInstance (T := "StopIteration") (b:=true) ⟨o,ho,hc⟩ isSubtype_stop ?_)
 exact zab (hQ _ he')
end
noncomputable def ItE(K:zae)(t:Bool)(l:Addr):It:=
 ⟨λi H => ∃xs, SqB K t H l xs /\ i<xs.length, λi H x H' => ∃p u, x = .ref p /\ H p = none /\ H' = upd H p (.tup [.int (i:Int), u]) /\ ∀xs, SqB K t H l xs -> xs[i]? = some u,
  λi H=>∃xs,SqB K t H l xs/\xs.length<=i⟩
theorem qie{P:zai}{w:World}{K:zae}{elts:List Expr}{x1}{tp:Pos}(t:Bool){e it l:Addr}(hne:e≠it) :
  Turn P w K (.Tuple elts x1 tp) (ItE K t l) [e,it] e (λi h=>(∃old,IsEnum h e it (i:Nat) old)/\SIt t h it l i) where
 mem:=by simp
 obj:=by
  rintro i h ⟨⟨old,he⟩,⟨o1,e1,_,d1⟩⟩ c hc
  simp only[zaK,zaL,or_false]at hc
  rcases hc with rfl|rfl
  ·exact⟨_,he,λv q=>by cases q⟩
  ·exact⟨o1,e1,λv q=>by rw[d1]at q;cases q⟩
 keep:=λi h h' ⟨⟨old,he⟩,s1⟩ k=>⟨⟨old,k e (by simp) _ he⟩,s1.to λo q=>k it (by simp) o q⟩
 item:=by
  intro X hP hw hK hc i pins s σ H E I hf st hg
  subst hP hw hK
  obtain⟨⟨old,he⟩,s1⟩:=st
  obtain⟨xs,q1,lt1⟩:=hg
  obtain⟨its1,r1,p1⟩:=qbM I q1
  have e1:xs[i]?=some xs[i]:=by simp[lt1]
  obtain⟨u,eu,ru⟩:=r1.get e1
  refine qjd he s1 p1 (x:=u) (by simpa using eu) hne λh' a1 a2 a3 a4 hk=>⟨_,rfl,?_⟩
  refine wpAny_letOwnedTupleGo_enum (s:={s with heap:=h',toks:=s.toks+1}) a1 λh2 hz2 sb=>?_
  have zz:∀c,c∈[e,it]->c<s.heap.objs.size:=λc hc=>by
   simp only[zaK,zaL,or_false]at hc
   rcases hc with rfl|rfl
   ·exact zah he
   ·obtain⟨o,q,_⟩:=s1;exact zah q
  have up:∀c o,c≠e->h'.get? c=some o->h2.get? c=some o:=λc o hc q=>sb.extBut _ _ hc q
  have I1:Inv X pins σ H {s with heap:=h2,toks:=s.toks+1}:=qa3 I hf λc o hc q=>by
   simp only[zaK,zaL,or_false,not_or]at hc
   exact up c o hc.1 (hk c o hc.1 hc.2 q)
  have hnew:H s.heap.objs.size=none:=I.fresh
  have hT2:h2.get? s.heap.objs.size=some {cls:=.type "tuple",data:=.seq #[.int i s.toks,u]}:=up _ _ (zaF (zz e (by simp))) a3
  have I2:Inv X pins σ (upd H s.heap.objs.size (.tup [.int (i:Int),xs[i]])) {s with heap:=h2,toks:=s.toks+1}:=by
   have ok2:HOk X.prog X.w (upd H s.heap.objs.size (.tup [.int (i:Int),xs[i]])) h2:=λc ob q=>by
    by_cases hc:c=s.heap.objs.size
    ·subst hc;rw[ql]at q;cases q
     exact⟨by show 2<=zaj;decide,[.int i s.toks,u],.cons ⟨_,rfl⟩ (.cons ru .nil),_,hT2,rfl,0,rfl,rfl⟩
    ·rw[qi hc]at q
     exact(I1.hok c ob q).stay (λ_ _ _ q=>q) (λd q=>by rw[qi (qy q hnew)];exact q) λd ys' q=>by rw[qi (qy q hnew)];exact q
   refine I.call' (s':={s with heap:=h2,toks:=s.toks+1}) (ch:=[e,it]) rfl ⟨λc o q _ _ hx=>?_,λc o q _ _ hx=>⟨o.slots,?_⟩,λc o q n hx=>by rw[qi (zaw (zah q))];exact n,λc o q hx=>⟨o,?_⟩,λc ys' q=>by rw[qi (qy q hnew)];exact q,λc o' u' q=>by rw[qi (qy q hnew)];exact q,λc ps q=>⟨#[],by rw[qi (qy q hnew),q];simp⟩⟩ ok2 I.bare λb hb=>?_
   ·simp only[zaK,zaL,or_false,not_or]at hx
    exact up c o hx.1 (hk c o hx.1 hx.2 q)
   ·simp only[zaK,zaL,or_false,not_or]at hx
    exact up c o hx.1 (hk c o hx.1 hx.2 q)
   ·simp only[zaK,zaL,or_false,not_or]at hx
    exact up c o hx.1 (hk c o hx.1 hx.2 q)
   ·obtain⟨_,f1,_,f3,f4,f5⟩:=hf b hb
    exact⟨f3,f1,f4,f5⟩
  refine⟨.ref s.heap.objs.size,_,I2,rfl,⟨_,_,rfl,hnew,rfl,λxs' g1=>by rw[<- qf2 I q1 g1];exact e1⟩,⟨⟨_,hz2⟩,a2.to λo q=>up _ o (zaJ hne) q⟩,λc hc=>?_⟩
  rw[qi (zaw (zz c hc))]
  exact(hf c hc).1
 done:=by
  intro X hP hw hK hc i pins s σ H E I hf st hg
  subst hP hw hK
  obtain⟨⟨old,he⟩,s1⟩:=st
  obtain⟨xs,q1,hend⟩:=hg
  obtain⟨its1,r1,p1⟩:=qbM I q1
  have n1:=r1.length
  refine qk7 (I.ok.hd hc) he s1 p1 (by simp;omega) λh' hk=>⟨rfl,qa3 (t':=s.toks) I hf λc o hc q=>?_⟩
  simp only[zaK,zaL,or_false,not_or]at hc
  exact hk c o hc.2 q
 self:=λ_ _ _ _ _ st h=>let ⟨⟨_,he⟩,_⟩:=st;wpAny_pyIter_enum he h
theorem boot_enumerate:zaE "enumerate" = some (.type "enumerate"):=by first|rfl|decide +kernel
noncomputable def qqO(K:zae)(ta:TA):TI:=λσ H R=>ta σ H λvs H1=>∃t l xs,vs=[.ref l]/\SqB K t H1 l xs/\R (ItE K t l) H1
theorem qoa{X:Cx}{elts:List Expr}{x1}{tp:Pos}{a:Expr}{ta:TA}{p pos:Pos}(hg:Gl X "enumerate")(hm:X.mg "enumerate" = none)(ha:PA X [a] ta)(hs:zaf [a] X.env=[(false,eval a X.env)]:=by rfl) :
  PI X (.Tuple elts x1 tp) (.Call (.Name "enumerate" p) [a] [] pos) (qqO X.K ta):=by
 intro pins s σ H R I h
 refine Call_ (qbs I hg hm boot_enumerate (zbZ (thn (ha pos pins s σ H _ I h) λus s1 ⟨vs,H1,I1,r1,q1⟩=>?_) (by rw[hs];rfl) rfl))
 obtain⟨t,l,xs,rfl,q1,q⟩:=q1
 obtain⟨u,rfl,ru⟩:=vals1 r1
 cases ru
 obtain⟨its1,_,p1⟩:=qbM I1 q1
 refine qjm p1 λh' he s1' k=>?_
 refine wpAny_pyIter_enum he ?_
 have D:s1.heap.objs.size+1≠s1.heap.objs.size:=by omega
 refine⟨_,[_,_],_,_,H1,rfl,I1.kept (t':=s1.toks) k,qie t D,⟨⟨_,he⟩,s1'⟩,λc hc=>I1.fpOk ?_ (I1.hok.fresh ?_),q⟩
 ·simp only[zaK,zaL,or_false]at hc
  rcases hc with rfl|rfl <;> omega
 ·simp only[zaK,zaL,or_false]at hc
  rcases hc with rfl|rfl <;> omega
end My
namespace P
open PySem PySem.Spec PyProof.Rows L2
noncomputable def qb4:Nat->List D->List D
 | _,[]=>[]
 | k,x::xs=>.tup [.int (k:Int),x]::qb4 (k+1) xs
noncomputable def qpI(f:Lv):Lv:=λρ=>(f ρ).bind λds=>match ds with
 | [a]=>(qep a).map (qb4 0)
 | _=>none
theorem qbF:∀ {xs:List D} {k i:Nat} {d:D},(qb4 k xs)[i]?=some d->∃x,xs[i]?=some x/\d=.tup [.int ((k+i:Nat):Int),x]
 | [],k,i,d,h=>by simp[qb4]at h
 | x::xs,k,0,d,h=>by simp[qb4]at h;exact⟨x,rfl,h.symm⟩
 | x::xs,k,i+1,d,h=>by
  obtain⟨y,e1,e2⟩:=qbF (xs:=xs) (k:=k+1) (i:=i) (by simpa[qb4]using h)
  exact⟨y,by simpa using e1,by rw[e2];congr 4;omega⟩
theorem qcM:∀(xs:List D) (k:Nat),(qb4 k xs).length=xs.length
 | [],_=>rfl
 | x::xs,k=>by simp[qb4,qcM xs]
theorem qkt{X:Cx}{O:List Nat}{elts:List Expr}{x1}{tp:Pos}{a:Expr}{f:Lv}{p pos:Pos}(hg:Gl X "enumerate")(hm:X.mg "enumerate" = none)(ha:PDA X O [a] f)(hs:zaf [a] X.env=[(false,eval a X.env)]:=by rfl) :
  PDI X O (.Tuple elts x1 tp) (.Call (.Name "enumerate" p) [a] [] pos) (qpI f):=PI.mono (My.qoa hg hm ha hs) λσ H R ⟨H0,A0,A,E,ρ,items,st,e,q⟩=>by
 obtain⟨ds,e1,e⟩:=bind_some e
 refine⟨H0,A0,A,E,ρ,ds,st,e1,λvs H1 x1 r1=>?_⟩
 split at e
 case h_2=>cases e
 rename_i da
 obtain⟨xs,e2,rfl⟩:=map_some e
 obtain⟨v,rfl,r2⟩:=r1.one
 obtain⟨t1,l1,us,rfl,q1,_,k1⟩:=qgq (K:=X.K) e2 r2
 refine⟨t1,l1,us,rfl,q1,q _ H1 [.rep da (.ref l1)] x1 (λp hp=>?_) ?_⟩
 ·rw[List.mem_singleton.mp hp];exact r2
 ·intro A' H' lv hE i
  have a1:Rep A' H' da (.ref l1):=hE (.rep da (.ref l1)) (zay ..)
  obtain⟨us',g1,rl1⟩:=k1 A' H' a1
  refine⟨λhi=>⟨us',g1,by rw[rl1.length];rw[qcM]at hi;exact hi⟩,λd hd=>?_⟩
  obtain⟨x,ex,rfl⟩:=qbF hd
  obtain⟨u,eu,ru⟩:=rl1.get' ex
  refine⟨⟨us',g1,(List.getElem?_eq_some_iff.mp eu).1⟩,λx' H2 ⟨p,u',e4,n,e5,e6⟩=>?_⟩
  subst e4 e5
  have z1:=e6 us' g1
  rw[eu]at z1;cases z1
  rw[Nat.zero_add]
  exact⟨Ext.new n,.tup ql (.cons (.int _) (.cons (ru.ext (Ext.new n)) .nil))⟩
@[simp] theorem q_enum{f:Lv}{ρ:Rho}:qpI f ρ=(f ρ).bind λds=>match ds with
 | [a]=>(qep a).map (qb4 0)
 | _=>none:=rfl
end P
namespace P
open L2
structure Ro where
 j:Int
 k:Int
 a:Int
 b:Int
 p:Int
structure GR(M many:Int)(rs:List Ro):Prop where
 len:rs.length<=12
 jk:∀r∈rs,0<=r.j/\r.j<r.k/\r.k<many
 ab:∀r∈rs,(0<=r.a/\r.a<M)/\0<=r.b/\r.b<M
 pr:∀r∈rs,0<=r.p/\r.p<=10^30
noncomputable def rAt(rs:List Ro)(n:Int):Option Ro:=if 0<=n then rs[n.toNat]? else none
theorem qaM{rs:List Ro}{n:Int}{r:Ro}(h:rAt rs n=some r):r∈rs:=by
 unfold rAt at h
 split at h
 ·exact zaH h
 ·cases h
theorem qdG{rs:List Ro}{n:Int}{r:Ro}(h:rAt rs n=some r):0<=n/\n<(rs.length:Int):=by
 unfold rAt at h
 split at h
 ·rename_i h0
  have:=(List.getElem?_eq_some_iff.mp h).1
  omega
 ·cases h
noncomputable def gw(rs:List Ro):Int->List Int->Option Int
 | at_,[]=>some at_
 | at_,n::w=>(rAt rs n).bind λr=>if r.j=at_ then gw rs r.k w else none
theorem qcB{rs:List Ro}:∀ {at_:Int} {v w:List Int},gw rs at_ (v++w)=(gw rs at_ v).bind λe=>gw rs e w
 | at_,[],w=>rfl
 | at_,n::v,w=>by
  show((rAt rs n).bind λr=>if r.j=at_ then gw rs r.k (v++w)else none)=_
  cases e:rAt rs n with
  | none=>simp[gw,e]
  | some r=>
   by_cases h:r.j=at_
   ·simp[gw,e,h,qcB (v:=v) (w:=w)]
   ·simp[gw,e,h]
theorem qmy{rs:List Ro}{at_ e n:Int}{w:List Int}{r:Ro}(h:gw rs at_ w=some e)(hr:rAt rs n=some r)(hj:r.j=e):gw rs at_ (w++[n])=some r.k:=by
 rw[qcB,h]
 simp[gw,hr,hj]
theorem qjJ{M many:Int}{rs:List Ro}(g:GR M many rs):∀ {at_ e:Int} {w:List Int},gw rs at_ w=some e->at_+(w.length:Int)<=e
 | at_,e,[],h=>by cases h;simp
 | at_,e,m::w,h=>by
  unfold gw at h
  cases er:rAt rs m with
  | none=>rw[er]at h;cases h
  | some r=>
   rw[er]at h
   simp only[Option.bind]at h
   split at h
   ·have:=qjJ g h
    have:=(g.jk r (qaM er)).2.1
    simp only[zaT];omega
   ·cases h
noncomputable def goR(rs:List Ro)(M:Int)(x:Int)(w:List Int):Int:=w.foldl (λx n=>match rAt rs n with|some r=>(r.a*x+r.b)%M|none=>x) x
noncomputable def twR(rs:List Ro)(M:Int)(t:Int×Int)(w:List Int):Int×Int:=w.foldl (λt n=>match rAt rs n with|some r=>(t.1*r.a%M,(r.a*t.2+r.b)%M)|none=>t) t
theorem qhb(a x b M:Int):(a*(x%M)+b)%M=(a*x+b)%M:=by
 rw[Int.add_emod,Int.mul_emod,Int.emod_emod_of_dvd _ (Int.dvd_refl M),<- Int.mul_emod,<- Int.add_emod]
theorem qg1{rs:List Ro}{M:Int}(h0:0<M):∀(w:List Int) (t:Int×Int) (x y:Int),(0<=t.1/\t.1<M)->(0<=t.2/\t.2<M)->y%M=(t.1*x+t.2)%M->
  (0<=(twR rs M t w).1/\(twR rs M t w).1<M)/\(0<=(twR rs M t w).2/\(twR rs M t w).2<M)/\goR rs M y w%M=((twR rs M t w).1*x+(twR rs M t w).2)%M
 | [],t,x,y,h1,h2,h=>⟨h1,h2,h⟩
 | n::w,t,x,y,h1,h2,h=>by
  cases e:rAt rs n with
  | none=>
   have:=qg1 (rs:=rs) h0 w t x y h1 h2 h
   simpa[twR,goR,e]using this
  | some r=>
   have b1:=zar (t.1*r.a) (zaP h0)
   have b2:=zas (t.1*r.a) h0
   have b3:=zar (r.a*t.2+r.b) (zaP h0)
   have b4:=zas (r.a*t.2+r.b) h0
   have:=qg1 (rs:=rs) h0 w (t.1*r.a%M,(r.a*t.2+r.b)%M) x ((r.a*y+r.b)%M) ⟨b1,b2⟩ ⟨b3,b4⟩ (by
    show(r.a*y+r.b)%M%M=(t.1*r.a%M*x+(r.a*t.2+r.b)%M)%M
    rw[Int.emod_emod_of_dvd _ (Int.dvd_refl M),<- qhb r.a y,h,qhb]
    have e1:(t.1*r.a%M*x+(r.a*t.2+r.b)%M)%M=(t.1*r.a*x+(r.a*t.2+r.b))%M:=by
     rw[Int.add_emod,Int.mul_emod,Int.emod_emod_of_dvd _ (Int.dvd_refl M),Int.emod_emod_of_dvd _ (Int.dvd_refl M),<- Int.mul_emod,<- Int.add_emod]
    rw[e1]
    congr 1
    rw[Int.mul_add,<- Int.mul_assoc,Int.mul_comm r.a t.1]
    omega)
   simpa[twR,goR,e]using this
theorem qbD{rs:List Ro}{M:Int}(h0:0<M):∀(w:List Int) (x:Int),(0<=x/\x<M)->0<=goR rs M x w/\goR rs M x w<M
 | [],x,h=>h
 | n::w,x,h=>by
  cases e:rAt rs n with
  | none=>have:=qbD (rs:=rs) h0 w x h;simpa[goR,e]using this
  | some r=>
   have:=qbD (rs:=rs) h0 w ((r.a*x+r.b)%M) ⟨zar _ (zaP h0),zas _ h0⟩
   simpa[goR,e]using this
noncomputable def Rch(rs:List Ro)(x k:Int):Prop:=∃w,gw rs x w=some k
theorem Rch.refl(rs:List Ro)(k:Int):Rch rs k k:=⟨[],rfl⟩
theorem Rch.inv{rs:List Ro}{x k:Int}(h:Rch rs x k):x=k\/∃n r,rAt rs n=some r/\r.j=x/\Rch rs r.k k:=by
 obtain⟨w,hw⟩:=h
 cases w with
 | nil=>cases hw;exact .inl rfl
 | cons n w=>
  unfold gw at hw
  cases er:rAt rs n with
  | none=>rw[er]at hw;cases hw
  | some r=>
   rw[er]at hw
   simp only[Option.bind]at hw
   split at hw
   ·rename_i hj
    exact .inr ⟨n,r,er,hj,w,hw⟩
   ·cases hw
theorem Rch.le{M many:Int}{rs:List Ro}(g:GR M many rs){x k:Int}(h:Rch rs x k):x<=k:=by
 obtain⟨w,hw⟩:=h
 have:=qjJ g hw
 omega
noncomputable def IsF(rs:List Ro)(k:Int):Int->List Int->Prop
 | x,[]=>x=k
 | x,n::w=>∃r,rAt rs n=some r/\r.j=x/\IsF rs k r.k w/\∀m r',m<n->rAt rs m=some r'->r'.j=x->¬ Rch rs r'.k k
theorem IsF.way{rs:List Ro}{k:Int}:∀ {x:Int} {w:List Int},IsF rs k x w->gw rs x w=some k
 | x,[],h=>by rw[show x=k from h];rfl
 | x,n::w,⟨r,hr,hj,h,_⟩=>by simp[gw,hr,hj,IsF.way h]
theorem IsF.rch{rs:List Ro}{k x:Int}{w:List Int}(h:IsF rs k x w):Rch rs x k:=⟨w,h.way⟩
noncomputable def qab(ds:List (Int×List Int))(x:Int):Option (List Int):=(ds.find? λp=>decide (p.1=x)).map (·.2)
theorem qbU{ds:List (Int×List Int)}{x y:Int}{w:List Int}(h:qab ds x=none):qab (ds++[(x,w)]) y=if y=x then some w else qab ds y:=by
 unfold qab at h ⊢
 rw[List.find?_append]
 by_cases e:y=x
 ·subst e
  rw[if_pos rfl]
  have:(ds.find? λp=>decide (p.1=y))=none:=by
   cases z:ds.find? λp=>decide (p.1=y)with
   | none=>rfl
   | some p=>rw[z]at h;cases h
  rw[this]
  simp
 ·rw[if_neg e]
  have e':¬ x=y:=λz=>e z.symm
  simp[e']
structure FI(rs:List Ro)(k c:Int)(ds:List (Int×List Int)):Prop where
 it:∀x w,qab ds x=some w->c<=x/\x<=k/\IsF rs k x w
 no:∀x,c<=x->x<=k->qab ds x=none->¬ Rch rs x k
structure FJ(rs:List Ro)(k c:Int)(i:Nat)(ds:List (Int×List Int)):Prop where
 it:∀x w,qab ds x=some w->c<=x/\x<=k/\IsF rs k x w
 no:∀x,c<x->x<=k->qab ds x=none->¬ Rch rs x k
 me:qab ds c=none->∀m r,m<(i:Int)->rAt rs m=some r->r.j=c->¬ Rch rs r.k k
theorem FI.start(rs:List Ro)(k:Int):FI rs k k [(k,[])]:=by
 refine⟨λx w h=>?_,λx h1 h2 h=>?_⟩
 ·unfold qab at h
  simp at h
  obtain⟨e,rfl⟩:=h
  subst e
  exact⟨Int.le_refl _,Int.le_refl _,rfl⟩
 ·have e:x=k:=by omega
  subst e
  simp[qab]at h
theorem FI.go{rs:List Ro}{k c:Int}{ds:List (Int×List Int)}(h:FI rs k (c+1) ds):FJ rs k c 0 ds:=
 ⟨λx w e=>by have:=h.it x w e;exact⟨by omega,this.2⟩,λx h1 h2 e=>h.no x (by omega) h2 e,λ_ m r hm hr=>by have:=(qdG hr).1;omega⟩
theorem FJ.skip{M many:Int}{rs:List Ro}(g:GR M many rs){k c:Int}{i:Nat}{ds:List (Int×List Int)}{r:Ro}(h:FJ rs k c i ds)(hr:rAt rs (i:Int)=some r)(hn:¬ (r.j=c/\(qab ds r.k).isSome=true/\qab ds c=none)):FJ rs k c (i+1) ds:=by
 refine⟨h.it,h.no,λe m r' hm hr' hj=>?_⟩
 by_cases z:m<(i:Int)
 ·exact h.me e m r' z hr' hj
 ·have:m=(i:Int):=by omega
  subst this
  rw[hr]at hr'
  cases hr'
  cases e2:qab ds r.k with
  | some w=>exact absurd ⟨hj,by rw[e2];rfl,e⟩ hn
  | none=>
   have:=(g.jk r (qaM hr)).2.1
   by_cases hk:r.k<=k
   ·exact h.no r.k (by omega) hk e2
   ·exact λz=>hk (z.le g)
theorem FJ.put{rs:List Ro}{k c:Int}{i:Nat}{ds:List (Int×List Int)}{r:Ro}{w:List Int}(h:FJ rs k c i ds)(hc:c<k)(hr:rAt rs (i:Int)=some r)(hj:r.j=c)(hw:qab ds r.k=some w)(hn:qab ds c=none):FJ rs k c (i+1) (ds++[(c,(i:Int)::w)]):=by
 refine⟨λx v e=>?_,λx h1 h2 e=>?_,λe=>?_⟩
 ·rw[qbU hn]at e
  by_cases z:x=c
  ·rw[if_pos z]at e
   cases e
   subst z
   exact⟨Int.le_refl _,by omega,r,hr,hj,(h.it _ _ hw).2.2,λm r' hm hr' hj'=>h.me hn m r' hm hr' hj'⟩
  ·rw[if_neg z]at e
   exact h.it x v e
 ·rw[qbU hn,if_neg (by omega)]at e
  exact h.no x h1 h2 e
 ·rw[qbU hn,if_pos rfl]at e
  cases e
theorem FJ.done{rs:List Ro}{k c:Int}{ds:List (Int×List Int)}(h:FJ rs k c rs.length ds)(hc:c<k):FI rs k c ds:=by
 refine⟨h.it,λx h1 h2 e=>?_⟩
 by_cases z:x=c
 ·subst z
  intro hr
  rcases hr.inv with z|⟨n,r,hn,hj,hr⟩
  ·omega
  ·exact h.me e n r (qdG hn).2 hn hj hr
 ·exact h.no x (by omega) h2 e
theorem FI.end{M many:Int}{rs:List Ro}(g:GR M many rs){j k:Int}{c:Int}{ds:List (Int×List Int)}(h:FI rs k c ds)(hc:c<=j):(∀w,qab ds j=some w->IsF rs k j w)/\(qab ds j=none->¬ Rch rs j k):=by
 refine⟨λw e=>(h.it j w e).2.2,λe z=>?_⟩
 exact h.no j hc (z.le g) e z
noncomputable def fl{α:Type}(h:Nat->Ro->List α):Nat->List Ro->List α
 | _,[]=>[]
 | m,r::rs=>h m r++fl h (m+1) rs
noncomputable def sg(q:Nat->Ro->Int):Nat->List Ro->Int
 | _,[]=>0
 | m,r::rs=>q m r+sg q (m+1) rs
end P
namespace P
open PySem PySem.Spec PyProof.Rows L2
theorem qcz{n:Nat}(h:n<=1000000):qaz [.int (n:Int)]=some (qF 0 1 n):=by
 show(if qaw (n:Int)then _ else _)=_
 rw[if_pos (by simp only[qaw,zaC,decide_eq_true_eq];omega)]
 simp
theorem qa2{y:Int}(h0:0<=y)(h:y<=1000000):qaz [.int y]=some (qF 0 1 y.toNat):=by
 show(if qaw y then _ else _)=_
 rw[if_pos (by simp only[qaw,zaC,decide_eq_true_eq];omega)]
theorem qkb{a b c:Int}(hc:1<=c)(hc2:c<1000)(ha:0<=a)(ha2:a<=1000)(hb:0<=b)(hb2:b<=1000):∃m:Nat,qaV [.int a,.int b,.int c]=some (qF a c m)/\∀i:Nat,i<m->a+(i:Int)*c<b:=
 ⟨My.rsz a b c, by
  show(if c≠0/\c.natAbs<1000/\zbE a b c=true then some (qF a c (My.rsz a b c))else none)=_
  rw[if_pos ⟨by omega,by omega,My.qjl hc (by omega) (by omega) (by omega) (by omega) (by omega)⟩],λi hi=>qoF (by omega) hi⟩
theorem qkD{v w:List Int}(h:v.length+w.length<=1000000):qav (tupI v) (tupI w)=some (tupI (v++w)):=by
 unfold tupI
 rw[q_addAT,if_pos (by simp only[szOk,zan];exact decide_eq_true h),zbm]
noncomputable def rdD(r:Ro):D:=.tup [.int r.j,.int r.k,.int r.a,.int r.b,.int r.p]
theorem qgM{rs:List Ro}{n:Int}{r:Ro}(h:rAt rs n=some r):atI (rs.map rdD) n=some (rdD r):=by
 have hl:=qdG h
 obtain⟨j,rfl⟩:∃j:Nat,n=(j:Int):=⟨n.toNat,by omega⟩
 unfold rAt at h
 rw[if_pos (by omega)]at h
 refine qaf ?_
 rw[zax]
 simp at h
 rw[h];rfl
theorem at0{a:D}{l:List D}:atI (a::l) 0=some a:=qaf (j:=0) rfl
theorem at1{a b:D}{l:List D}:atI (a::b::l) 1=some b:=qaf (j:=1) rfl
theorem at2{a b c:D}{l:List D}:atI (a::b::c::l) 2=some c:=qaf (j:=2) rfl
theorem at3{a b c d:D}{l:List D}:atI (a::b::c::d::l) 3=some d:=qaf (j:=3) rfl
theorem rd_j{r:Ro}:qu (rdD r) (.int 0)=some (.int r.j):=by simp[rdD,at0]
theorem rd_k{r:Ro}:qu (rdD r) (.int 1)=some (.int r.k):=by simp[rdD,at1]
noncomputable def trD(t:Int×Int):D:=.tup [.int t.1,.int t.2]
theorem qqY{r:Ro}:dSlA (rdD r) (some 2) (some 4)=some (trD (r.a,r.b)):=rfl
theorem qd2{a b:Int}(ha:-1000<=a)(ha2:a<=1000)(hb:-1000<=b)(hb2:b<=1000):qaV [.int a,.int b,.int (-1)]=some (qF a (-1) (a-b).toNat):=by
 have e:My.rsz a b (-1)=(a-b).toNat:=by
  unfold My.rsz zbp
  rw[if_neg (by decide)]
  by_cases h:a>b
  ·rw[if_pos h,show -(-1:Int)=1 from rfl,Int.ediv_one];omega
  ·rw[if_neg h];omega
 have s:zbE a b (-1)=true:=by
  unfold zbE zbp
  simp only[Builtin.Range.rangeFitsLong,zaC,Bool.or_eq_true,decide_eq_true_eq,beq_iff_eq]
  rw[if_neg (by decide),show -(-1:Int)=1 from rfl,Int.ediv_one]
  have t:(if(-1:Int)>0 then decide (-2^63<=b+(-1-1)) && decide (b+(-1-1)<2^63)else decide (-2^63<=b+(-1+1)) && decide (b+(-1+1)<2^63))=true:=by
   rw[if_neg (by decide),zaC]
   exact⟨decide_eq_true (by omega),decide_eq_true (by omega)⟩
  rw[t]
  refine⟨?_,.inr rfl⟩
  split <;> omega
 show(if(-1:Int)≠0/\(-1:Int).natAbs<1000/\zbE a b (-1)=true then some (qF a (-1) (My.rsz a b (-1)))else none)=_
 rw[if_pos ⟨by decide,by decide,s⟩,e]
noncomputable def fK(p:Int×List Int):Key×D:=(.inl p.1,tupI p.2)
theorem qpS(ds:List (Int×List Int))(x:Int):valD (ds.map fK) (.inl x:Key)=(qab ds x).map tupI:=by
 unfold valD qab
 induction ds with
 | nil=>rfl
 | cons p ds ih=>
  rw[zak,za4,za4]
  by_cases e:p.1=x
  ·have e':(fK p).1=(zao x:Key):=by show(zao p.1:Key)=_;rw[e]
   simp[e,e',fK]
  ·have e':¬ (fK p).1=(zao x:Key):=λz=>e (by injection z)
   simp only[e,e',decide_false]
   exact ih
theorem qge(ds:List (Int×List Int))(x:Int):qal (.dK (ds.map fK)) (.int x)=some ((qab ds x).map tupI):=by
 show some (valD (ds.map fK) (.inl x:Key))=_
 rw[qpS]
theorem qof{ds:List (Int×List Int)}{x:Int}{w:List Int}(h:qab ds x=none)(hz:ds.length<=1000000):dPut (.dK (ds.map fK)) (.int x) (tupI w)=some (.dK ((ds++[(x,w)]).map fK)):=by
 show(if szOk (ds.map fK).length then some (D.dK (putD (ds.map fK) (.inl x:Key) (tupI w)))else none)=_
 rw[if_pos (by simp only[szOk,zan];exact decide_eq_true hz)]
 have hn:((ds.map fK).any λp=>decide (p.1=(zao x:Key)))=false:=by
  rw[List.any_eq_false]
  intro p hp
  obtain⟨q,hq,rfl⟩:=List.mem_map.mp hp
  have:q.1≠x:=λz=>by
   have:(ds.find? λp=>decide (p.1=x))≠none:=λy=>by
    rw[List.find?_eq_none]at y
    exact y q hq (by simp[z])
   unfold qab at h
   cases y:ds.find? λp=>decide (p.1=x)with
   | none=>exact this y
   | some p=>rw[y]at h;cases h
  simp[fK,this]
 unfold putD
 rw[hn,zbm]
 rfl
noncomputable def rowT(K:Nat)(p:Int->Bool):D:=.lst ((zav K).map λ(k:Nat)=>.bl (p (k:Int)))
noncomputable def matT(K:Nat)(P:Int->Int->Bool):D:=.lst ((zav K).map λ(x:Nat)=>rowT K (P (x:Int)))
theorem qjb{K:Nat}{p:Int->Bool}{k:Int}(h0:0<=k)(h:k<(K:Int)):qu (rowT K p) (.int k)=some (.bl (p k)):=by
 obtain⟨j,rfl⟩:∃j:Nat,k=(j:Int):=⟨k.toNat,by omega⟩
 exact qaf (by simp[show j<K by omega])
theorem ql6{K:Nat}{P:Int->Int->Bool}{k:Int}(h0:0<=k)(h:k<(K:Int)):qu (matT K P) (.int k)=some (rowT K (P k)):=by
 obtain⟨j,rfl⟩:∃j:Nat,k=(j:Int):=⟨k.toNat,by omega⟩
 exact qaf (by simp[show j<K by omega])
noncomputable def tabT(K:Nat)(f:Int->D):D:=.lst ((zav K).map λ(x:Nat)=>f (x:Int))
theorem qnV{K:Nat}{f:Int->D}{c:Int}{d:D}(h0:0<=c)(h:c<(K:Int)):dPut (tabT K f) (.int c) d=some (tabT K λx=>if x=c then d else f x):=by
 have hx:ixN ((zav K).map λ(x:Nat)=>f (x:Int)).length c=some c.toNat:=by
  unfold ixN
  rw[if_pos h0,if_pos (by simpa using h)]
 show((asI (.int c)).bind λk=>(ixN _ k).map λj=>D.lst (List.set _ j d))=_
 simp only[q_asI,Option.bind]
 rw[hx]
 show some (D.lst _)=some (D.lst _)
 congr 2
 refine List.ext_getElem (by simp) λi h1 h2=>?_
 rw[List.getElem_set]
 by_cases e:c.toNat=i
 ·have e2:((i:Nat):Int)=c:=by omega
  simp[e,e2]
 ·have e2:¬ ((i:Nat):Int)=c:=by omega
  simp[e,e2]
theorem qgX(K:Nat):qF 0 1 K=(zav K).map λ(k:Nat)=>D.int (k:Int):=by
 unfold qF;exact List.map_congr_left λi _=>by simp
theorem qgT{K:Nat}{f:Ev}{rest:List (Option D)}{F:Int->D}(h:∀k:Int,0<=k->k<(K:Int)->f (some (.int k)::rest)=some (F k)):∀(l:List Nat) (o:Option D),(∀k∈l,k<K)->qau (qx 0) bYes f (l.map λ(k:Nat)=>D.int (k:Int)) (o::rest)=some (l.map λ(k:Nat)=>F (k:Int))
 | [],o,_=>rfl
 | k::l,o,hl=>by
  have ih:=qgT h l (some (.int (k:Int))) λm hm=>hl m (zaz _ hm)
  have hk:=h (k:Int) (by omega) (by have:=hl k (zay ..);omega)
  simp[qau,hk,ih]
theorem qaT{a b:Int}(h1:-1000<=a)(h2:a<=1000)(h3:-1000<=b)(h4:b<=1000000):qaN [.int a,.int b]=some (qF a 1 (b-a).toNat):=by
 show(if(qaw a && qaw b)=true then _ else _)=_
 rw[if_pos (by simp only[qaw,zaC,decide_eq_true_eq];omega)]
end P
namespace My
open PySem PySem.Spec PyProof.Rows L2
noncomputable def sItN(a:Bool):String:=if a=true then "str_ascii_iterator" else "str_iterator"
noncomputable def ItS(x:Str):It:=⟨λi H=>i<x.cps.size,λi H y H'=>H'=H/\∃c,x.cps[i]?=some c/\y=.str ⟨#[c]⟩,λi H=>x.cps.size<=i⟩
theorem qlA{P:zai}{w:World}{K:zae}{tg:Expr}(a:Bool)(x:Str)(t:Tok)(it:Addr):Turn P w K tg (ItS x) [it] it (λi h=>h.IsStrIter it (sItN a) x t i) where
 mem:=by simp
 obj:=λi h st b hb=>by
  have e:b=it:=by simpa using hb
  subst e
  obtain⟨o,e,c,d⟩:=st
  exact⟨o,e,λv z=>by rw[d]at z;cases z⟩
 keep:=λi h h' st k=>let ⟨o,ho,r⟩:=st;⟨o,k it (by simp) o ho,r⟩
 item:=by
  intro X hP hw hK hc i pins s σ H E I hf st hg
  subst hP hw hK
  obtain⟨f0,f1,f2,f3,f4,f5⟩:=hf it (by simp)
  have hi:i<x.cps.size:=hg
  have hx:x.cps[i]?=some x.cps[i]:=by simp[hi]
  cases a with
  | true=>
   refine wpAny_pyNext_ascii_item st hx λh' st' sb=>?_
   have I1:Inv X pins σ H {s with heap:=h',toks:=s.toks+1}:=I.turned (t':=s.toks+1) (λb o hb e=>(sb.2 b hb).trans e) f0 f1 f3 f4 f5
   obtain⟨o,e,c,d⟩:=id st'
   exact⟨_,rfl,qgf (s:={s with heap:=h',toks:=s.toks+1}) e c d (by decide) ⟨.str ⟨#[x.cps[i]]⟩,H,I1,⟨_,rfl⟩,⟨rfl,_,hx,rfl⟩,st',λb hb=>(hf b hb).1⟩⟩
  | false=>
   refine wpAny_pyNext_wide_item st hx λh' st' sb=>?_
   have I1:Inv X pins σ H {s with heap:=h',toks:=s.toks+1}:=I.turned (t':=s.toks+1) (λb o hb e=>(sb.2 b hb).trans e) f0 f1 f3 f4 f5
   obtain⟨o,e,c,d⟩:=id st'
   exact⟨_,rfl,qgf (s:={s with heap:=h',toks:=s.toks+1}) e c d (by decide) ⟨.str ⟨#[x.cps[i]]⟩,H,I1,⟨_,rfl⟩,⟨rfl,_,hx,rfl⟩,st',λb hb=>(hf b hb).1⟩⟩
 done:=by
  intro X hP hw hK hc i pins s σ H E I hf st hg
  subst hP hw hK
  obtain⟨f0,f1,f2,f3,f4,f5⟩:=hf it (by simp)
  have hi:x.cps.size<=i:=hg
  have hx:x.cps[i]?=none:=by simp[hi]
  cases a with
  | true=>exact wpAny_pyNext_ascii_end (I.ok.hd hc) st hx λh' eb=>⟨rfl,I.turned (t':=s.toks) (λb o hb e=>eb b o hb e) f0 f1 f3 f4 f5⟩
  | false=>exact wpAny_pyNext_wide_end (I.ok.hd hc) st hx λh' eb=>⟨rfl,I.turned (t':=s.toks) (λb o hb e=>eb b o hb e) f0 f1 f3 f4 f5⟩
 self:=λ_ _ _ _ _ st h=>by
  cases a with
  | true=>exact wpAny_pyIter_striter_ascii st h
  | false=>exact wpAny_pyIter_striter_wide st h
noncomputable def iStr(tl:TE):TI:=λσ H R=>tl σ H λx H1=>∃y,x=.str y/\R (ItS y) H1
section
variable {X:Cx}{tg:Expr}
theorem qqe{l:Expr}{tl:TE}(hl:PE X l tl):PI X tg l (iStr tl):=by
 intro pins s σ H R I h
 refine thn (hl pins s σ H _ I h) λv s1 ⟨x,H1,I1,r1,q1⟩=>?_
 obtain⟨y,rfl,q⟩:=q1
 obtain⟨t,rfl⟩:=r1
 have fin:∀a:Bool,PIE X pins σ tg R (.ref s1.heap.objs.size) {s1 with heap:=s1.heap.push {cls:=.type (sItN a),data:=.fields #[.str y t,.int 0 0]} }:=λa=>by
  refine⟨s1.heap.objs.size,[s1.heap.objs.size],_,_,H1,rfl,I1.kept (t':=s1.toks) λb o e=>zag _ e,qlA a y t _,⟨_,zat _ rfl,rfl,rfl⟩,λb hb=>?_,q⟩
  have e:b=s1.heap.objs.size:=by simpa using hb
  subst e
  exact I1.fpOk (zam _) (I1.hok.fresh (zam _))
 cases ha:y.cps.all (·<128)
 ·exact wpAny_pyIter_wide ha (fin false)
 ·exact wpAny_pyIter_ascii ha (fin true)
theorem qiy:OpR X (zap .LtE) (λx y H Q=>∃i j,x=.str i/\y=.str j/\Q (.bl (!decide (j.cps.toList<i.cps.toList))) H):=by
 intro pins s σ H x y v u Q I rx ry h
 obtain⟨i,j,rfl,rfl,q⟩:=h
 obtain⟨t,rfl⟩:=rx
 obtain⟨t',rfl⟩:=ry
 exact PySem.P.le_str ⟨.bl _,H,I,rfl,q⟩
theorem qpV{bs:List Bool}{its:List Value}(r:Vals (bs.map V.bl) its){P:zai}{w:World}{A:Around}:TruthOf P w A (λi v=>its.toArray[i]?=some v) (λi=>(bs[i]?).getD false):=by
 intro i v s Q E hP hQ
 have hP:its[i]?=some v:=by simpa using hP
 have hl:=r.length
 rw[zan]at hl
 have hi:i<bs.length:=by rw[hl];exact(List.getElem?_eq_some_iff.mp hP).1
 have e:(bs.map V.bl)[i]?=some (.bl bs[i]):=by simp[hi]
 obtain⟨u,eu,ru⟩:=r.get e
 rw[hP]at eu
 cases eu
 cases ru
 have:(bs[i]?).getD false=bs[i]:=by simp[hi]
 dsimp only at hQ
 rw[this]at hQ
 exact zbg hQ
theorem range_all(bs:List Bool):(zav bs.length).all (λi=>(bs[i]?).getD false)=bs.all id:=by
 rw[Bool.eq_iff_iff,zbW,zbW]
 constructor
 ·intro h b hb
  obtain⟨i,hi,rfl⟩:=List.getElem_of_mem hb
  have:=h i (List.mem_range.mpr hi)
  simpa[hi]using this
 ·intro h i hi
  have hi:=List.mem_range.mp hi
  simpa[hi]using h bs[i] (List.getElem_mem hi)
theorem qiN(hc:X.calm=true):CallR X (.builtin "all") (λxs H Q=>∃(p:Addr) (bs:List Bool),xs=[.ref p]/\SqL X.K H p (bs.map V.bl)/\Q (.bl (bs.all id)) H):=by
 intro pins s σ H xs us Q I r h
 obtain⟨p,bs,rfl,hq,q⟩:=h
 obtain⟨u,rfl,rx⟩:=vals1 r
 cases rx
 obtain⟨its,r',pl,hz⟩:=I.list hq
 have hl:s.heap.IsList p its.toArray:=pl.isList
 obtain⟨o,ho,hc',n,hd⟩:=id hl
 have hne:p≠s.heap.objs.size:=zaw (zah ho)
 refine call_all_walk (zbK hl ?_)
 refine⟨s.heap.objs.size,_,_,_,_,_,_,rfl,Walks.list (prog:=X.prog) (w:=X.w) (A:=X.A.in1) (I.ok.hd hc) s.heap.objs.size p hne its.toArray,⟨⟨_,zat _ rfl,rfl,rfl⟩,hl.at λo e=>zag _ e⟩,qpV r',λh' tk hm=>?_⟩
 have hk:∀b o,s.heap.get? b=some o->h'.get? b=some o:=λb o e=>hm b o (λhb=>absurd (zah e) ((List.mem_singleton.mp hb) ▸ za1 _)) (zag _ e)
 have hlen:=r'.length
 rw[zan]at hlen
 refine⟨.bl (bs.all id),H,I.kept (t':=tk) hk,?_,q⟩
 rw[zau,<- hlen,range_all]
 rfl
theorem qgA:∀ {ss:List Str} {its:List Value},Vals (ss.map V.str) its->StrsAre its ss
 | [],_,.nil=>.nil
 | x::ss,_,.cons r t=>by
  obtain⟨k,rfl⟩:=r
  exact .cons x k (qgA t)
noncomputable def rJoin(K:zae):V->List V->Hp->VK->Prop:=λx vs H Q=>∃(sep:Str) (p:Addr) (ss:List Str),x=.str sep/\vs=[.ref p]/\SqL K H p (ss.map V.str)/\(ss.map (·.length)).sum+ss.length*sep.length<=16777216/\Q (.str (Txt.join sep ss)) H
theorem qnp:MtM X "str.join" (rJoin X.K):=by
 intro pins s σ H x vs v us Q I rx rv h
 obtain⟨sep,p,ss,rfl,rfl,hq,hz,q⟩:=h
 obtain⟨t,rfl⟩:=rx
 obtain⟨u,rfl,ru⟩:=rv.one
 cases ru
 obtain⟨its,r',pl,_⟩:=I.list hq
 exact join_list (items:=its.toArray) pl.isList (by simpa using qgA r') hz λt' k=>⟨.str (Txt.join sep ss),H,I.kept (t':=k) λ_ _ e=>e,⟨_,rfl⟩,q⟩
end
end My
namespace P
open PySem PySem.Spec PyProof.Rows L2
section
variable {X:Cx}{O O':List Nat}{L:Lp}
noncomputable def asBs:List D->Option (List Bool)
 | []=>some []
 | .bl b::l=>(asBs l).map (b::·)
 | _=>none
theorem qho{A:Av}{H:Hp}:∀ {ds:List D} {ns:List Bool} {vs:List V},asBs ds=some ns->RepL A H ds vs->vs=ns.map V.bl
 | [],_,_,e,.nil=>by cases e;rfl
 | d::ds,ns,_,e,.cons h t=>by
  cases d with
  | bl b=>
   obtain⟨m,e1,rfl⟩:=map_some e
   cases RepB.bl_inv (.of h)
   rw[qho e1 t];rfl
  | _=>cases e
theorem qgH:∀bs:List Bool,asBs (bs.map .bl)=some bs
 | []=>rfl
 | b::bs=>by rw[zak,asBs,qgH bs];rfl
noncomputable def dAll:List D->Option D
 | [.lst l]=>(asBs l).map λbs=>.bl (bs.all id)
 | _=>none
theorem ql7(hc:X.calm=true):qcn X (.builtin "all") dAll:=CallR.mono (My.qiN hc) <| by
 rintro xs H Q ⟨A,ds,d,lv,r,e,q⟩
 unfold dAll at e
 split at e
 ·obtain⟨bs,e1,rfl⟩:=map_some e
  obtain⟨v,rfl,rv⟩:=r.one
  obtain⟨a,us,rfl,h1,r1⟩:=rv.lst_inv
  rw[qho e1 r1]at h1
  exact⟨a,bs,rfl,.inl h1,q _ H (Ext.refl _ _) (.bl _)⟩
 ·cases e
@[simp] theorem q_all{bs:List Bool}:dAll [.lst (bs.map .bl)]=some (.bl (bs.all id)):=by unfold dAll;simp only[qgH];rfl
noncomputable def asSs:List D->Option (List Str)
 | []=>some []
 | .str b::l=>(asSs l).map (b::·)
 | _=>none
theorem qhe{A:Av}{H:Hp}:∀ {ds:List D} {ns:List Str} {vs:List V},asSs ds=some ns->RepL A H ds vs->vs=ns.map V.str
 | [],_,_,e,.nil=>by cases e;rfl
 | d::ds,ns,_,e,.cons h t=>by
  cases d with
  | str b=>
   obtain⟨m,e1,rfl⟩:=map_some e
   cases RepB.str_inv (.of h)
   rw[qhe e1 t];rfl
  | _=>cases e
theorem qeZ:∀bs:List Str,asSs (bs.map .str)=some bs
 | []=>rfl
 | b::bs=>by rw[zak,asSs,qeZ bs];rfl
noncomputable def qhC:D->D->Option D
 | .str sep,.lst l=>(asSs l).bind λss=>if(ss.map (·.length)).sum+ss.length*sep.length<=16777216 then some (.str (Txt.join sep ss))else none
 | _,_=>none
theorem qn7{o e:Expr}{apos cpos:Pos}{fo fe:Ev}(ho:PB X O o fo)(he:PB X O e fe)(hp:∀ {to:TE} {t:TA},PE X o to->PA X [e] t->PE X (.Call (.Attribute o "join" apos) [e] [] cpos) (tBM X.K "str" (My.rJoin X.K) to t))(hs:zaf [e] X.env=(false,eval e X.env)::zaf [] X.env:=by rfl):PD X O (.Call (.Attribute o "join" apos) [e] [] cpos) (eOp qhC fo fe):=
 PE.mono (hp ho (qg4 he qim hs)) <| by
  rintro σ H Q ⟨H0,A0,A,E,ρ,d,st,e,q⟩
  obtain⟨x,ex,e⟩:=bind_some e
  obtain⟨y,ey,e⟩:=bind_some e
  refine⟨H0,A0,A,E,ρ,x,st,ex,λv H1 x1 r1=>?_⟩
  unfold qhC at e
  split at e
  ·rename_i sep l _
   obtain⟨ss,es,e⟩:=bind_some e
   by_cases hz:(ss.map (·.length)).sum+ss.length*sep.length<=16777216
   ·rw[if_pos hz]at e
    cases e
    cases r1.str_inv
    refine⟨rfl,H0,A0,A,E,ρ,[.lst l],st.mono x1,by unfold qz lNil;rw[ey];rfl,λvs H2 x2 r2=>?_⟩
    obtain⟨w,rfl,rw'⟩:=r2.one
    obtain⟨p,us,rfl,h1,r3⟩:=rw'.lst_inv
    rw[qhe es r3]at h1
    exact⟨sep,p,ss,rfl,rfl,.inl h1,hz,q _ H2 (x1.trans x2) (.str _)⟩
   ·rw[if_neg hz]at e;cases e
  ·cases e
theorem qo3{sep:Str}{ss:List Str}(h:(ss.map (·.length)).sum+ss.length*sep.length<=16777216):qhC (.str sep) (.lst (ss.map .str))=some (.str (Txt.join sep ss)):=by
 unfold qhC;simp only[qeZ,Option.bind];rw[if_pos h]
noncomputable def dLeA:D->D->Option D
 | .int i,.int j=>some (.bl (decide (i<=j)))
 | .str i,.str j=>some (.bl (!decide (j.cps.toList<i.cps.toList)))
 | _,_=>none
theorem qqc:OpX X (zap .LtE) dLeA:=OpR.mono (OpR.or qqj My.qiy) <| by
 rintro x y H Q ⟨A,dx,dy,d,lv,rx,ry,e,q⟩
 unfold dLeA at e
 split at e
 ·cases e
  cases rx.int_inv
  cases ry.int_inv
  exact .inl ⟨_,_,rfl,rfl,q _ H (Ext.refl _ _) (.bl _)⟩
 ·cases e
  cases rx.str_inv
  cases ry.str_inv
  exact .inr ⟨_,_,rfl,rfl,q _ H (Ext.refl _ _) (.bl _)⟩
 ·cases e
@[simp] theorem q_leAI{i j:Int}:dLeA (.int i) (.int j)=some (.bl (decide (i<=j))):=rfl
@[simp] theorem q_leAS{i j:Str}:dLeA (.str i) (.str j)=some (.bl (!decide (j.cps.toList<i.cps.toList))):=rfl
noncomputable def dInA(x y:D):Option D:=match x,y with
 | .str i,.str j=>some (.bl (!(Builtin.Str.occurrences j i 0 j.length 1).isEmpty))
 | x,y=>dIn x y
noncomputable def qdg(x y:D):Option D:=match x,y with
 | .str i,.str j=>some (.bl (!(!(Builtin.Str.occurrences j i 0 j.length 1).isEmpty)))
 | x,y=>qmh x y
theorem qoj(hu:X.A.units+64<cLine):OpX X (zap .In) dInA:=OpR.mono (OpR.or (qqC hu) qiL) <| by
 rintro x y H Q ⟨A,dx,dy,d,lv,rx,ry,e,q⟩
 unfold dInA at e
 split at e
 ·cases e
  cases rx.str_inv
  cases ry.str_inv
  exact .inr ⟨_,_,rfl,rfl,q _ H (Ext.refl _ _) (.bl _)⟩
 ·exact .inl ⟨A,_,_,d,lv,rx,ry,e,q⟩
theorem qis(hu:X.A.units+64<cLine):OpX X (zap .NotIn) qdg:=OpR.mono (OpR.or (qlc hu) qfD) <| by
 rintro x y H Q ⟨A,dx,dy,d,lv,rx,ry,e,q⟩
 unfold qdg at e
 split at e
 ·cases e
  cases rx.str_inv
  cases ry.str_inv
  exact .inr ⟨_,_,rfl,rfl,q _ H (Ext.refl _ _) (.bl _)⟩
 ·exact .inl ⟨A,_,_,d,lv,rx,ry,e,q⟩
noncomputable def signs(x:Str):List D:=x.cps.toList.map λc=>.str ⟨#[c]⟩
theorem qp4{x:Str}:ItOk (My.ItS x) [] (signs x):=by
 intro A H lv hE i
 have hl:(signs x).length=x.cps.size:=by simp[signs]
 refine⟨λhi=>by rw[hl]at hi;exact hi,λd hd=>?_⟩
 have hi:i<x.cps.size:=by rw[<- hl];exact(List.getElem?_eq_some_iff.mp hd).1
 refine⟨hi,λy H' ⟨e,c,hc,ey⟩=>?_⟩
 subst e ey
 have:d=.str ⟨#[c]⟩:=by
  unfold signs at hd
  rw[zax]at hd
  obtain⟨c',e1,rfl⟩:=map_some hd
  have:x.cps[i]?=some c':=by rw[<- zb8];exact e1
  rw[hc]at this;cases this;rfl
 subst this
 exact⟨Ext.refl _ _,.str _⟩
noncomputable def qhU(f:Ev):Lv:=λρ=>(f ρ).bind λd=>match d with
 | .lst l=>some l
 | .tup l=>some l
 | .dT l=>some (l.map λp=>.tup (p.1.map keyD))
 | .str x=>some (signs x)
 | _=>none
@[simp] theorem q_lSeqA{f:Ev}{ρ:Rho}:qhU f ρ=(f ρ).bind λd=>match d with
 | .lst l=>some l
 | .tup l=>some l
 | .dT l=>some (l.map λp=>.tup (p.1.map keyD))
 | .str x=>some (signs x)
 | _=>none:=rfl
theorem qkk{tg e:Expr}{f:Ev}(h:PD X O e f):PDI X O tg e (qhU f):=PI.mono (PI.or (qn1 h) (My.qqe h)) <| by
 rintro σ H R ⟨H0,A0,A,E,ρ,items,st,e,q⟩
 obtain⟨d,e1,e⟩:=bind_some e
 cases d with
 | str x=>
  cases e
  refine .inr ⟨H0,A0,A,E,ρ,_,st,e1,λv H1 x1 r1=>?_⟩
  cases RepB.str_inv (.of r1)
  exact⟨x,rfl,q _ H1 [] x1 (λp hp=>nomatch hp) qp4⟩
 | lst l=>exact .inl ⟨H0,A0,A,E,ρ,items,st,by unfold lSeq;rw[e1];exact e,q⟩
 | tup l=>exact .inl ⟨H0,A0,A,E,ρ,items,st,by unfold lSeq;rw[e1];exact e,q⟩
 | dT l=>exact .inl ⟨H0,A0,A,E,ρ,items,st,by unfold lSeq;rw[e1];exact e,q⟩
 | _=>cases e
end
structure GTup(K:zae)(mg:Str->Option Value)(x:Str)(ss:List Str):Prop where
 ex:∃a,mg x=some (.ref a)/\∃(o:Obj) (its:Array Value) (n:Nat),K.lookup a=some o/\o.cls=.type "tuple" /\ o.data=.seq its n/\its.size<=zaj/\Vals (ss.map V.str) its.toList
structure GInt(mg:Str->Option Value)(x:Str)(i:Int):Prop where
 ex:∃t,mg x=some (.int i t)
section
variable {X:Cx}{O:List Nat}
theorem qdf{x:Str}{i:Int}{p:Pos}(g:GInt X.mg x i)(hg:Gl X x)(hd:(x == ("__debug__" : Str))=false:=by decide):PD X O (.Name x p) (eC (.int i)):=by
 obtain⟨t,e⟩:=g.ex
 exact PE.mono (qiQ (v:=.int i) hg e ⟨t,rfl⟩ hd) λσ H Q ⟨H0,A0,A,E,ρ,d,st,e,q⟩=>by cases e;exact q _ H (Ext.refl _ _) (.int _)
noncomputable def dInG(neg:Bool)(ss:List Str):D->Option D
 | .str s=>some (.bl (if neg then !ss.contains s else ss.contains s))
 | _=>none
theorem qgz(s:Str):∀ss:List Str,inV (.str s) (ss.map V.str)=ss.contains s
 | []=>rfl
 | y::ss=>by
  have ih:=qgz s ss
  unfold inV at ih ⊢
  rw[zak,zbe,ih,List.contains_cons]
  congr 1
  show decide (y=s)=(s == y)
  by_cases h:y=s
  ·subst h;simp
  ·have:¬ s=y:=λz=>h z.symm
   simp[h,this]
theorem qfq:∀ss:List Str,(ss.map V.str).all qes=true
 | []=>rfl
 | y::ss=>by rw[zak,List.all_cons,qfq ss];rfl
theorem qmT{neg:Bool}{ss:List Str}{f:Ev}{a:Addr}{K:zae}(hk:∃(o:Obj) (its:Array Value) (n:Nat),K.lookup a=some o/\o.cls=.type "tuple" /\ o.data=.seq its n/\its.size<=zaj/\Vals (ss.map V.str) its.toList){σ:L2.St}{H:Hp}{Q:VK}(h:tD Rep O (qh4 (dInG neg ss) f) σ H Q):tOp (rIn K neg) (tD RepB O f) (tC (.ref a)) σ H Q:=by
 obtain⟨H0,A0,A,E,ρ,d,st,e,q⟩:=h
 obtain⟨x,ex,e⟩:=bind_some e
 refine⟨H0,A0,A,E,ρ,x,st,ex,λv H1 x1 r1=>?_⟩
 cases x with
 | str s=>
  cases e
  cases r1.str_inv
  refine⟨a,ss.map V.str,rfl,.inr (.inr hk),rfl,qfq ss,?_⟩
  rw[qgz]
  exact q _ H1 x1 (.bl _)
 | _=>cases e
theorem qmH{e:Expr}{x:Str}{ss:List Str}{f:Ev}{p pos:Pos}(g:GTup X.K X.mg x ss)(hg:Gl X x)(he:PB X O e f)(hd:(x == ("__debug__" : Str))=false:=by decide)(hm:zbC .In (.Name x p)=false:=by rfl):PDT X O (.Compare e [.In] [.Name x p] pos) (bOf (qh4 (dInG false ss) f)):=by
 obtain⟨a,e1,hk⟩:=g.ex
 exact PT.mono (qjx qi7 he (qiQ (v:=.ref a) hg e1 rfl hd) hm) λσ H Q h=>qmT hk (qbJ h)
end
@[simp] theorem q_inG{neg:Bool}{ss:List Str}{s:Str}:dInG neg ss (.str s)=some (.bl (if neg then !ss.contains s else ss.contains s)):=rfl
@[simp] theorem q_eqS{a b:Str}:dEq (.str a) (.str b)=some (.bl (decide (a=b))):=by
 unfold dEq eqD
 rw[if_pos (.inl rfl)]
 by_cases h:a=b
 ·subst h;simp
 ·have h2:¬ D.str a=D.str b:=λz=>h (by injection z)
  simp[h]
@[simp] theorem q_neS{a b:Str}:dNe (.str a) (.str b)=some (.bl (!decide (a=b))):=by
 unfold dNe eqD
 rw[if_pos (.inl rfl)]
 by_cases h:a=b
 ·subst h;simp
 ·have h2:¬ D.str a=D.str b:=λz=>h (by injection z)
  simp[h]
theorem qfM{f rest:Sv}{ρ:Rho}{R:D->Prop}(W:Rho->Prop)(h:∃ρ',f ρ=some (.nx ρ')/\W ρ')(k:∀ρ',W ρ'->∃d,rest ρ'=some (.rt d)/\R d):∃d,sSeq f rest ρ=some (.rt d)/\R d:=by
 obtain⟨ρ',e,w⟩:=h
 rw[qe e]
 exact k ρ' w
theorem qpl{l:List D}{k:Int}{e:D}(h0:0<=k)(h:k<(l.length:Int)):dPut (.lst l) (.int k) e=some (.lst (l.set k.toNat e)):=by
 show(ixN l.length k).map _=_
 unfold ixN
 rw[if_pos h0,if_pos h]
 rfl
theorem at_of{l:List D}{k:Int}{d:D}(h0:0<=k)(h:l[k.toNat]?=some d):atI l k=some d:=by
 obtain⟨j,rfl⟩:∃j:Nat,k=(j:Int):=⟨k.toNat,by omega⟩
 exact qaf (by simpa using h)
theorem qn2{l:List D}{k:Int}(h0:0<=k)(h:k<(l.length:Int)):∃d,d∈l/\l[k.toNat]?=some d/\atI l k=some d:=by
 have hj:k.toNat<l.length:=by omega
 have e:l[k.toNat]?=some l[k.toNat]:=zaO hj
 exact⟨l[k.toNat],List.getElem_mem hj,e,at_of h0 e⟩
theorem qgh{c:Bv}{b:Sv}(I:Nat->Rho->Prop)(J:Rho->Prop)(h:∀n ρ,I n ρ->(c ρ=some true/\∃m ρ',m<n/\b ρ=some (.nx ρ')/\I m ρ')\/(c ρ=some false/\J ρ)):∀(fuel n:Nat) (ρ:Rho),n<fuel->I n ρ->∃ρ',qck c b fuel ρ=some (.nx ρ')/\J ρ'
 | 0,n,ρ,hn,_=>absurd hn (Nat.not_lt_zero n)
 | fuel+1,n,ρ,hn,hi=>by
  rcases h n ρ hi with⟨hc,m,ρ',hm,hb,hi'⟩|⟨hc,hj⟩
  ·obtain⟨ρ2,e,hj⟩:=qgh I J h fuel m ρ' (by omega) hi'
   refine⟨ρ2,?_,hj⟩
   unfold qck
   rw[hc,qb,if_pos rfl,hb,qb]
   exact e
  ·refine⟨ρ,?_,hj⟩
   unfold qck
   rw[hc,qb,if_neg zaq]
theorem qji{c:Bv}{b rest:Sv}{ρ:Rho}{R:D->Prop}(I:Nat->Rho->Prop)(J:Rho->Prop)(n:Nat)(hn:n<100000)(h0:I n ρ)(h:∀n ρ,I n ρ->(c ρ=some true/\∃m ρ',m<n/\b ρ=some (.nx ρ')/\I m ρ')\/(c ρ=some false/\J ρ))(k:∀ρ',J ρ'->∃d,rest ρ'=some (.rt d)/\R d):∃d,sSeq (qfC c b) rest ρ=some (.rt d)/\R d:=by
 obtain⟨ρ',e,hj⟩:=qgh I J h 100000 n ρ hn h0
 have e':qfC c b ρ=some (.nx ρ'):=e
 rw[qe e']
 exact k ρ' hj
theorem PD.pe{X:Cx}{O:List Nat}{e:Expr}{f:Ev}(h:PD X O e f):PE X e (tD Rep O f):=h
noncomputable def isStar:Expr->Bool
 | .Starred ..=>true
 | _=>false
theorem qag{e:Expr}{es:List Expr}{env:Env}(h:isStar e=false):zaf (e::es) env=(false,eval e env)::zaf es env:=by
 cases e <;> first|rfl|cases h
theorem qbY{pos:Pos}{env:Env}:∀ {es:List Expr},(es.all λe=>!isStar e)=true->(backTo pos (zaf es env)).any (·.1)=false
 | [],_=>by simp[zaf,backTo]
 | e::es,h=>by
  rw[List.all_cons,zaC]at h
  have he:isStar e=false:=by cases z:isStar e;rfl;rw[z]at h;exact absurd h.1 (by decide)
  have ih:=qbY (pos:=pos) (env:=env) (es:=es) h.2
  rw[qag he]
  simp only[backTo,zak,zbe,Bool.false_or]at ih ⊢
  exact ih
end P
namespace My
open PySem PySem.Spec PyProof.Rows L2 PySem.SeqAt
noncomputable def bst(val:Nat->Int):Nat->Nat->Int->Int
 | 0,_,m=>m
 | k+1,j,m=>bst val k (j+1) (if val j>m then val j else m)
theorem qiZ(a v:Value):argsOk "max" ⟨[a],[(zaU "default",v)]⟩:=by unfold argsOk;kernel_rfl
section
variable {prog:zai}{w:World}{A:Around}{R:Result->Shared->Prop}{I S:Addr}{fp wr:List Addr}{n:Nat}{P:Nat->Value->Prop}{St:Nat->Heap->Prop}{kw:List (Str×Value)}
theorem qbG(W:Walks prog w A.in1 I fp wr n P St)(val:Nat->Int)(hv:∀j v,P j v->∃t,v=.int (val j) t)(nS:S∉fp):∀(k j:Nat) (s:Shared) (m:Int) (t:Tok) (c:Nat),n-j=k->j<=n->St j s.heap->
  s.heap.get? S=some {cls:=.type "list",dict:=none,data:=.seq #[.int m t,.int m t] c,slots:=#[]}->
  (∀t' h' tk,(∀b o,b∉wr->b≠S->s.heap.get? b=some o->h'.get? b=some o)->R (.ok (.ret (.int (bst val k j m) t'))) {s with heap:=h',toks:=tk})->
  codeAny (model prog w) A (.builtin "max.loop" ⟨[.ref I,.none,.ref S],kw⟩) R s
 | k,j,s,m,t,c,hk,hj,st,gS,fin=>by
  have nw:S∉wr:=λz=>nS (W.sub _ z)
  have nm:(toString "max" ++ toString ".loop" : String) = "max.loop" := by decide
  refine zbF PySem.F.entry_max_loop ?_
  rw[zbG zbI _]
  show wpAny _ A.in1 (seqItems? (.ref S) >>= λ_=>_) _ _ s
  refine zaa (zbn gS rfl ?_)
  show wpAny _ A.in1 (tryCatch (pyNext (.ref I)) _ >>= λ_=>_) _ _ s
  match k,hk,fin with
  | 0,hk,fin=>
   have e:j=n:=by omega
   refine zaa (wpAny_tryCatch (W.done s _ _ (e ▸ st) λh1 tk same=>?_))
   have gS1:=same S _ nw gS
   show wpAny _ A.in1 (updateSeq S (λ_=>#[]) >>= λ_=>_) _ _ _
   refine zaa (zbY gS1 rfl (zaa (wpAny_letGo (zab ?_))))
   exact fin t _ tk λb o nb nbS eb=>(zbl _ _ (zaJ nbS)).trans (same b o nb eb)
  | k+1,hk,fin=>
   have lt:j<n:=by omega
   refine zaa (wpAny_tryCatch (W.item j s _ _ lt st λv h1 tk pv st1 same=>?_))
   have gS1:=same S _ nw gS
   obtain⟨u,rfl⟩:=hv j v pv
   show wpAny _ A.in1 (tryCatch (holding [.int (val j) u,.int (val j) u] (richCompare .Gt (.int (val j) u) (.int m t) >>= λ_=>_)) _ >>= λ_=>_) _ _ _
   refine zaa (wpAny_tryCatch (zbb (zaa ?_)))
   refine richCompare_gives (op:=.Gt) (typeIs_int _ _ u) (typeIs_int _ _ t) PySem.F.slot_int_gt PySem.F.entry_int_gt (PySem.F.args_int_gt_2 _ _) (gives_int_gt _ _ u t) (λz=>nomatch z) ?_
   refine zaa (zbb (zbg ?_))
   refine zaa (wpAny_letGo (zab ?_))
   by_cases hb:val j>m
   ·rw[decide_eq_true hb]
    simp only[if_true]
    refine zaa (zbY gS1 rfl (zaa (wpAny_letGo ?_)))
    rw[nm]
    refine zab ⟨zbf zbI _,qbG W val hv nS k (j+1) _ (val j) u _ (by omega) lt (W.frame _ _ _ st1 λb bf o eb=>?_) (zbv _ gS1 rfl) λt' h2 tk2 same2=>?_⟩
    ·exact(zbl _ _ (λz:S=b=>nS (z ▸ bf))).trans eb
    ·have:=fin t' h2 tk2 λb o nb nbS eb=>same2 b o nb nbS ((zbl _ _ (zaJ nbS)).trans (same b o nb eb))
     rw[bst,if_pos hb]at this
     exact this
   ·rw[decide_eq_false hb]
    simp only[zby,if_false]
    refine zaa (wpAny_letGo ?_)
    rw[nm]
    refine zab ⟨zbf zbI _,qbG W val hv nS k (j+1) _ m t c (by omega) lt st1 gS1 λt' h2 tk2 same2=>?_⟩
    have:=fin t' h2 tk2 λb o nb nbS eb=>same2 b o nb nbS (same b o nb eb)
    rw[bst,if_neg hb]at this
    exact this
theorem qhQ{dv:Value}(W:Walks prog w A.in1 I fp wr n P St)(val:Nat->Int)(hv:∀j v,P j v->∃t,v=.int (val j) t)(nS:S∉fp){s:Shared}{c:Nat}(st:St 0 s.heap)
  (gS:s.heap.get? S=some {cls:=.type "list",dict:=none,data:=.seq #[] c,slots:=#[]})
  (f0:n=0->∀h' tk,(∀b o,b∉wr->b≠S->s.heap.get? b=some o->h'.get? b=some o)->R (.ok (.ret dv)) {s with heap:=h',toks:=tk})
  (fin:0<n->∀t' h' tk,(∀b o,b∉wr->b≠S->s.heap.get? b=some o->h'.get? b=some o)->R (.ok (.ret (.int (bst val (n-1) 1 (val 0)) t'))) {s with heap:=h',toks:=tk}) :
  codeAny (model prog w) A (.builtin "max.loop" ⟨[.ref I,.none,.ref S],[(zaU "default",dv)]⟩) R s:=by
 have nw:S∉wr:=λz=>nS (W.sub _ z)
 have nm:(toString "max" ++ toString ".loop" : String) = "max.loop" := by decide
 refine zbF PySem.F.entry_max_loop ?_
 rw[zbG zbI _]
 show wpAny _ A.in1 (seqItems? (.ref S) >>= λ_=>_) _ _ s
 refine zaa (zbn gS rfl ?_)
 show wpAny _ A.in1 (tryCatch (pyNext (.ref I)) _ >>= λ_=>_) _ _ s
 by_cases h0:n=0
 ·refine zaa (wpAny_tryCatch (W.done s _ _ (h0 ▸ st) λh1 tk same=>?_))
  refine zaa (wpAny_rule (zab ?_))
  exact f0 h0 _ tk λb o nb nbS eb=>same b o nb eb
 ·have lt:0<n:=Nat.pos_of_ne_zero h0
  refine zaa (wpAny_tryCatch (W.item 0 s _ _ lt st λv h1 tk pv st1 same=>?_))
  have gS1:=same S _ nw gS
  obtain⟨u,rfl⟩:=hv 0 v pv
  show wpAny _ A.in1 (updateSeq S (λ_=>#[.int (val 0) u,.int (val 0) u]) >>= λ_=>_) _ _ _
  refine zaa (zbY gS1 rfl ?_)
  rw[nm]
  refine zab ⟨zbf zbI _,qbG W val hv nS (n-1) 1 _ (val 0) u _ rfl lt (W.frame _ _ _ st1 λb bf o eb=>?_) (zbv _ gS1 rfl) λt' h2 tk2 same2=>?_⟩
  ·exact(zbl _ _ (λz:S=b=>nS (z ▸ bf))).trans eb
  ·exact fin lt t' h2 tk2 λb o nb nbS eb=>same2 b o nb nbS ((zbl _ _ (zaJ nbS)).trans (same b o nb eb))
end
noncomputable def maxL(d:Int):List Int->Int
 | []=>d
 | x::xs=>xs.foldl (λm y=>if y>m then y else m) x
theorem qeL(ns:List Int):∀(k j:Nat) (m:Int),ns.length-j=k->bst (λi=>(ns[i]?).getD 0) k j m=(ns.drop j).foldl (λm y=>if y>m then y else m) m
 | 0,j,m,h=>by
  rw[List.drop_eq_nil_iff.mpr (by omega)]
  rfl
 | k+1,j,m,h=>by
  have hj:j<ns.length:=by omega
  rw[bst,List.drop_eq_getElem_cons hj,zbV,qeL ns k (j+1) _ (by omega)]
  simp[hj]
section
variable {X:Cx}
theorem qh6(hc:X.calm=true){pins:List (Addr×Obj)}{s:Shared}{σ:L2.St}{H:Hp}{p:Addr}{ns:List Int}{d:Int}{t:Tok}{Q:VK}(I:Inv X pins σ H s)(hq:SqL X.K H p (ns.map V.int))(q:Q (.int (maxL d ns)) H) :
  wpAny (model X.prog X.w) X.A (call (.builtin "max") [.ref p] [(zaU "default",.int d t)]) (EP X pins σ Q) X.xe s:=by
 have nm:(toString "max" ++ toString ".loop" : String) = "max.loop" := by decide
 obtain⟨its,r',pl,hz⟩:=I.list hq
 have hl:s.heap.IsList p its.toArray:=pl.isList
 obtain⟨o,ho,hc',n,hd⟩:=id hl
 have hne:p≠s.heap.objs.size:=zaw (zah ho)
 have W:=Walks.list (prog:=X.prog) (w:=X.w) (A:=X.A.in1) (I.ok.hd hc) s.heap.objs.size p hne its.toArray
 refine kmk_tree PySem.F.kind_max PySem.F.plain_max PySem.F.entry_max (qiZ _ _) ?_
 show wpAny _ X.A.in1 (zch "max" ["key", "default"] 0 ⟨[],[(zaU "default",.int d t)]⟩ >>= λ_=>_) _ _ s
 refine zaa (wpAny_of_eq (show zch "max" ["key", "default"] 0 ⟨[],[(zaU "default",.int d t)]⟩=pure [none,some (.int d t)]from rfl) ?_)
 refine zaa (zab (zaa (zbK hl (zaa (wpAny_newList ?_ (zaX _))))))
 rw[nm]
 refine zab ⟨zbf zbI _,?_⟩
 have hlen:=r'.length
 rw[zan]at hlen
 have sz:its.toArray.size=ns.length:=by rw[zau];exact hlen.symm
 have keep:∀h':Heap,(∀b o,b∉[s.heap.objs.size]->b≠(s.heap.push {cls:=.type "list_iterator",data:=.fields #[.ref p,.int 0 0]}).objs.size->((s.heap.push {cls:=.type "list_iterator",data:=.fields #[.ref p,.int 0 0]}).push (seqObj "list" #[] 0)).get? b=some o->h'.get? b=some o)->∀b o,s.heap.get? b=some o->h'.get? b=some o:=λh' k b o e=>by
  have lt:=zah e
  refine k b o (λz=>zaw lt (List.mem_singleton.mp z)) ?_ (zag _ (zag _ e))
  rw[size_push']
  exact zaw (Nat.lt_succ_of_lt lt)
 refine qhQ W (λi=>(ns[i]?).getD 0) (λi v hP=>qeO r' (by simpa using hP)) (S:=(s.heap.push {cls:=.type "list_iterator",data:=.fields #[.ref p,.int 0 0]}).objs.size) ?_ ?_ (zat _ rfl) (λh0 h' tk same=>?_) λh0 t' h' tk same=>?_
 ·rw[size_push']
  intro z
  rcases List.mem_cons.mp z with z|z
  ·exact zaF (zbR _) z
  ·exact za1 _ (Nat.lt_trans (zbR _) ((List.mem_singleton.mp z) ▸ zah ho))
 ·exact⟨⟨_,zag _ (zat _ rfl),rfl,rfl⟩,hl.at λo e=>zag _ (zag _ e)⟩
 ·have e0:ns=[]:=List.length_eq_zero_iff.mp (by omega)
  subst e0
  exact⟨.int d,H,I.kept (t':=tk) (keep h' same),⟨t,rfl⟩,q⟩
 ·refine⟨.int (maxL d ns),H,I.kept (t':=tk) (keep h' same),⟨t',?_⟩,q⟩
  rw[sz]
  cases ns with
  | nil=>rw[sz]at h0;exact absurd h0 (za1 0)
  | cons x xs=>
   rw[qeL (x::xs) _ 1 _ (by simp)]
   rfl
end
end My
namespace P
open PySem PySem.Spec PyProof.Rows L2
section
variable {X:Cx}{O:List Nat}
noncomputable def qlh(x y:D):Option D:=match x,y with
 | .lst l,.int d=>(qap l).map λns=>.int (My.maxL d ns)
 | _,_=>none
@[simp] theorem q_maxD{ns:List Int}{d:Int}:qlh (.lst (ns.map .int)) (.int d)=some (.int (My.maxL d ns)):=by unfold qlh;simp only[qaR];rfl
theorem qmR{e ed:Expr}{p pos kp:Pos}{fe fd:Ev}(hc:X.calm=true)(hg:Gl X "max")(hm:X.mg "max" = none)(he:PB X O e fe)(hd:PD X O ed fd)(hs:isStar e=false):PD X O (.Call (.Name "max" p) [e] [⟨some "default",ed,kp⟩] pos) (eOp qlh fe fd):=by
 intro pins s σ H Q I h
 obtain⟨H0,A0,A,E,ρ,d,st,e0,q⟩:=h
 obtain⟨x,ex,e0⟩:=bind_some e0
 obtain⟨y,ey,e0⟩:=bind_some e0
 refine wpAny_Call_Name_kw (qbs I hg hm My.boot_max ?_ (by decide) (by decide))
 refine PyProof.Rows.callWith_kw (thn (qbh he qdy (qag hs) pos pins s σ H (λvs H1=>∃v,vs=[v]/\RepB A H1 x v/\Ext A H H1) I ⟨H0,A0,A,E,ρ,x,st,ex,λv H1 x1 r1=>⟨v,rfl,r1,x1⟩⟩) λus s1 ⟨vs,H1,I1,r1,v,ev,rv,x1⟩=>?_) (by rw[qag hs];rfl) (qbY (by simp[hs]))
 subst ev
 refine thn (qnX (nm:=some "default") (kpos:=kp) hd qpy pos pins s1 σ H1 (λvs H2=>∃w,vs=[w]/\Rep A H2 y w/\Ext A H1 H2) I1 ⟨H0,A0,A,E,ρ,y,st.mono x1,ey,λw H2 x2 r2=>⟨w,rfl,r2,x2⟩⟩) λws s2 ⟨zs,H2,I2,r2,w,ew,rw_,x2⟩=>?_
 subst ew
 unfold qlh at e0
 split at e0
 ·obtain⟨ns,e1,rfl⟩:=map_some e0
  obtain⟨a,us',rfl,h1,r3⟩:=(rv.ext x2).lst_inv
  rw[qao e1 r3]at h1
  cases rw_
  obtain⟨u,rfl,ru⟩:=vals1 r1
  cases ru
  obtain⟨u2,rfl,ru2⟩:=vals1 r2
  obtain⟨t,rfl⟩:=ru2
  exact My.qh6 hc I2 (.inl h1) (q _ H2 (x1.trans x2) (.int _))
 ·cases e0
end
end P
namespace My
open PySem PySem.Spec PyProof.Rows L2 PySem.SeqAt
theorem qa9:entryFor table "dict.update.loop" = some Builtin.«dict.update.loop»:=entryFor_of_tree (by kernel_rfl)
theorem qac:plainId "dict.update.loop" = true:=by decide +kernel
theorem qdq:typeLookup (.type "list") (zaU "keys")=pure none:=by rw[typeLookup_type,builtinLookup_eq_fast];kernel_rfl
theorem qdn:typeLookup (.type "tuple") (zaU "keys")=pure none:=by rw[typeLookup_type,builtinLookup_eq_fast];kernel_rfl
section
variable {prog:zai}{w:World}{A:Around}{E:Value->Shared->Prop}{s:Shared}
theorem qdo{a:Addr}{o:Obj}{xs:Array Value}{k:Nat}{Q:Option Value->Shared->Prop}(hx:s.heap.get? a=some o)(hc:o.cls=.type "list")(hdat:o.data=.seq xs k)(hd:o.dict=none)(hA:A.handled=none)
  (h:∀h' tk,(∀b o,s.heap.get? b=some o->h'.get? b=some o)->Q none {s with heap:=h',toks:=tk}):wpAny (model prog w) A (getAttr? (.ref a) "keys") Q E s:=by
 obtain⟨c,dct,dat,sl⟩:=o
 simp only at hc hdat hd
 subst hc hdat hd
 obtain⟨hp,g,d,tk,os⟩:=s
 have hT:∀tk',(⟨hp,g,d,tk',os⟩:Shared).TypeIs (.ref a) "list" := λ_=>⟨_,hx,rfl⟩
 have f1:=sub_AttributeError
 have f3:=PySem.F.slot_list_getattribute.lookup
 have f4:=PySem.F.slot_list_getattribute.bind (.ref a)
 have f5:=am_list_getattr_none
 unfold getAttr? getAttrBy? getAttrBy
 repeat (any_goals (first|assumption|exact hT _|((with_reducible show wpAny _ _ (call (Value.builtin "list.__getattribute__") _ _) _ _ _);refine call_meets PySem.F.slot_list_getattribute (hT _) am_entry_list_getattribute (PySem.F.args_list_getattribute_2 _ _) (meets_getattribute_miss_list a xs k sl (zaU "keys") _ qdq (by decide) (by size_fits)) ⟨hx,hA,λh' tk' e hx'=>?_⟩)|wp_step))
 obtain⟨t',u',he⟩:=hx'.there
 show wpAny _ _ (getattributeRaised _ _ _ _ _ _ _) _ _ _
 unfold getattributeRaised
 repeat (any_goals (first|assumption|wp_step))
 exact h _ _ hx'.keeps
theorem qdi{a:Addr}{o:Obj}{xs:Array Value}{k:Nat}{Q:Option Value->Shared->Prop}(hx:s.heap.get? a=some o)(hc:o.cls=.type "tuple")(hdat:o.data=.seq xs k)(hd:o.dict=none)(hA:A.handled=none)
  (h:∀h' tk,(∀b o,s.heap.get? b=some o->h'.get? b=some o)->Q none {s with heap:=h',toks:=tk}):wpAny (model prog w) A (getAttr? (.ref a) "keys") Q E s:=by
 obtain⟨c,dct,dat,sl⟩:=o
 simp only at hc hdat hd
 subst hc hdat hd
 obtain⟨hp,g,d,tk,os⟩:=s
 have hT:∀tk',(⟨hp,g,d,tk',os⟩:Shared).TypeIs (.ref a) "tuple" := λ_=>⟨_,hx,rfl⟩
 have f1:=sub_AttributeError
 have f3:=PySem.F.slot_tuple_getattribute.lookup
 have f4:=PySem.F.slot_tuple_getattribute.bind (.ref a)
 have f5:=am_tuple_getattr_none
 unfold getAttr? getAttrBy? getAttrBy
 repeat (any_goals (first|assumption|exact hT _|((with_reducible show wpAny _ _ (call (Value.builtin "tuple.__getattribute__") _ _) _ _ _);refine call_meets PySem.F.slot_tuple_getattribute (hT _) am_entry_tuple_getattribute (PySem.F.args_tuple_getattribute_2 _ _) (meets_getattribute_miss_tuple a xs k sl (zaU "keys") _ qdn (by decide) (by size_fits)) ⟨hx,hA,λh' tk' e hx'=>?_⟩)|wp_step))
 obtain⟨t',u',he⟩:=hx'.there
 show wpAny _ _ (getattributeRaised _ _ _ _ _ _ _) _ _ _
 unfold getattributeRaised
 repeat (any_goals (first|assumption|wp_step))
 exact h _ _ hx'.keeps
end
section
variable {X:Cx}{pins:List (Addr×Obj)}{σ:L2.St}{H:Hp}{s:Shared}{a:Addr}{y v:V}{u r:Value}{A:Around}{E:Value->Shared->Prop}
theorem qip{H':Hp}{Q:Unit->Shared->Prop}(hu:A.units+1<cLine)(I:Inv X pins σ H s)(g:DPut H a y v H')(ry:RelV y u)(rv:RelV v r)(h:∀h' t',Inv X pins σ H' {s with heap:=h',toks:=t'}->zaM a s.heap h'->Q () {s with heap:=h',toks:=t'}) :
  wpAny (model X.prog X.w) A (dictSet a u r) Q E s:=by
 rcases g with⟨kvs,k,e,ey,l,eH⟩|⟨kvs,k,b,e,ey,eb,l,eH⟩
 ·subst ey eH
  obtain⟨z,hd,vs,rel,dd⟩:=qm9 I.hok e
  have hz:vs.length<=zaj:=by rw[<- rel.length];exact z
  have hl:(putK kvs k v).length<=zaj:=by have:=qad kvs k v;omega
  refine wpAny_dictSet_pairs (hsz:=hz) (qeD ry) dd λh' dd' hs=>h _ _ ?_ hs
  have he:∃q,h'.get? a=some q:=let ⟨q,_,_,hq,_⟩:=dd';⟨q,hq⟩
  exact qcg I (by rw[e];exact za3) hs he (qil hl hd (rel.put k rv) dd')
 ·subst ey eH
  cases(show u=zal b from ry)
  obtain⟨z,hd,xs,rel,dd⟩:=qmq I.hok e
  have hz:xs.length<=zaj:=by rw[<- zbt rel];exact z
  have hl:(putK kvs k v).length<=zaj:=by have:=qad kvs k v;omega
  refine wpAny_dictSet_heap (hsz:=hz) (show A.units<cLine by omega) (qbz I.hok eb) dd λh' dd' hs=>h _ _ ?_ hs
  obtain⟨q,es,ep,hq,h2,h3,h4,_,h5⟩:=dd'
  refine qcg I (by rw[e];exact za3) hs ⟨q,hq⟩ ⟨hl,hd,_,(rel.put k eb rv).keeps λc ys ec=>?_,q,es,ep,hq,h2,h3,h4,h5⟩
  rw[qi (qlx ec e (λz=>nomatch z))]
  exact ec
end
inductive Puts(d:Addr):Hp->List (V×V)->Hp->Prop where
 | nil {H:Hp}:Puts d H [] H
 | cons {H H1 H2:Hp} {y v:V} {l:List (V×V)} (h:DPut H d y v H1) (t:Puts d H1 l H2):Puts d H ((y,v)::l) H2
theorem qhl{H H':Hp}{a:Addr}{y v:V}(g:DPut H a y v H'):(∃u,H a=some u/\(∀xs,u≠.tup xs)/\∀o w,u≠.frz o w)/\∀b,b≠a->H' b=H b:=by
 rcases g with⟨kvs,k,e,ey,l,eH⟩|⟨kvs,k,b,e,ey,eb,l,eH⟩
 ·subst eH;exact⟨⟨_,e,(λ_ z=>nomatch z),(λ_ _ z=>nomatch z)⟩,λb hb=>qi hb⟩
 ·subst eH;exact⟨⟨_,e,(λ_ z=>nomatch z),(λ_ _ z=>nomatch z)⟩,λb hb=>qi hb⟩
theorem qke{K:zae}{H H':Hp}{a:Addr}{y v:V}(g:DPut H a y v H'){b:Addr}{xs:List V}(h:SqT K H b xs):SqT K H' b xs:=by
 obtain⟨⟨u,e,n1,n2⟩,same⟩:=qhl g
 rcases h with(h|⟨o,h⟩)|h
 ·exact .inl (.inl (by rw[same b (λz=>by rw[z,e]at h;exact n1 _ (zaA h))];exact h))
 ·exact .inl (.inr ⟨o,by rw[same b (λz=>by rw[z,e]at h;exact n2 _ _ (zaA h))];exact h⟩)
 ·exact .inr h
section
variable {X:Cx}{pins:List (Addr×Obj)}{σ:L2.St}{A:Around}{R:Result->Shared->Prop}{it d:Addr}{fp:List Addr}{n:Nat}{P:Nat->Value->Prop}{St:Nat->Heap->Prop}{H2:Hp}
theorem qcf(W:Walks X.prog X.w A.in1 it fp [it] n P St)(hd:d∉fp)(hu:A.in1.units+1<cLine)(fin:∀s',Inv X pins σ H2 s'->R (.ok (.ret .none)) s'):∀(l:List (V×V)) (j:Nat) (s:Shared) (H:Hp) (t:Tok) (i:Int),n-j=l.length->j<=n->St j s.heap->Inv X pins σ H s->FpOk X pins H it->
  (∀(m:Nat) (p:V×V) (v:Value),l[m]?=some p->P (j+m) v->∃b,v=.ref b/\SqT X.K H b [p.1,p.2])->Puts d H l H2->
  codeAny (model X.prog X.w) A (.builtin "dict.update.loop" ⟨[.ref d,.ref it,.int i t,.none],[]⟩) R s
 | [],j,s,H,t,i,hn,hj,st,I,fo,facts,pu=>by
  cases pu
  obtain⟨f0,f1,f2,f3,f4,f5⟩:=fo
  have e:j=n:=by simp at hn;omega
  subst e
  refine zbF qa9 ?_
  rw[zbG qac _]
  show wpAny _ A.in1 (pyNext (.ref it) >>= λ_=>_) _ _ s
  refine zaa (W.done s _ _ st λh1 tk same=>?_)
  show wpAny _ _ (Builtin.Dict.addKeywords d [] >>= _) _ _ _
  exact zaa (zab (zab (fin _ (I.turned (t':=tk) (λb o hb e=>same b o (by simpa using hb) e) f0 f1 f3 f4 f5))))
 | (y,v)::l,j,s,H,t,i,hn,hj,st,I,fo,facts,pu=>by
  obtain⟨f0,f1,f2,f3,f4,f5⟩:=id fo
  cases pu with
  | @cons _ H1 _ _ _ _ dp pu=>
  have lt:j<n:=by rw[zaT]at hn;omega
  refine zbF qa9 ?_
  rw[zbG qac _]
  show wpAny _ A.in1 (pyNext (.ref it) >>= λ_=>_) _ _ s
  refine zaa (W.item j s _ _ lt st λv1 h1 tk pv st1 same=>?_)
  obtain⟨b,rfl,sq⟩:=facts 0 (y,v) v1 rfl pv
  have I1:Inv X pins σ H {s with heap:=h1,toks:=tk}:=I.turned (t':=tk) (λb o hb e=>same b o (by simpa using hb) e) f0 f1 f3 f4 f5
  obtain⟨its,rv,ht,hz⟩:=I1.tuple sq
  cases rv with
  | @cons _ u _ us ru rt=>
  cases rt with
  | @cons _ r _ us2 rr rt2=>
  cases rt2
  obtain⟨o,ho,hc,nn,hdt⟩:=id ht
  show wpAny _ A.in1 (holding [zal b] _ >>= λ_=>_) _ _ _
  refine zaa (zbb ?_)
  refine zaa (wpAny_tryCatch ?_)
  unfold Builtin.Dict.pairItems
  refine zaa (wpAny_typeOf ht.typeIs ?_)
  rw[if_pos (by decide)]
  refine zaa (zbn ho hdt (zab ?_))
  show wpAny _ A.in1 (holding [u,r] (dictSet d u r)) _ _ _
  refine zbb (qip hu I1 dp ru rr λh2 t2 I2 sb=>?_)
  obtain⟨⟨uo,eu,_,_⟩,sameH⟩:=qhl dp
  have nd:it≠d:=λz=>by rw[<- z,f0]at eu;cases eu
  refine zab ⟨zbf qac _,qcf W hd hu fin l (j+1) _ H1 _ _ (by rw[zaT]at hn;omega) lt (W.frame _ _ _ st1 λb bf o eb=>?_) I2 ⟨by rw[sameH it nd];exact f0,f1,f2,f3,f4,f5⟩ (λm p v2 hm hp=>?_) pu⟩
  ·exact(sb.2 b (λz=>hd (z ▸ bf))).trans eb
  ·obtain⟨c,e,sq⟩:=facts (m+1) p v2 (by simpa using hm) (by rw[show j+(m+1)=j+1+m by omega];exact hp)
   exact⟨c,e,qke dp sq⟩
end
section
variable {X:Cx}
noncomputable def Src(X:Cx)(H:Hp)(p:Addr)(ys:List V):Prop:=SqL X.K H p ys\/Rd H p (.tup ys)
theorem qh0(hc:X.calm=true)(hu:X.A.units+64<cLine):CallR X (.type "dict") (λxs H Q=>∃p ys l,xs=[.ref p]/\Src X H p ys/\l.length=ys.length/\(∀(m:Nat) (pr:V×V),l[m]?=some pr->∃b,ys[m]?=some (.ref b)/\SqT X.K H b [pr.1,pr.2]) /\
  ∀q,H q=none->∃H2,(Puts q (upd H q (.dK [])) l H2\/Puts q (upd H q (.dT [])) l H2)/\Q (.ref q) H2):=by
 intro pins s σ H xs us Q I r h
 obtain⟨p,ys,l,rfl,src,hl,hpr,q⟩:=h
 obtain⟨u,rfl,rx⟩:=vals1 r
 cases rx
 obtain⟨H2,pu,q⟩:=q s.heap.objs.size (I.hok.fresh (zam _))
 refine callType_codes (Q₁:=λobj s₁=>obj=.ref s.heap.objs.size/\s₁={s with heap:=s.heap.push {cls:=.type "dict",data:=.dict #[]} }) PySem.F.kt_called_dict (PySem.F.kt_typeCall_dict_1 _) PySem.F.entry_dict_init (kt_code_dict_new _ ⟨rfl,rfl⟩) ?_
 rintro obj s₁ ⟨rfl,rfl⟩
 have n1:(s.heap.push {cls:=.type "dict",data:=.dict #[]}).get? s.heap.objs.size=some {cls:=.type "dict",data:=.dict #[]}:=zat _ rfl
 have t1:Shared.TypeIs {s with heap:=s.heap.push {cls:=.type "dict",data:=.dict #[]} } (.ref s.heap.objs.size) "dict" := ⟨_,n1,rfl⟩
 refine⟨t1,PySem.F.args_dict_init_2 _ _,?_⟩
 unfold Builtin.«dict.__init__»;refine zaa ?_;unfold Builtin.Dict.selfAndRest;refine zaa (wpAny_notOrdered_dict t1 ?_)
 show wpAny _ _ (pure (s.heap.objs.size,[zal p])) _ _ _;refine zab ?_
 show wpAny _ _ (Builtin.Dict.updateFrom "dict.__init__" s.heap.objs.size (.ref p) [] .none) _ _ _;unfold Builtin.Dict.updateFrom
 obtain⟨u0,hu0,IK,pu⟩:∃u0:HO,(u0=.dK []\/u0=.dT [])/\Inv X pins σ (upd H s.heap.objs.size u0) {s with heap:=s.heap.push {cls:=.type "dict",data:=.dict #[]} }/\Puts s.heap.objs.size (upd H s.heap.objs.size u0) l H2:=by
  rcases pu with pu|pu
  ·exact⟨_,.inl rfl,I.laid (a:=s.heap.objs.size) (o:=.dK []) (h':=s.heap.push {cls:=.type "dict",data:=.dict #[]}) (t':=s.toks) (λ_ _ q=>zag _ q) (zam _) (qhk s.heap I.big),pu⟩
  ·exact⟨_,.inr rfl,I.laid (a:=s.heap.objs.size) (o:=.dT []) (h':=s.heap.push {cls:=.type "dict",data:=.dict #[]}) (t':=s.toks) (λ_ _ q=>zag _ q) (zam _) (qex s.heap I.big),pu⟩
 have hne:∀b u,H b=some u->b≠s.heap.objs.size:=λb u e z=>za1 _ (by have:=(I.hok b u e).lt;rw[z]at this;exact this)
 have sqK:∀ {b:Addr} {zs:List V},SqT X.K H b zs->SqT X.K (upd H s.heap.objs.size u0) b zs:=λ{b zs} h=>by
  rcases h with(h|⟨o,h⟩)|h
  ·exact .inl (.inl (by rw[qi (hne _ _ h)];exact h))
  ·exact .inl (.inr ⟨o,by rw[qi (hne _ _ h)];exact h⟩)
  ·exact .inr h
 have hlt:∀ {o:Obj},s.heap.get? p=some o->p<s.heap.objs.size:=λe=>zah e
 rcases src with sq|sq
 ·obtain⟨its,rv,pl,hz⟩:=I.list sq
  obtain⟨o,n,ho,hcl,hdi,hda⟩:=id pl
  have hlen:=rv.length
  have ho1:(s.heap.push {cls:=.type "dict",data:=.dict #[]}).get? p=some o:=zag _ ho
  refine zaa (wpAny_typeOf (s:={s with heap:=s.heap.push {cls:=.type "dict",data:=.dict #[]} }) ⟨o,ho1,hcl⟩ ?_)
  rw[if_pos (by decide)]
  refine zaa (qdo (s:={s with heap:=s.heap.push {cls:=.type "dict",data:=.dict #[]} }) ho1 hcl hda hdi (I.ok.hd hc) λh' tk keep=>?_)
  simp only[Option.isNone_none,if_true]
  refine zaa (wpAny_rule (zaa (zbK (s:={s with heap:=h',toks:=tk}) (items:=its.toArray) ⟨o,keep _ _ ho1,hcl,n,hda⟩ ?_)))
  have IK2:Inv X pins σ (upd H s.heap.objs.size u0) {s with heap:=h',toks:=tk}:=IK.kept (t':=tk) keep
  have IK3:Inv X pins σ (upd H s.heap.objs.size u0) {s with heap:=h'.push {cls:=.type "list_iterator",data:=.fields #[.ref p,.int 0 0]},toks:=tk}:=IK2.kept (t':=tk) λb o e=>zag _ e
  have lp:p<h'.objs.size:=zah (keep _ _ ho1)
  have ld:s.heap.objs.size<h'.objs.size:=zah (keep _ _ n1)
  have W:=Walks.list (prog:=X.prog) (w:=X.w) (A:=X.A.in1.in1) (I.ok.hd hc) h'.objs.size p (zaw lp) its.toArray
  refine zab ⟨zbf qac _,qcf (X:=X) (pins:=pins) (σ:=σ) (H2:=H2) W (d:=s.heap.objs.size) ?_ (by show X.A.units+1+1+1<cLine;omega) ?_ l 0 _ _ _ _ ?_ (zaX _) ?_ IK3 ?_ ?_ pu⟩
  ·intro z
   rcases List.mem_cons.mp z with z|z
   ·exact zaw ld z
   ·exact zaF (hlt ho) (List.mem_singleton.mp z)
  ·exact λs' I'=>⟨rfl,.ref s.heap.objs.size,H2,I',rfl,q⟩
  ·rw[zau,<- hlen,hl];omega
  ·exact⟨⟨_,zat _ rfl,rfl,rfl⟩,⟨o,zag _ (keep _ _ ho1),hcl,n,hda⟩⟩
  ·exact IK2.fpOk (zam _) (IK2.hok.fresh (zam _))
  ·intro m pr v hm hv
   obtain⟨b,e1,e2⟩:=hpr m pr hm
   rw[Nat.zero_add]at hv
   refine⟨b,?_,sqK e2⟩
   obtain⟨w',hw,rw'⟩:=rv.get e1
   rw[List.getElem?_toArray,hw]at hv
   cases(show w'=zal b from rw')
   exact(zaA hv).symm
 ·obtain⟨hz,its,rv,o,ho,hcl,n,hda,hdi⟩:=(show ObjOk X.prog X.w H s.heap p (.tup ys)from sq.ok I.hok)
  have hlen:=rv.length
  have ho1:(s.heap.push {cls:=.type "dict",data:=.dict #[]}).get? p=some o:=zag _ ho
  refine zaa (wpAny_typeOf (s:={s with heap:=s.heap.push {cls:=.type "dict",data:=.dict #[]} }) ⟨o,ho1,hcl⟩ ?_)
  rw[if_pos (by decide)]
  refine zaa (qdi (s:={s with heap:=s.heap.push {cls:=.type "dict",data:=.dict #[]} }) ho1 hcl hda hdi (I.ok.hd hc) λh' tk keep=>?_)
  simp only[Option.isNone_none,if_true]
  refine zaa (wpAny_rule (zaa (zbo (s:={s with heap:=h',toks:=tk}) (items:=its.toArray) ⟨o,keep _ _ ho1,hcl,n,hda⟩ ?_)))
  have IK2:Inv X pins σ (upd H s.heap.objs.size u0) {s with heap:=h',toks:=tk}:=IK.kept (t':=tk) keep
  have IK3:Inv X pins σ (upd H s.heap.objs.size u0) {s with heap:=h'.push {cls:=.type "tuple_iterator",data:=.fields #[.ref p,.int 0 0]},toks:=tk}:=IK2.kept (t':=tk) λb o e=>zag _ e
  have lp:p<h'.objs.size:=zah (keep _ _ ho1)
  have ld:s.heap.objs.size<h'.objs.size:=zah (keep _ _ n1)
  have W:=Walks.tuple (prog:=X.prog) (w:=X.w) (A:=X.A.in1.in1) (I.ok.hd hc) h'.objs.size p (zaw lp) its.toArray
  refine zab ⟨zbf qac _,qcf (X:=X) (pins:=pins) (σ:=σ) (H2:=H2) W (d:=s.heap.objs.size) ?_ (by show X.A.units+1+1+1<cLine;omega) ?_ l 0 _ _ _ _ ?_ (zaX _) ?_ IK3 ?_ ?_ pu⟩
  ·intro z
   rcases List.mem_cons.mp z with z|z
   ·exact zaw ld z
   ·exact zaF (hlt ho) (List.mem_singleton.mp z)
  ·exact λs' I'=>⟨rfl,.ref s.heap.objs.size,H2,I',rfl,q⟩
  ·rw[zau,<- hlen,hl];omega
  ·exact⟨⟨_,zat _ rfl,rfl,rfl⟩,⟨o,zag _ (keep _ _ ho1),hcl,n,hda⟩⟩
  ·exact IK2.fpOk (zam _) (IK2.hok.fresh (zam _))
  ·intro m pr v hm hv
   obtain⟨b,e1,e2⟩:=hpr m pr hm
   rw[Nat.zero_add]at hv
   refine⟨b,?_,sqK e2⟩
   obtain⟨w',hw,rw'⟩:=rv.get e1
   rw[List.getElem?_toArray,hw]at hv
   cases(show w'=zal b from rw')
   exact(zaA hv).symm
end
section
variable {X:Cx}
theorem qoo{H H2:Hp}{q:Addr}{u:HO}(h:H2 q=some u)(k:∀b,b≠q->H2 b=H b):H2=upd H q u:=funext λb=>by
 by_cases e:b=q
 ·subst e;rw[ql];exact h
 ·rw[qi e];exact k b e
noncomputable def qe4{κ:Type}[DecidableEq κ](kvs more:List (κ×V)):List (κ×V):=more.foldl (λacc kv=>putK acc kv.1 kv.2) kvs
theorem qlZ{q:Addr}:∀(prs:List (List Key×V)) (as:List Addr) (H:Hp) (xs:List (List Key×V)),H q=some (.dT xs)->xs.length+prs.length<zaj->Paired (λ(p:List Key×V) (b:Addr)=>H b=some (.tup (p.1.map kV))) prs as->∃H2,Puts q H ((prs.zip as).map λp=>(V.ref p.2,p.1.2)) H2/\H2 q=some (.dT (qe4 xs prs))/\∀b,b≠q->H2 b=H b
 | _,_,H,xs,e,hl,.nil=>⟨H,.nil,e,λ_ _=>rfl⟩
 | p::prs,b::as,H,xs,e,hl,.cons hp t=>by
  have l1:=qad xs p.1 p.2
  rw[zaT]at hl
  obtain⟨H2,pu,e2,k⟩:=qlZ prs as (upd H q (.dT (putK xs p.1 p.2))) (putK xs p.1 p.2) ql (by omega) (Paired.mapP t λp c z=>by rw[qi (qlx z e (λz=>nomatch z))];exact z)
  exact⟨H2,.cons (DPut.t e hp (by omega)) pu,e2,λb hb=>(k b hb).trans (qi hb)⟩
end
end My
namespace P
open PySem PySem.Spec PyProof.Rows L2
section
variable {X:Cx}{A:Av}{H:Hp}
noncomputable def asPT:List D->Option (List (List Key×D))
 | []=>some []
 | .tup [k,v]::l=>(asT k).bind λkk=>(asPT l).map λr=>(kk,v)::r
 | _=>none
noncomputable def qgv{κ:Type}[DecidableEq κ](l more:List (κ×D)):List (κ×D):=more.foldl (λm p=>putD m p.1 p.2) l
theorem qnE{κ:Type}[DecidableEq κ]{more:List (κ×D)}{ys:List (κ×V)}(h:PP A H more ys):∀ {l:List (κ×D)} {xs:List (κ×V)},PP A H l xs->PP A H (qgv l more) (My.qe4 xs ys):=by
 induction h with
 | nil=>intro l xs q;exact q
 | @cons p q ps qs h t ih=>
  intro l xs z
  have:=ih (qj3 p.1 h.2 z)
  rw[show qgv l (p::ps)=qgv (putD l p.1 p.2) ps from rfl,show My.qe4 xs (q::qs)=My.qe4 (putK xs q.1 q.2) qs from rfl,<- h.1]
  exact this
theorem qgI:∀ {l:List D} {kvs:List (List Key×D)} {xs:List V},asPT l=some kvs->RepL A H l xs->∃(prs:List (List Key×V)) (as:List Addr),PP A H kvs prs/\prs.length=xs.length/\Paired (λ(p:List Key×V) (b:Addr)=>H b=some (.tup (p.1.map kV))) prs as/\∀(m:Nat) (pr:V×V),((prs.zip as).map λp=>(V.ref p.2,p.1.2))[m]?=some pr->∃b,xs[m]?=some (.ref b)/\H b=some (.tup [pr.1,pr.2])
 | _,kvs,_,e,.nil=>by cases e;exact⟨[],[],.nil,rfl,.nil,λm pr h=>by simp at h⟩
 | d::l,kvs,v::xs,e,.cons h t=>by
  unfold asPT at e
  split at e
  ·cases ‹_::_=[]›
  ·rename_i k w l' heq
   injection heq with h1 h2
   subst h1 h2
   obtain⟨kk,e1,e⟩:=bind_some e
   obtain⟨r,e2,rfl⟩:=map_some e
   obtain⟨prs,as,pp,hl,hq,hm⟩:=qgI e2 t
   obtain⟨a,zs,rfl,ha,rz⟩:=RepB.tup_inv (.of h)
   cases rz with
   | @cons _ z1 _ zs1 q1 rz=>
   cases rz with
   | @cons _ z2 _ zs2 q2 rz=>
   cases rz
   obtain⟨b,rfl,hb⟩:=qez e1 (.of q1)
   refine⟨(kk,z2)::prs,b::as,.cons ⟨rfl,q2⟩ pp,by simp[hl],.cons hb hq,λm pr h=>?_⟩
   cases m with
   | zero=>simp at h;subst h;exact⟨a,rfl,ha⟩
   | succ m=>exact hm m pr (by simpa using h)
  ·cases e
noncomputable def qou:D->Option (List D)
 | .lst l=>some l
 | .tup l=>some l
 | _=>none
noncomputable def qgW:List D->Option D
 | [.dT l]=>qkS [.dT l]
 | [d]=>(qou d).bind λl=>if szOk l.length then(asPT l).map λkvs=>.dT (qgv [] kvs)else none
 | _=>none
theorem qlu{d:D}{l:List D}{v:V}(h:qou d=some l)(r:RepB A H d v):∃p ys,v=.ref p/\My.Src X H p ys/\RepL A H l ys:=by
 cases d with
 | lst m=>cases h;obtain⟨a,xs,rfl,h1,h2⟩:=r.lst_inv;exact⟨a,xs,rfl,.inl (.inl h1),h2⟩
 | tup m=>cases h;obtain⟨a,xs,rfl,h1,h2⟩:=r.tup_inv;exact⟨a,xs,rfl,.inr (.inl h1),h2⟩
 | _=>cases h
theorem szL{n:Nat}(h:szOk n=true):0+n<zaj:=by rw[Nat.zero_add];exact qeI h
theorem qkQ(hc:X.calm=true)(hu:X.A.units+64<cLine):qiq X (.type "dict") qgW:=by
 intro pins s σ H xs us Q I r h
 obtain⟨A,ds,d,lv,rl,e,q⟩:=h
 unfold qgW at e
 split at e
 ·exact qm5 pins s σ H xs us Q I r ⟨A,_,d,lv,rl,e,q⟩
 ·obtain⟨l,e1,e⟩:=bind_some e
  split at e
  ·rename_i hz
   obtain⟨kvs,e2,rfl⟩:=map_some e
   obtain⟨v,rfl,h1⟩:=rl.one
   obtain⟨p,ys,rfl,src,rl2⟩:=qlu (X:=X) e1 h1
   obtain⟨prs,as,pp,hl,hq,hm⟩:=qgI e2 rl2
   have hlen:=rl2.length
   have hla:=zbt hq
   refine My.qh0 hc hu pins s σ H _ us Q I r ⟨p,ys,(prs.zip as).map λp=>(V.ref p.2,p.1.2),rfl,src,by rw[zan,List.length_zip,<- hla,Nat.min_self];exact hl,λm pr h=>?_,λa ha=>?_⟩
   ·obtain⟨b,x1,x2⟩:=hm m pr h
    exact⟨b,x1,.inl (.inl x2)⟩
   ·obtain⟨H2,pu,e3,k⟩:=My.qlZ prs as (upd H a (.dT [])) [] ql (by rw[hl,hlen];exact szL hz) (Paired.mapP hq λp c z=>by rw[qi (λw=>by rw[w,ha]at z;cases z)];exact z)
    have eH:H2=upd H a (.dT (My.qe4 [] prs)):=My.qoo e3 λb hb=>(k b hb).trans (qi hb)
    obtain⟨f1,f2⟩:=qkL (qnE pp (Paired.nil))
    refine⟨H2,.inr pu,?_⟩
    rw[eH]
    exact q a _ (Ext.new ha) ha (λz=>lv a z ha) (.dT ql f1 (f2.fresh ha))
  ·cases e
 ·cases e
end
end P
namespace My
open PySem PySem.Spec PyProof.Rows L2 PySem.SeqAt
section
variable {X:Cx}
end
end My
namespace P
open PySem PySem.Spec PyProof.Rows L2
section
variable {X:Cx}{O:List Nat}
end
section
variable {X:Cx}{O:List Nat}{e:Expr}{es:List Expr}
theorem pdc{f:Ev}{g:Lv}(ha:PD X O e f)(hr:PDA X O es g)(hs:isStar e=false:=by rfl):PDA X O (e::es) (qz f g):=qkC ha hr (qag hs)
theorem pbc{f:Ev}{g:Lv}(ha:PB X O e f)(hr:PBA X O es g)(hs:isStar e=false:=by rfl):PBA X O (e::es) (qz f g):=qg4 ha hr (qag hs)
theorem lc{f:Ev}{g:Lv}{n:Nat}(h:Len g n):Len (qz f g) (n+1):=qk3 h
theorem l0:Len lNil 0:=qmS
variable {x:Str}{id T:String}{g:List D->Option D}{f:Lv}{p pos:Pos}
theorem cB(hc:qcn X (.builtin id) g)(hm:X.mg x=none)(hv:zaE x=some (.builtin id))(ha:PBA X O (e::es) f)(hg:Gl X x:=by rfl)(hn:x ≠ "__name__" := by decide)(hdb:(x == ("__debug__" : Str))=false:=by decide)(hs:isStar e=false:=by rfl)(hp:(es.all λe=>!isStar e)=true:=by rfl) :
  PD X O (.Call (.Name x p) (e::es) [] pos) (qT g f):=qlo hc hg hm hv ha hn hdb (qag hs) (qbY hp)
theorem cTy(hc:qcn X (.type T) g)(hm:X.mg x=none)(hv:zaE x=some (.type T))(ha:PBA X O (e::es) f)(hg:Gl X x:=by rfl)(hn:x ≠ "__name__" := by decide)(hdb:(x == ("__debug__" : Str))=false:=by decide)(hs:isStar e=false:=by rfl)(hp:(es.all λe=>!isStar e)=true:=by rfl) :
  PD X O (.Call (.Name x p) (e::es) [] pos) (qT g f):=qjt hc hg hm hv ha hn hdb (qag hs) (qbY hp)
theorem fTy(hc:qiq X (.type T) g)(hm:X.mg x=none)(hv:zaE x=some (.type T))(ha:PBA X O (e::es) f)(hg:Gl X x:=by rfl)(hn:x ≠ "__name__" := by decide)(hdb:(x == ("__debug__" : Str))=false:=by decide)(hs:isStar e=false:=by rfl)(hp:(es.all λe=>!isStar e)=true:=by rfl) :
  PF X O (.Call (.Name x p) (e::es) [] pos) (qT g f):=qjr hc hg hm hv ha hn hdb (qag hs) (qbY hp)
theorem cD{k:Nat}{ps:List Str}{F:List D->Option D}(O':Fn X.prog X.w X.K X.mg X.base x k ps F)(hr:Room k X.A)(ha:PDA X O (e::es) f)(hl:Len f ps.length)(hg:Gl X x:=by rfl)(hdb:(x == ("__debug__" : Str))=false:=by decide)(hs:isStar e=false:=by rfl)(hp:(es.all λe=>!isStar e)=true:=by rfl) :
  PD X O (.Call (.Name x p) (e::es) [] pos) (qT F f):=qnA O' hr hg ha hl hdb (qag hs) (qbY hp)
theorem cn{L:Lp}{O1 O2 O3:List Nat}{st:Stmt}{sts:List Stmt}{f g:Sv}(h:PSD X L O1 st f O2)(k:PSDs X L O2 sts g O3):PSDs X L O1 (st::sts) (sSeq f g) O3:=qlk h k
end
noncomputable def ZOk(P:zai)(w:World)(K:zae)(mg:Str->Option Value)(base:Heap)(N:List Str)(x:Str)(st:Stmt)(k:Nat)(b:Sv):Prop:=
 ∀(fa:Addr) (cdv:Value) (A:Around) (outer:List Env) (s:Shared) (H:Hp) (E:XK),Room k (A.deeper (envOfC x (qt st) s.heap.objs.size fa cdv))->∃g,PSDs (cxOf CX0 P w K mg base N x (qt st) fa cdv A outer s H E).nox ⟨[],[]⟩ [] (qaa st) g []/\g=b
end P
namespace My
open PySem PySem.Spec PyProof.Rows L2 PySem.SeqAt
theorem args_max1(a:Value):argsOk "max" ⟨[a],[]⟩:=by unfold argsOk;kernel_rfl
section
variable {prog:zai}{w:World}{A:Around}{R:Result->Shared->Prop}{I S:Addr}{fp wr:List Addr}{n:Nat}{P:Nat->Value->Prop}{St:Nat->Heap->Prop}
theorem qhI(W:Walks prog w A.in1 I fp wr n P St)(val:Nat->Int)(hv:∀j v,P j v->∃t,v=.int (val j) t)(nS:S∉fp){s:Shared}{c:Nat}(st:St 0 s.heap)
  (gS:s.heap.get? S=some {cls:=.type "list",dict:=none,data:=.seq #[] c,slots:=#[]}) (lt:0<n)
  (fin:∀t' h' tk,(∀b o,b∉wr->b≠S->s.heap.get? b=some o->h'.get? b=some o)->R (.ok (.ret (.int (bst val (n-1) 1 (val 0)) t'))) {s with heap:=h',toks:=tk}) :
  codeAny (model prog w) A (.builtin "max.loop" ⟨[.ref I,.none,.ref S],[]⟩) R s:=by
 have nw:S∉wr:=λz=>nS (W.sub _ z)
 have nm:(toString "max" ++ toString ".loop" : String) = "max.loop" := by decide
 refine zbF PySem.F.entry_max_loop ?_
 rw[zbG zbI _]
 show wpAny _ A.in1 (seqItems? (.ref S) >>= λ_=>_) _ _ s
 refine zaa (zbn gS rfl ?_)
 show wpAny _ A.in1 (tryCatch (pyNext (.ref I)) _ >>= λ_=>_) _ _ s
 refine zaa (wpAny_tryCatch (W.item 0 s _ _ lt st λv h1 tk pv st1 same=>?_))
 have gS1:=same S _ nw gS
 obtain⟨u,rfl⟩:=hv 0 v pv
 show wpAny _ A.in1 (updateSeq S (λ_=>#[.int (val 0) u,.int (val 0) u]) >>= λ_=>_) _ _ _
 refine zaa (zbY gS1 rfl ?_)
 rw[nm]
 refine zab ⟨zbf zbI _,qbG W val hv nS (n-1) 1 _ (val 0) u _ rfl lt (W.frame _ _ _ st1 λb bf o eb=>?_) (zbv _ gS1 rfl) λt' h2 tk2 same2=>?_⟩
 ·exact(zbl _ _ (λz:S=b=>nS (z ▸ bf))).trans eb
 ·exact fin t' h2 tk2 λb o nb nbS eb=>same2 b o nb nbS ((zbl _ _ (zaJ nbS)).trans (same b o nb eb))
end
section
variable {X:Cx}
theorem qh9(hc:X.calm=true){pins:List (Addr×Obj)}{s:Shared}{σ:L2.St}{H:Hp}{p:Addr}{ns:List Int}{Q:VK}(I:Inv X pins σ H s)(hq:SqT X.K H p (ns.map V.int))(hn:ns≠[])(q:Q (.int (maxL 0 ns)) H) :
  wpAny (model X.prog X.w) X.A (call (.builtin "max") [.ref p]) (EP X pins σ Q) X.xe s:=by
 have nm:(toString "max" ++ toString ".loop" : String) = "max.loop" := by decide
 obtain⟨its,r',pl,hz⟩:=I.tuple hq
 have hl:s.heap.IsTuple p its.toArray:=pl
 obtain⟨o,ho,hc',n,hd⟩:=id hl
 have hne:p≠s.heap.objs.size:=zaw (zah ho)
 have W:=Walks.tuple (prog:=X.prog) (w:=X.w) (A:=X.A.in1) (I.ok.hd hc) s.heap.objs.size p hne its.toArray
 refine kmk_tree PySem.F.kind_max PySem.F.plain_max PySem.F.entry_max (args_max1 _) ?_
 show wpAny _ X.A.in1 (zch "max" ["key", "default"] 0 ⟨[],[]⟩ >>= λ_=>_) _ _ s
 refine zaa (wpAny_of_eq (show zch "max" ["key", "default"] 0 ⟨[],[]⟩=pure [none,none]from rfl) ?_)
 refine zaa (zab (zaa (zbo hl (zaa (wpAny_newList ?_ (zaX _))))))
 rw[nm]
 refine zab ⟨zbf zbI _,?_⟩
 have hlen:=r'.length
 rw[zan]at hlen
 have sz:its.toArray.size=ns.length:=by rw[zau];exact hlen.symm
 have keep:∀h':Heap,(∀b o,b∉[s.heap.objs.size]->b≠(s.heap.push {cls:=.type "tuple_iterator",data:=.fields #[.ref p,.int 0 0]}).objs.size->((s.heap.push {cls:=.type "tuple_iterator",data:=.fields #[.ref p,.int 0 0]}).push (seqObj "list" #[] 0)).get? b=some o->h'.get? b=some o)->∀b o,s.heap.get? b=some o->h'.get? b=some o:=λh' k b o e=>by
  have lt:=zah e
  refine k b o (λz=>zaw lt (List.mem_singleton.mp z)) ?_ (zag _ (zag _ e))
  rw[size_push']
  exact zaw (Nat.lt_succ_of_lt lt)
 have hpos:0<its.toArray.size:=by
  rw[sz]
  exact List.length_pos_iff.mpr hn
 refine qhI W (λi=>(ns[i]?).getD 0) (λi v hP=>qeO r' (by simpa using hP)) (S:=(s.heap.push {cls:=.type "tuple_iterator",data:=.fields #[.ref p,.int 0 0]}).objs.size) ?_ ?_ (zat _ rfl) hpos λt' h' tk same=>?_
 ·rw[size_push']
  intro z
  rcases List.mem_cons.mp z with z|z
  ·exact zaF (zbR _) z
  ·exact za1 _ (Nat.lt_trans (zbR _) ((List.mem_singleton.mp z) ▸ zah ho))
 ·exact⟨⟨_,zag _ (zat _ rfl),rfl,rfl⟩,hl.at λo e=>zag _ (zag _ e)⟩
 ·refine⟨.int (maxL 0 ns),H,I.kept (t':=tk) (keep h' same),⟨t',?_⟩,q⟩
  rw[sz]
  cases ns with
  | nil=>exact absurd rfl hn
  | cons x xs=>
   rw[qeL (x::xs) _ 1 _ (by simp)]
   rfl
theorem qpU{body:List Stmt}{h₀:ExceptHandler}{hs:List ExceptHandler}{pos:Pos}{t:L2.TS}(hx:∀v s,¬ X.xe v s)(hb:PSs X body t):PS X (.Try body (h₀::hs) [] [] pos) t:=λpins s σ H D I hw=>
 wpAny_Try_except (zaZ (hb pins s σ H D I hw) (λf s1 q=>by
  cases f with
  | next=>exact zab q
  | _=>exact q) λv s1 z=>absurd z (hx v s1))
end
end My
namespace P
open PySem PySem.Spec PyProof.Rows L2
section
variable {X:Cx}{O O':List Nat}{L:Lp}
theorem qml{body:List Stmt}{h₀:ExceptHandler}{hs:List ExceptHandler}{pos:Pos}{f:Sv}(hx:∀v s,¬ X.xe v s)(hb:PSDs X L O body f O'):PSD X L O (.Try body (h₀::hs) [] [] pos) f O':=My.qpU hx hb
noncomputable def qhw:List D->Option D
 | [.tup l]=>(qap l).bind λns=>if ns=[]then none else some (.int (My.maxL 0 ns))
 | _=>none
theorem qn0(hc:X.calm=true):qcn X (.builtin "max") qhw:=by
 intro pins s σ H xs us Q I r h
 obtain⟨A,ds,d,lv,rl,e,q⟩:=h
 unfold qhw at e
 split at e
 ·rename_i l
  obtain⟨ns,e1,e⟩:=bind_some e
  split at e
  ·cases e
  ·rename_i hn
   cases e
   obtain⟨v,rfl,h1⟩:=rl.one
   obtain⟨a,ys,rfl,h2,r3⟩:=h1.tup_inv
   rw[qao e1 r3]at h2
   obtain⟨u,rfl,ru⟩:=vals1 r
   cases ru
   exact My.qh9 hc I (.inl (.inl h2)) hn (q _ H (Ext.refl _ _) (.int _))
 ·cases e
@[simp] theorem q_max1{n:Int}{ns:List Int}:qhw [.tup (.int n::ns.map .int)]=some (.int (My.maxL 0 (n::ns))):=by
 have e:qap (.int n::ns.map .int)=some (n::ns):=qaR (n::ns)
 show(qap (.int n::ns.map .int)).bind _=_
 rw[e]
 rfl
end
end P
namespace My
open PySem PySem.Spec PyProof.Rows L2
noncomputable def qje(r r' r3:R2)(ta tb tc td:TE):TE:=λσ H Q=>ta σ H λx H1=>tb σ H1 λy H2=>r x y H2 λz H3=>∃k,z=.bl k /\
 (if k=true then tc σ H3 λw' H4=>r' y w' H4 λz2 H5=>∃k2,z2=.bl k2/\(if k2=true then td σ H5 λu H6=>r3 w' u H6 Q else Q (.bl false) H5)else Q (.bl false) H3)
theorem qjF{X:Cx}{a b c d:Expr}{ta tb tc td:TE}{pos:Pos}{op op' op3:CmpOp}{r r' r3:R2}(ho:OpR X (zap op) r)(ho':OpR X (zap op') r')(ho3:OpR X (zap op3) r3)(ha:PE X a ta)(hb:PE X b tb)(hc:PE X c tc)(hd:PE X d td)
  (hm:lastMarks [op,op',op3] [b,c,d]=false:=by with_unfolding_all rfl):PT X (.Compare a [op,op',op3] [b,c,d] pos) (qny (qje r r' r3 ta tb tc td)):=by
 intro pins s σ H Q I h
 refine isTrue_chain (thn (ha pins s σ H _ I h) λv s1 ⟨x,H1,I1,r1,q1⟩=>test_link (thn (hb pins s1 σ H1 _ I1 q1) λu s2 ⟨y,H2,I2,r2,q2⟩=>
  thn (ho pins s2 σ H2 x y v u _ I2 r1 r2 q2) λd s3 ⟨z,H3,I3,r3,k,e,q3⟩=>?_)) hm
 subst e
 cases r3
 refine zbg ?_
 cases k with
 | false=>
  obtain⟨k',e',q'⟩:=q3
  cases e'
  exact ite_ff ⟨H3,I3,q'⟩
 | true=>
  refine ite_tt (test_link (thn (hc pins s3 σ H3 _ I3 q3) λw' s4 ⟨y',H4,I4,r4,q4⟩=>thn (ho' pins s4 σ H4 y y' u w' _ I4 r2 r4 q4) λd2 s5 ⟨z2,H5,I5,r5,k2,e2,q5⟩=>?_))
  subst e2
  cases r5
  refine zbg ?_
  cases k2 with
  | false=>
   obtain⟨k',e',q'⟩:=q5
   cases e'
   exact ite_ff ⟨H5,I5,q'⟩
  | true=>
   refine ite_tt (test_last (thn (hd pins s5 σ H5 _ I5 q5) λw2 s6 ⟨z',H6,I6,r6,q6⟩=>thn (ho3 pins s6 σ H6 y' z' w' w2 _ I6 r4 r6 q6) λd' s7 ⟨z3,H7,I7,r7,k3,e3,q7⟩=>?_))
   subst e3
   cases r7
   exact zbg ⟨H7,I7,q7⟩
end My
namespace P
open PySem PySem.Spec PyProof.Rows L2
section
variable {X:Cx}{O:List Nat}
noncomputable def qef(g g' g3:D->D->Option D)(fa fb fc fd:Ev):Ev:=λρ=>(fa ρ).bind λx=>(fb ρ).bind λy=>(g x y).bind λz=>(asB z).bind λb=>if b=true then(fc ρ).bind λw=>(g' y w).bind λz2=>(asB z2).bind λb2=>if b2=true then(fd ρ).bind λu=>g3 w u else some (.bl false)else some (.bl false)
@[simp] theorem q_chain3{g g' g3:D->D->Option D}{fa fb fc fd:Ev}{ρ:Rho}:qef g g' g3 fa fb fc fd ρ=(fa ρ).bind λx=>(fb ρ).bind λy=>(g x y).bind λz=>(asB z).bind λb=>if b=true then(fc ρ).bind λw=>(g' y w).bind λz2=>(asB z2).bind λb2=>if b2=true then(fd ρ).bind λu=>g3 w u else some (.bl false)else some (.bl false):=rfl
theorem qhP{g g' g3:D->D->Option D}{fa fb fc fd:Ev}{σ:L2.St}{H:Hp}{Q:VK}(h:tD Rep O (qef g g' g3 fa fb fc fd) σ H Q):My.qje (rD g) (rD g') (rD g3) (tD RepB O fa) (tD RepB O fb) (tD RepB O fc) (tD RepB O fd) σ H Q:=by
 obtain⟨H0,A0,A,E,ρ,d,st,e,q⟩:=h
 obtain⟨x,ex,e⟩:=bind_some e
 obtain⟨y,ey,e⟩:=bind_some e
 obtain⟨z,ez,e⟩:=bind_some e
 obtain⟨b,eb,e⟩:=bind_some e
 rw[qa4 eb]at ez
 refine⟨H0,A0,A,E,ρ,x,st,ex,λv H1 x1 r1=>⟨H0,A0,A,E,ρ,y,st.mono x1,ey,λw H2 x2 r2=>⟨A,x,y,_,(st.mono (x1.trans x2)).live,r1.ext x2,r2,ez,λz H3 x3 r3=>⟨b,RepB.bl_inv (.of r3),?_⟩⟩⟩⟩
 have x13:=(x1.trans x2).trans x3
 cases b with
 | false=>rw[if_neg zaq]at e ⊢;cases e;exact q _ H3 x13 (.bl _)
 | true=>
  rw[if_pos rfl]at e ⊢
  obtain⟨u,eu,e⟩:=bind_some e
  obtain⟨z2,ez2,e⟩:=bind_some e
  obtain⟨b2,eb2,e⟩:=bind_some e
  rw[qa4 eb2]at ez2
  refine⟨H0,A0,A,E,ρ,u,st.mono x13,eu,λz' H4 x4 r4=>⟨A,y,u,_,(st.mono (x13.trans x4)).live,r2.ext (x3.trans x4),r4,ez2,λz2 H5 x5 r5=>⟨b2,RepB.bl_inv (.of r5),?_⟩⟩⟩
  have x15:=(x13.trans x4).trans x5
  cases b2 with
  | false=>rw[if_neg zaq]at e ⊢;cases e;exact q _ H5 x15 (.bl _)
  | true=>
   rw[if_pos rfl]at e ⊢
   obtain⟨t,et,e⟩:=bind_some e
   exact⟨H0,A0,A,E,ρ,t,st.mono x15,et,λz6 H6 x6 r6=>⟨A,u,t,d,(st.mono (x15.trans x6)).live,r4.ext (x5.trans x6),r6,e,λz7 H7 x7 r7=>q z7 H7 ((x15.trans x6).trans x7) r7⟩⟩
theorem qhM{a b c d:Expr}{op op' op3:CmpOp}{pos:Pos}{g g' g3:D->D->Option D}{fa fb fc fd:Ev}(ho:OpX X (zap op) g)(ho':OpX X (zap op') g')(ho3:OpX X (zap op3) g3)(ha:PB X O a fa)(hb:PB X O b fb)(hc:PB X O c fc)(hd:PB X O d fd)
  (hm:lastMarks [op,op',op3] [b,c,d]=false:=by with_unfolding_all rfl):PDT X O (.Compare a [op,op',op3] [b,c,d] pos) (bOf (qef g g' g3 fa fb fc fd)):=PT.mono (My.qjF ho ho' ho3 ha hb hc hd hm) λσ H Q h=>qhP (qbJ h)
end
end P
namespace My
open PySem PySem.Spec PyProof.Rows L2
noncomputable def CHug(i j:Int):Prop:=(-(10^250*10^250)<i/\i<10^250*10^250)/\-(10^250*10^250)<j/\j<10^250*10^250
theorem qhj{i:Int}(h1:-(10^250*10^250)<i)(h2:i<10^250*10^250):Builtin.Int.intBits i<=2^20:=by
 have h:i.natAbs<10^250*10^250:=by omega
 have e:(10:Nat)^250*10^250<=2^(4*250+4*250):=by
  rw[Nat.pow_add,Nat.pow_mul]
  have:(10:Nat)^250<=(2^4)^250:=Nat.pow_le_pow_left (by decide) 250
  exact Nat.mul_le_mul this this
 exact zaY (PyProof.Rows.intBits_le (za0 h e)) (by decide)
theorem qnD{X:Cx}:OpR X (zaN .Mult) (rI CHug λi j=>.int (i*j)):=opI λ_ _ _ _ _ _ _ hc q=>mul_int q (IntMulOk.of_bits (qhj hc.1.1 hc.1.2) (qhj hc.2.1 hc.2.2))
end My
namespace P
open PySem PySem.Spec PyProof.Rows L2
instance:∀i j,Decidable (My.CHug i j):=λi j=>by unfold My.CHug;infer_instance
noncomputable def qlN:D->D->Option D:=dI2 λi j=>if My.CHug i j then some (.int (i*j))else none
open Classical in
noncomputable def qak:D->D->Option D:=dI2 λi j=>if My.CHug i j then some (.int (i*j))else none
theorem qin:qak=qlN:=by
 unfold qak qlN
 congr 1
theorem qmO{X:Cx}:OpX X (zaN .Mult) qak:=by rw[qin];exact qgP My.qnD
theorem qax{i j:Int}(h:-(10^250*10^250)<i)(h1:i<10^250*10^250)(h2:-(10^250*10^250)<j)(h3:j<10^250*10^250):qak (.int i) (.int j)=some (.int (i*j)):=by
 rw[qin]
 exact if_pos ⟨⟨h,h1⟩,h2,h3⟩
end P
namespace My
open PySem PySem.Spec PyProof.Rows L2 PySem.SeqAt
section
variable {X:Cx}
end
end My
namespace P
open PySem PySem.Spec PyProof.Rows L2
section
variable {X:Cx}{O Oi:List Nat}
end
end P
namespace My
open PySem PySem.Spec PySem.Calls PySem.W PySem.Builtin PySem.Builtin.ObjectAttr PySem.Builtin.Getset_descriptor
section
variable {prog:zai}{w:World}{A:Around}{E:Value->Shared->Prop}{h:Heap}{g:Array GenState}{d:Drawn}{t:Nat}{os:OsState}{a C:Addr}{o:Obj}{K:Frag}
end
end My
namespace My
open PySem PySem.Spec PyProof.Rows L2 PySem.SeqAt
section
variable {l:List Env}{fs fr:List Addr}{h0 h1 h:Heap}{e C:Addr}{H H1:Hp}{P:zai}{w:World}
end
section
variable {X:Cx}{pins:List (Addr×Obj)}{σ:L2.St}{H:Hp}{s:Shared}{ea:Addr}{oe:Obj}
end
end My
namespace My
open PySem PySem.Spec PyProof.Rows L2 PySem.SeqAt PySem.W
section
variable {X:Cx}{pins:List (Addr×Obj)}{σ:L2.St}{H:Hp}{s:Shared}
theorem any_cons{K:zae}{t c:Value}{cs:List Value}(h:PySem.W.kitOne K t c=some false)(r:PySem.W.kitAny K t cs=some false):PySem.W.kitAny K t (c::cs)=some false:=by
 unfold PySem.W.kitAny;rw[h];exact r
end
end My
namespace P
open PySem PySem.Spec PyProof.Rows L2
section
variable {X:Cx}{L:Lp}{O O2 O':List Nat}
end
section
variable {X:Cx}{O:List Nat}
end
end P
namespace My
open PySem PySem.Spec PyProof.Rows L2 PySem.SeqAt
section
variable {X:Cx}
noncomputable def tCs(cs:List V):TA:=λ_ H Q=>Q cs H
noncomputable def PO(X:Cx)(C0:Addr)(es:List Expr):Prop:=∃cs:List V,PA X es (tCs cs)/\(cs.length=es.length)/\∀us,Vals cs us->PySem.W.kitAny X.K (.ref C0) us=some false
end
end My
namespace P
open PySem PySem.Spec PyProof.Rows L2
section
variable {X:Cx}{L:Lp}{O O':List Nat}
end
end P
namespace My
open PySem PySem.Spec PyProof.Rows L2 PySem.SeqAt
end My
namespace P
open PySem PySem.Spec PyProof.Rows L2
section
variable {X:Cx}{L:Lp}{O O':List Nat}
end
section
variable {X:Cx}{L:Lp}{O O' O2:List Nat}
end
section
variable {X:Cx}{L:Lp}{O O' O2:List Nat}{Z:List Nat}
end
end P
namespace My
open PySem PySem.Spec PyProof.Rows L2
section
variable {X:Cx}
end
end My
namespace P
open PySem PySem.Spec PyProof.Rows L2
section
variable {X:Cx}
end
end P
namespace My
open PySem PySem.Spec PyProof.Rows L2
end My
namespace P
open PySem PySem.Spec PyProof.Rows L2
section
variable {X:Cx}{O:List Nat}
end
end P
namespace My
open PySem PySem.Spec PyProof.Rows L2
section
variable {X:Cx}
end
end My
namespace P
open PySem PySem.Spec PyProof.Rows L2
section
variable {X:Cx}{O:List Nat}
end
variable {X:Cx}{O:List Nat}{e:Expr}
theorem vb(i:Nat)(h:PE X e (tVar i):=by exact pv _):PB X O e (eVar i):=qlF i h
mutual
noncomputable def frz:D->Bool
 | .tup l=>frzL l
 | .lst _=>false
 | .dK _=>false
 | .dT _=>false
 | _=>true
noncomputable def frzL:List D->Bool
 | []=>true
 | d::l=>frz d && frzL l
end
mutual
theorem Rep.frz{A A':Av}{H:Hp}{d:D}{v:V}:Rep A H d v->P.frz d=true->Rep A' H d v
 | .non,_=>.non
 | .bl b,_=>.bl b
 | .int i,_=>.int i
 | .str s,_=>.str s
 | .tup h r,f=>.tup h (RepL.frz r f)
 | .lst n h r,f=>nomatch f
 | .dK n h e r,f=>nomatch f
 | .dT n h e r,f=>nomatch f
theorem RepL.frz{A A':Av}{H:Hp}{ds:List D}{vs:List V}:RepL A H ds vs->frzL ds=true->RepL A' H ds vs
 | .nil,_=>.nil
 | .cons h t,f=>.cons (Rep.frz h (Bool.and_eq_true_iff.mp f).1) (RepL.frz t (Bool.and_eq_true_iff.mp f).2)
end
section
variable {X:Cx}{O:List Nat}
end
end P
namespace My
open PySem PySem.Spec PyProof.Rows L2
end My
namespace P
open PySem PySem.Spec PyProof.Rows L2
section
variable {X:Cx}{O:List Nat}
end
end P
namespace My
open PySem PySem.Spec PyProof.Rows L2
section
variable {prog:zai}{w:World}{A:Around}{E:Value->Shared->Prop}{s:Shared}
end
end My
namespace P
open PySem PySem.Spec PyProof.Rows L2
noncomputable def Fe(K:zae)(x:Str)(st:Stmt)(f:Addr):Prop:=∃fd,Fun K x x st f fd
theorem Fe.mk{K:zae}{x:Str}{st:Stmt}{f:Addr}{oc:Value}{od an:Option Addr}{osl:Array (Option Value)}{kV doc pm cdv ct:Value}(l:K.lookup f=some ⟨oc,od,.func (zbj x x (qay st) (qaa st) (qt st) .none kV doc pm an cdv ct),osl⟩)(c:PySem.W.codeIn K cdv x=true)(k:zbL K (.ref f)=true):Fe K x st f:=⟨_,qlS l c k⟩
theorem Fe.d{K:zae}{mg:Str->Option Value}{x:Str}{st:Stmt}{f:Addr}{ps:List Str}(h:Fe K x st f)(a:mg x=some (.ref f))(hb:∀(kV doc pm:Value) (an:Option Addr) (cdv ct:Value) (us:List Value),us.length=ps.length->bindArgs (zbj x x (qay st) (qaa st) (qt st) .none kV doc pm an cdv ct) ⟨us,[]⟩=pure (ps.zip us)):My.DefAt K mg x st ps:=let ⟨fd,F⟩:=h;⟨⟨f,fd,F,F.binds hb,a⟩⟩
section
variable {X:Cx}{L:Lp}{O O':List Nat}
theorem c0{O1 O3:List Nat}{st:Stmt}{sts:List Stmt}{f g:Sv}(h:PSD X L O1 st f [])(k:PSDs X L [] sts g O3):PSDs X L O1 (st::sts) (sSeq f g) O3:=cn h k
theorem ss(i:Nat){x:Str}{e:Expr}{pos pos':Pos}{f:Ev}(hN:X.N.Nodup)(he:PD X O e f)(hi:X.N[i]?=some x:=by rfl)(hx:Loc X.env.scope x:=by exact Or.inl rfl)(h:Sub O' (O.filter (· != i))=true:=by rfl)(hs:zaV e (some (.Name x pos')) pos.line X.env=pure false:=by rfl)(hf:X.fn x=true\/X.env.scope.names.lookup x=some .local:=by first|exact .inl rfl|exact .inr rfl):PSD X L O (.Assign [.Name x pos'] e pos) (sSet i f) O':=qiV hN hi hx he h hs hf
theorem gc{e:Expr}{es:List Expr}{g:Gv}{k:Gsv}(h1:PDG X O e g)(h2:PDGs X O es k)(a:(za2 (e::es) X.env).map (·.2)=assign e X.env::(za2 es X.env).map (·.2):=by rfl):PDGs X O (e::es) (qL g k):=qjz (λx y=>qkn x y a) h1 h2
theorem gu(n:Nat){es:List Expr}{j:Nat}{pos:Pos}{k:Gsv}(h:PDGs X O es k)(hc:X.calm=true:=by rfl)(a:(za2 es X.env).length=n:=by rfl)(b:List.findIdx? (λx=>x.fst) (za2 es X.env)=none:=by rfl):PDG X O (.Tuple es j pos) (qaQ n k):=qnq (qlD hc h a b)
theorem tc{a b:Expr}{op:CmpOp}{pos:Pos}{g:D->D->Option D}{fa fb:Ev}(ho:OpX X (zap op) g)(ha:PB X O a fa)(hb:PB X O b fb)(h1:op≠CmpOp.In:=by decide)(h2:op≠CmpOp.NotIn:=by decide):PDT X O (.Compare a [op] [b] pos) (bOf (eOp g fa fb)):=qf4 ho ha hb (qlK _ h1 h2)
end
end P
namespace My
open PySem PySem.Spec PyProof.Rows L2
noncomputable def minL(ns:List Int):Int:=(ns[argBest (λi j=>decide ((ns[i]?).getD 0<(ns[j]?).getD 0)) (ns.length-1)]?).getD 0
section
variable {X:Cx}
theorem qhG(hc:X.calm=true){pins:List (Addr×Obj)}{s:Shared}{σ:L2.St}{H:Hp}{p:Addr}{ns:List Int}{Q:VK}(I:Inv X pins σ H s)(hq:SqT X.K H p (ns.map V.int))(hn:ns≠[])(q:Q (.int (minL ns)) H) :
  wpAny (model X.prog X.w) X.A (call (.builtin "min") [.ref p]) (EP X pins σ Q) X.xe s:=by
 obtain⟨its,r',pl,hz⟩:=I.tuple hq
 have hl:s.heap.IsTuple p its.toArray:=pl
 obtain⟨o,ho,hc',n,hd⟩:=id hl
 have lt:=zah ho
 have W:=(Walks.tuple (prog:=X.prog) (w:=X.w) (A:=X.A.in1) (I.ok.hd hc) s.heap.objs.size p (zaw lt) its.toArray).toS
 have hlen:=r'.length
 rw[zan]at hlen
 have sz:its.toArray.size=ns.length:=by rw[zau];exact hlen.symm
 have hv:∀(i:Nat) (v:Value),its.toArray[i]?=some v->∃t,v=Value.int ((ns[i]?).getD 0) t:=λi v hP=>qeO r' (by simpa using hP)
 refine call_min_walkS (zbo hl ⟨s.heap.objs.size,_,_,_,_,_,_,_,rfl,W,⟨⟨_,zat _ rfl,rfl,rfl⟩,hl.at λo e=>zag _ e⟩,λb hb=>?_,by rw[sz];exact List.length_pos_iff.mpr hn,CmpOf.ints_lt (λi=>(ns[i]?).getD 0) hv,λv s' hP hm=>?_⟩)
 ·rw[size_push']
  rcases List.mem_cons.mp hb with z|z
  ·rw[z];exact zbR _
  ·rw[List.mem_singleton.mp z];exact Nat.lt_succ_of_lt lt
 ·obtain⟨t,rfl⟩:=hv _ v hP
  rw[Moved.eq_with hm]
  refine⟨.int (minL ns),H,I.kept (t':=s'.toks) λb o e=>hm.heap b o (λz=>zaw (zah e) (List.mem_singleton.mp z)) (zag _ e),⟨t,?_⟩,q⟩
  rw[sz]
  rfl
theorem qkI{ns:List Int}(hn:ns≠[]):minL ns∈ns:=by
 have le:∀(f:Nat->Nat->Bool) k,argBest f k<=k:=λf k=>by
  induction k with
  | zero=>exact zam _
  | succ k ih=>rw[argBest];split <;> omega
 have h:=List.length_pos_iff.mpr hn
 have a:=le (λi j=>decide ((ns[i]?).getD 0<(ns[j]?).getD 0)) (ns.length-1)
 unfold minL
 rw[zaO (by omega)]
 exact List.getElem_mem _
end
end My
namespace P
open PySem PySem.Spec PyProof.Rows L2
section
variable {X:Cx}
noncomputable def qkW:List D->Option D
 | [.tup l]=>(qap l).bind λns=>if ns=[]then none else some (.int (My.minL ns))
 | _=>none
theorem qmC(hc:X.calm=true):qcn X (.builtin "min") qkW:=by
 intro pins s σ H xs us Q I r h
 obtain⟨A,ds,d,lv,rl,e,q⟩:=h
 unfold qkW at e
 split at e
 ·rename_i l
  obtain⟨ns,e1,e⟩:=bind_some e
  split at e
  ·cases e
  ·rename_i hn
   cases e
   obtain⟨v,rfl,h1⟩:=rl.one
   obtain⟨a,ys,rfl,h2,r3⟩:=h1.tup_inv
   rw[qao e1 r3]at h2
   obtain⟨u,rfl,ru⟩:=vals1 r
   cases ru
   exact My.qhG hc I (.inl (.inl h2)) hn (q _ H (Ext.refl _ _) (.int _))
 ·cases e
theorem qp3{ns:List Int}(h:ns≠[]):qkW [tupI ns]=some (.int (My.minL ns)):=by
 show(qap (ns.map .int)).bind _=_
 rw[qaR,qb,if_neg h]
end
section
variable {X:Cx}{O:List Nat}
end
end P
namespace HT
open PySem PySem.Spec PyProof.Rows
section
open PySem.SeqAt
open PySem.AutoSeq1 (wpAny_loadPart')
open PySem.MeetsSeq PySem.MeetsSeq2 PySem.MeetsSeq3
end
section
variable {prog:zai}{w:World}{A:Around}{E:Value->Shared->Prop}{s:Shared}
end
end HT
namespace P
open PySem PySem.Spec PyProof.Rows L2
section
variable {X:Cx}
end
section
variable {X:Cx}
end
noncomputable def mon:List Int->List Int->Int
 | e::es,v::vs=>v^e.toNat*mon es vs
 | _,_=>1
noncomputable def ev(vs:List Int)(F:List My.Tm):Int:=(F.map λt=>t.2*mon t.1 vs).sum
theorem qdX(vs:List Int):ev vs []=0:=rfl
theorem qR(vs:List Int)(t:My.Tm)(F:List My.Tm):ev vs (t::F)=t.2*mon t.1 vs+ev vs F:=by unfold ev;rw[zak,List.sum_cons]
theorem qc2(vs:List Int)(t:My.Tm)(F:List My.Tm):ev vs (F++[t])=ev vs F+t.2*mon t.1 vs:=by
 induction F with
 | nil=>rw[List.nil_append,qR,qdX];omega
 | cons u F ih=>rw[List.cons_append,qR,qR,ih];omega
theorem qfA{cs:List My.Tm}{k:List Int}{c:Int}(h:k∉cs.map (·.1)):My.put cs k c=cs++[(k,c)]:=by
 unfold My.put
 rw[if_neg]
 intro z
 obtain⟨t,ht,e⟩:=List.any_eq_true.mp z
 exact h (List.mem_map.mpr ⟨t,ht,of_decide_eq_true e⟩)
theorem qmg{vs k:List Int}{c:Int}:∀ {F:List My.Tm},(F.map (·.1)).Nodup->k∈F.map (·.1)->ev vs (F.map λt=>if t.1=k then(t.1,c)else t)=ev vs F+(c-cf F k)*mon k vs
 | [],_,h=>nomatch h
 | t::F,nd,h=>by
  rw[zak]at nd
  have nd:=List.nodup_cons.mp nd
  rw[zak,qR,qR,qjq]
  by_cases e:t.1=k
  ·subst e
   have e2:(F.map λu=>if u.1=t.1 then(u.1,c)else u)=F:=by
    conv=>rhs;rw[<- List.map_id F]
    refine List.map_congr_left λu hu=>?_
    rw[if_neg (λz=>nd.1 (by rw[<- z];exact List.mem_map_of_mem (f:=(·.1)) hu))]
    rfl
   rw[if_pos rfl,e2,if_pos rfl,Int.sub_mul]
   dsimp only
   omega
  ·rw[if_neg e,if_neg e,qmg nd.2 (by
    rcases List.mem_cons.mp (show k∈t.1::F.map (·.1)from h)with z|z
    ·exact absurd z.symm e
    ·exact z)]
   omega
theorem qo2{vs k:List Int}{c:Int}{F:List My.Tm}(nd:(F.map (·.1)).Nodup):ev vs (My.put F k c)=ev vs F+(c-cf F k)*mon k vs:=by
 by_cases h:k∈F.map (·.1)
 ·have:My.put F k c=F.map λt=>if t.1=k then(t.1,c)else t:=by
   unfold My.put
   rw[if_pos]
   obtain⟨t,ht,e⟩:=List.mem_map.mp h
   exact List.any_eq_true.mpr ⟨t,ht,decide_eq_true e⟩
  rw[this,qmg nd h]
 ·rw[qfA h,qc2,qoK h]
  dsimp only
  rw[Int.sub_zero]
theorem qj1{vs k:List Int}{c x:Int}{F:List My.Tm}(nd:(F.map (·.1)).Nodup)(h:c=cf F k+x):ev vs (My.put F k c)=ev vs F+x*mon k vs:=by
 rw[qo2 nd,h]
 have:cf F k+x-cf F k=x:=by omega
 rw[this]
theorem qnL{vs:List Int}{l m:List My.Tm}(p:l.Perm m):ev vs l=ev vs m:=by
 induction p with
 | nil=>rfl
 | cons x _ ih=>rw[qR,qR,ih]
 | swap x y l=>rw[qR,qR,qR,qR];omega
 | trans _ _ a b=>rw[a,b]
theorem qcW{M c:Int}:M∣c%M-c:=by
 have:c%M-c=-(c-c%M):=by omega
 rw[this];exact Int.dvd_neg.mpr Int.dvd_self_sub_emod
theorem qgG{M:Int}{vs:List Int}:∀l:List My.Tm,M∣ev vs (My.qU M l)-ev vs l
 | []=>⟨0,by simp[My.qU,ev]⟩
 | t::l=>by
  have ih:=qgG (M:=M) (vs:=vs) l
  by_cases h:t.2%M=0
  ·have e:My.qU M (t::l)=My.qU M l:=by unfold My.qU;rw[List.filter_cons_of_neg (by simp[h])]
   rw[e,qR]
   have h2:=Int.dvd_mul_of_dvd_left (c:=mon t.1 vs) (Int.dvd_of_emod_eq_zero h)
   have:ev vs (My.qU M l)-(t.2*mon t.1 vs+ev vs l)=(ev vs (My.qU M l)-ev vs l)-t.2*mon t.1 vs:=by omega
   rw[this];exact Int.dvd_sub ih h2
  ·have e:My.qU M (t::l)=(t.1,t.2%M)::My.qU M l:=by unfold My.qU;rw[List.filter_cons_of_pos (by simp[h])];rfl
   rw[e,qR,qR]
   have h2:M∣(t.2%M-t.2)*mon t.1 vs:=Int.dvd_mul_of_dvd_left qcW
   rw[Int.sub_mul]at h2
   dsimp only
   have:t.2%M*mon t.1 vs+ev vs (My.qU M l)-(t.2*mon t.1 vs+ev vs l)=(t.2%M*mon t.1 vs-t.2*mon t.1 vs)+(ev vs (My.qU M l)-ev vs l):=by omega
   rw[this];exact zaQ h2 ih
noncomputable def Bx:List Int->List Int->Prop
 | [a],[x]=>0<=x/\x<=a
 | [a,b],[x,y]=>(0<=x/\x<=a)/\0<=y/\y<=b
 | _,_=>False
noncomputable def addE:List Int->List Int->List Int
 | [x],[y]=>[x+y]
 | [x,a],[y,b]=>[x+y,a+b]
 | _,_=>[]
theorem Bx.len:∀ {d k:List Int},Bx d k->(d.length=1/\k.length=1)\/(d.length=2/\k.length=2)
 | [_],[_],_=>.inl ⟨rfl,rfl⟩
 | [_,_],[_,_],_=>.inr ⟨rfl,rfl⟩
theorem Bx.shape:∀ {d k:List Int},Bx d k->(∃a x,d=[a]/\k=[x]/\0<=x/\x<=a)\/∃a b x y,d=[a,b]/\k=[x,y]/\(0<=x/\x<=a)/\0<=y/\y<=b
 | [a],[x],h=>.inl ⟨a,x,rfl,rfl,h⟩
 | [a,b],[x,y],h=>.inr ⟨a,b,x,y,rfl,rfl,h⟩
theorem Bx.mono{d e k:List Int}(h:Bx d k)(g:Bx e d):Bx e k:=by
 rcases h.shape with⟨a,x,rfl,rfl,h⟩|⟨a,b,x,y,rfl,rfl,h⟩
 ·rcases g.shape with⟨c,z,rfl,e,g⟩|⟨c,c2,z,z2,rfl,e,g⟩
  ·cases e;exact⟨h.1,Int.le_trans h.2 g.2⟩
  ·cases e
 ·rcases g.shape with⟨c,z,rfl,e,g⟩|⟨c,c2,z,z2,rfl,e,g⟩
  ·cases e
  ·cases e;exact⟨⟨h.1.1,Int.le_trans h.1.2 g.1.2⟩,h.2.1,Int.le_trans h.2.2 g.2.2⟩
theorem Bx.add{d e k j:List Int}(h:Bx d k)(g:Bx e j)(l:d.length=e.length):Bx (addE d e) (addE k j):=by
 rcases h.shape with⟨a,x,rfl,rfl,h⟩|⟨a,b,x,y,rfl,rfl,h⟩
 ·rcases g.shape with⟨c,z,rfl,rfl,g⟩|⟨c,c2,z,z2,rfl,rfl,g⟩
  ·exact⟨Int.add_nonneg h.1 g.1,Int.add_le_add h.2 g.2⟩
  ·cases l
 ·rcases g.shape with⟨c,z,rfl,rfl,g⟩|⟨c,c2,z,z2,rfl,rfl,g⟩
  ·cases l
  ·exact⟨⟨Int.add_nonneg h.1.1 g.1.1,Int.add_le_add h.1.2 g.1.2⟩,Int.add_nonneg h.2.1 g.2.1,Int.add_le_add h.2.2 g.2.2⟩
theorem qmn{d e k j vs:List Int}(h:Bx d k)(g:Bx e j)(l:d.length=e.length)(lv:vs.length=d.length):mon (addE k j) vs=mon k vs*mon j vs:=by
 rcases h.shape with⟨a,x,rfl,rfl,h⟩|⟨a,b,x,y,rfl,rfl,h⟩
 ·rcases g.shape with⟨c,z,rfl,rfl,g⟩|⟨c,c2,z,z2,rfl,rfl,g⟩
  ·obtain⟨v,rfl⟩:=List.length_eq_one_iff.mp lv
   show v^(x+z).toNat*1=v^x.toNat*1*(v^z.toNat*1)
   rw[Int.toNat_add h.1 g.1,Int.pow_add]
   simp
  ·cases l
 ·rcases g.shape with⟨c,z,rfl,rfl,g⟩|⟨c,c2,z,z2,rfl,rfl,g⟩
  ·cases l
  ·obtain⟨v,u,rfl⟩:=len2 lv
   show v^(x+z).toNat*(u^(y+z2).toNat*1)=v^x.toNat*(u^y.toNat*1)*(v^z.toNat*(u^z2.toNat*1))
   rw[Int.toNat_add h.1.1 g.1.1,Int.pow_add,Int.toNat_add h.2.1 g.2.1,Int.pow_add]
   simp only[Int.mul_one]
   generalize v^x.toNat=p
   generalize v^z.toNat=q
   generalize u^y.toNat=r
   generalize u^z2.toNat=s
   grind
structure Fk(d:List Int)(F:List My.Tm):Prop where
 nd:(F.map (·.1)).Nodup
 bx:∀t∈F,Bx d t.1
structure Fo(M:Int)(d:List Int)(F:List My.Tm):Prop where
 k:Fk d F
 cb:∀t∈F,0<=t.2/\t.2<M
theorem qeB:∀(N:Nat) (l:List Nat),l.Nodup->(∀x∈l,x<N)->l.length<=N
 | 0,[],_,_=>zam _
 | 0,x::l,_,h=>absurd (h x (zay ..)) (Nat.not_lt_zero _)
 | N+1,l,nd,h=>by
  by_cases m:N∈l
  ·have h1:=qeB N (l.erase N) (nd.erase N) λx hx=>by
    have:=(List.Nodup.mem_erase_iff nd).mp hx
    have:=h x this.2
    omega
   rw[List.length_erase_of_mem m]at h1
   omega
  ·have:=qeB N l nd λx hx=>by
    have h1:=h x hx
    have:x≠N:=λz=>m (z ▸ hx)
    omega
   omega
noncomputable def encE:List Int->Nat
 | [x]=>x.toNat
 | [x,y]=>x.toNat*7+y.toNat
 | _=>0
noncomputable def Low:List Int->Prop
 | [a]=>a<=6
 | [a,b]=>a<=6/\b<=6
 | _=>True
theorem Bx.enc_lt{d k:List Int}(l:Low d)(h:Bx d k):encE k<49:=by
 rcases h.shape with⟨a,x,rfl,rfl,h⟩|⟨a,b,x,y,rfl,rfl,h⟩
 ·have l:a<=6:=l;show x.toNat<49;omega
 ·have l:a<=6/\b<=6:=l;show x.toNat*7+y.toNat<49;omega
theorem Bx.enc_inj{d k j:List Int}(l:Low d)(h:Bx d k)(g:Bx d j)(e:encE k=encE j):k=j:=by
 rcases h.shape with⟨a,x,rfl,rfl,h⟩|⟨a,b,x,y,rfl,rfl,h⟩
 ·rcases g.shape with⟨c,z,e1,rfl,g⟩|⟨c,c2,z,z2,e1,rfl,g⟩
  ·have e:x.toNat=z.toNat:=e
   have:x=z:=by omega
   rw[this]
  ·cases e1
 ·rcases g.shape with⟨c,z,e1,rfl,g⟩|⟨c,c2,z,z2,e1,rfl,g⟩
  ·cases e1
  ·cases e1
   have l:a<=6/\b<=6:=l
   have e:x.toNat*7+y.toNat=z.toNat*7+z2.toNat:=e
   have h1:x=z:=by omega
   have h2:y=z2:=by omega
   rw[h1,h2]
theorem qmb{d:List Int}(l:Low d):∀ {ks:List (List Int)},ks.Nodup->(∀k∈ks,Bx d k)->(ks.map encE).Nodup
 | [],_,_=>List.nodup_nil
 | k::ks,nd,h=>by
  have nd:=List.nodup_cons.mp nd
  rw[zak]
  refine List.nodup_cons.mpr ⟨λz=>?_,qmb l nd.2 λj hj=>h j (zaz _ hj)⟩
  obtain⟨j,hj,e⟩:=List.mem_map.mp z
  have:=Bx.enc_inj l (h j (zaz _ hj)) (h k (zay ..)) e
  subst this;exact nd.1 hj
theorem Fk.len{d:List Int}{F:List My.Tm}(h:Fk d F)(l:Low d):F.length<=49:=by
 have e:=qmb l h.nd λk hk=>by obtain⟨t,ht,rfl⟩:=List.mem_map.mp hk;exact h.bx t ht
 have:=qeB 49 _ e λx hx=>by
  obtain⟨k,hk,rfl⟩:=List.mem_map.mp hx
  obtain⟨t,ht,rfl⟩:=List.mem_map.mp hk
  exact Bx.enc_lt l (h.bx t ht)
 rw[zan,zan]at this
 exact this
theorem Fk.nil(d:List Int):Fk d []:=⟨List.nodup_nil,λ_ h=>nomatch h⟩
theorem Fk.put{d:List Int}{F:List My.Tm}(h:Fk d F){k:List Int}{c:Int}(b:Bx d k):Fk d (My.put F k c):=⟨My.qcG h.nd,λt ht=>by
 rcases qfL ht with z|z
 ·rw[z];exact b
 ·exact h.bx t z⟩
theorem Fk.mono{d e:List Int}{F:List My.Tm}(h:Fk d F)(b:Bx e d):Fk e F:=⟨h.nd,λt ht=>(h.bx t ht).mono b⟩
theorem Fo.mono{M:Int}{d e:List Int}{F:List My.Tm}(h:Fo M d F)(b:Bx e d):Fo M e F:=⟨h.k.mono b,h.cb⟩
theorem Fo.nil(M:Int)(d:List Int):Fo M d []:=⟨Fk.nil d,λ_ h=>nomatch h⟩
theorem Fk.form{M:Int}(h0:0<M){d:List Int}{T:List My.Tm}(h:Fk d T):Fo M d (My.qU M (qQ T)):=by
 have p:=qY T
 have sub:∀t∈My.qU M (qQ T),∃u∈T,t.1=u.1/\t.2=u.2%M:=λt ht=>by
  unfold My.qU at ht
  obtain⟨u,hu,rfl⟩:=List.mem_map.mp ht
  exact⟨u,p.subset (List.mem_filter.mp hu).1,rfl,rfl⟩
 refine⟨⟨?_,λt ht=>?_⟩,λt ht=>?_⟩
 ·unfold My.qU
  rw[zaB]
  have e:((qQ T).map (·.1)).Nodup:=(p.map _).nodup_iff.mpr h.nd
  have s:((qQ T).filter λt=>decide (t.2%M≠0)).Sublist (qQ T):=List.filter_sublist
  exact(s.map (·.1)).nodup e
 ·obtain⟨u,hu,e,_⟩:=sub t ht
  rw[e];exact h.bx u hu
 ·obtain⟨u,hu,_,e⟩:=sub t ht
  rw[e];exact⟨zar _ (zaP h0),zas _ h0⟩
theorem qev{M:Int}{vs:List Int}(T:List My.Tm):M∣ev vs (My.qU M (qQ T))-ev vs T:=by
 have h:=qgG (M:=M) (vs:=vs) (qQ T)
 rw[qnL (qY T)]at h
 exact h
theorem qN{M a b c d:Int}(h:M∣a-b)(g:M∣c-d):M∣a*c-b*d:=by
 have h1:M∣(a-b)*c:=Int.dvd_mul_of_dvd_left h
 have h2:M∣b*(c-d):=Int.dvd_mul_of_dvd_right g
 have:a*c-b*d=(a-b)*c+b*(c-d):=by grind
 rw[this];exact zaQ h1 h2
theorem qw(M a:Int):M∣a-a:=⟨0,by omega⟩
theorem qgU:∀qs:List My.Tm,asPT (qs.map tmD)=some (qs.map kD)
 | []=>rfl
 | t::qs=>by
  show(asT (tupI t.1)).bind _=_
  rw[asT_tupI,qb,qgU qs]
  rfl
theorem qiR:∀(qs ps:List My.Tm),((ps++qs).map (·.1)).Nodup->qgv (ps.map kD) (qs.map kD)=(ps++qs).map kD
 | [],ps,_=>by rw[List.append_nil];rfl
 | q::qs,ps,h=>by
  show qgv (putD (ps.map kD) (q.1.map zao) (.int q.2)) (qs.map kD)=_
  rw[qlX,qfA,qiR qs (ps++[(q.1,q.2)])]
  ·simp
  ·simpa using h
  ·rw[zbm,List.nodup_append]at h
   intro z
   exact h.2.2 _ z _ (zay ..) rfl
theorem qiM{qs:List My.Tm}(h:(qs.map (·.1)).Nodup)(hl:qs.length<=1000):qgW [.tup (qs.map tmD)]=some (.dT (qs.map kD)):=by
 have h0:qgW [.tup (qs.map tmD)]=(if szOk (qs.map tmD).length=true then(asPT (qs.map tmD)).map λkvs=>D.dT (qgv [] kvs)else none):=rfl
 rw[h0,if_pos (show szOk (qs.map tmD).length=true from decide_eq_true (by rw[zan];omega)),qgU,qg]
 have:=qiR qs [] (by simpa using h)
 rw[zbu,List.nil_append]at this
 rw[this]
theorem qo7{cs:List My.Tm}{k:List Int}:((My.look cs k).map D.int).getD (.int 0)=.int (cf cs k):=by
 unfold cf;cases My.look cs k <;> rfl
theorem qg5{κ:Type}[DecidableEq κ]:∀(l:List (κ×D)) (k j:κ) (d:D),valD (putD l k d) j=if j=k then some d else valD l j:=λl k j d=>by
 have any_rep:∀l:List (κ×D),valD (l.map λp=>if p.1=k then(p.1,d)else p) j=if j=k then(valD l j).map λ_=>d else valD l j:=λl=>by
  induction l with
  | nil=>by_cases e:j=k <;> simp[valD,e]
  | cons p l ih=>
   unfold valD at ih ⊢
   rw[zak,za4,za4]
   by_cases h:p.1=k
   ·rw[if_pos h]
    by_cases e:j=k
    ·subst e;simp[h]
    ·have:¬ p.1=j:=λz=>e (z ▸ h)
     simp[this,e]at ih ⊢
     exact ih
   ·rw[if_neg h]
    by_cases e:j=k
    ·subst e;simp[h]at ih ⊢;exact ih
    ·by_cases e2:p.1=j
     ·simp[e,e2]
     ·simp[e,e2]at ih ⊢;exact ih
 unfold putD
 by_cases h:l.any (λp=>decide (p.1=k))=true
 ·rw[if_pos h,any_rep]
  by_cases e:j=k
  ·rw[if_pos e,if_pos e]
   subst e
   obtain⟨p,hp,e2⟩:=List.any_eq_true.mp h
   have:(valD l j).isSome=true:=by
    unfold valD
    rw[Option.isSome_map,List.find?_isSome]
    exact⟨p,hp,e2⟩
   cases hv:valD l j with
   | none=>rw[hv]at this;cases this
   | some v=>rfl
  ·rw[if_neg e,if_neg e]
 ·rw[if_neg h]
  unfold valD
  rw[List.find?_append]
  by_cases e:j=k
  ·subst e
   have:l.find? (λp=>decide (p.1=j))=none:=List.find?_eq_none.mpr λp hp z=>h (List.any_eq_true.mpr ⟨p,hp,z⟩)
   simp[this]
  ·have:¬ k=j:=λz=>e z.symm
   simp[e,this]
theorem qki{κ:Type}[DecidableEq κ](l:List (κ×D))(k:κ)(d:D):(putD l k d).length<=l.length+1:=by
 unfold putD
 by_cases h:l.any (λp=>decide (p.1=k))=true
 ·rw[if_pos h,zan];omega
 ·rw[if_neg h,za8];simp
noncomputable def fD(F:List My.Tm):D:=.tup (F.map tmD)
theorem qiB{i:Nat}{X:Ev}{ρ:Rho}{T:List My.Tm}{k:List Int}{x:Int}(h3:ρ[3]?=some (some (.dT (T.map kD))))(hi:ρ[i]?=some (some (tupI k)))(hx:X ρ=some (.int x))(hl:T.length<=1000):sPut 3 (eVar i) (eOp qav (qfQ (eVar 3) (eVar i) (eC (.int 0))) X) ρ=some (.nx (ρ.set 3 (some (.dT ((My.put T k (cf T k+x)).map kD))))):=by
 have hp:=qjU (cs:=T) k (cf T k+x) (by omega)
 have v3:eVar 3 ρ=some (.dT (T.map kD)):=by rw[q_var,h3];rfl
 have vi:eVar i ρ=some (tupI k):=by rw[q_var,hi];rfl
 have a:(qfQ (eVar 3) (eVar i) (eC (.int 0))) ρ=some (.int (cf T k)):=by
  rw[q_get2,v3,vi,qb,qb,q_c,qb,look_kD,qg,qo7]
 have b:(eOp qav (qfQ (eVar 3) (eVar i) (eC (.int 0))) X) ρ=some (.int (cf T k+x)):=by
  rw[q_op,a,qb,hx,qb];rfl
 rw[q_put,b,qb,v3,qb,vi,qb,hp,qg]
theorem qen(l:List (List Key×D))(k:List Int):qal (.dT l) (tupI k)=some (valD l (k.map zao)):=by
 show(asT (tupI k)).map _=_
 rw[asT_tupI,qg]
theorem qnk{l:List (List Key×D)}(k:List Int)(d:D)(h:l.length<=1000000):dPut (.dT l) (tupI k) d=some (.dT (putD l (k.map zao) d)):=by
 show(asT (tupI k)).bind _=_
 rw[asT_tupI,qb,if_pos (by rw[szOk];exact decide_eq_true h)]
noncomputable def pw(S:Nat->Int)(a:Int):Nat->Int
 | 0=>0
 | n+1=>pw S a n+a^n*S n
theorem ql2{S:Nat->Int}{a x:Int}{m:Nat}:∀n:Nat,pw (λe=>(if m=e then x else 0)+S e) a n=(if m<n then a^m*x else 0)+pw S a n
 | 0=>by simp[pw]
 | n+1=>by
  rw[pw,pw,ql2 n,Int.mul_add]
  by_cases h:m=n
  ·subst h
   rw[if_neg (za1 _),if_pos rfl,if_pos (zbR _)]
   omega
  ·rw[if_neg h,Int.mul_zero]
   by_cases h2:m<n
   ·rw[if_pos h2,if_pos (by omega)];omega
   ·rw[if_neg h2,if_neg (by omega)];omega
noncomputable def la(k:List Int):Int:=(k.getLast?).getD 0
noncomputable def grp(a:List Int)(w:Int)(l:List My.Tm):Int:=(l.map λt=>if t.1.dropLast=a then t.2*w^(la t.1).toNat else 0).sum
theorem qhc(a:List Int)(w:Int)(l:List My.Tm)(t:My.Tm):grp a w (l++[t])=grp a w l+if t.1.dropLast=a then t.2*w^(la t.1).toNat else 0:=by
 unfold grp
 rw[zbm,zak,zbu]
 induction l.map (λt=>if t.1.dropLast=a then t.2*w^(la t.1).toNat else 0)with
 | nil=>simp
 | cons x l ih=>rw[List.cons_append,List.sum_cons,List.sum_cons,ih];omega
theorem qha(a:List Int)(w:Int)(l:List My.Tm)(t:My.Tm):grp a w (t::l)=(if t.1.dropLast=a then t.2*w^(la t.1).toNat else 0)+grp a w l:=by
 unfold grp;rw[zak,List.sum_cons]
theorem qjA{d w:Int}:∀ {l:List My.Tm},(∀t∈l,Bx [d] t.1)->grp [] w l=ev [w] l
 | [],_=>rfl
 | t::l,h=>by
  have b:=h t (zay ..)
  rw[qha,qR,qjA λu hu=>h u (zaz _ hu)]
  obtain⟨k,c⟩:=t
  match k,b with
  | [x],_=>
   show(if([]:List Int)=[]then c*w^x.toNat else 0)+_=c*(w^x.toNat*1)+_
   rw[if_pos rfl,Int.mul_one]
theorem qja{d e a w:Int}{m:Nat}:∀ {l:List My.Tm},(∀t∈l,Bx [d,e] t.1/\∃x y,t.1=[x,y]/\x<=(m:Int))->pw (λj=>grp [(j:Int)] w l) a (m+1)=ev [a,w] l
 | [],_=>by
  have:∀n,pw (λj=>grp [(j:Int)] w []) a n=0:=λn=>by
   induction n with
   | zero=>rfl
   | succ n ih=>rw[pw,ih];simp[grp]
  rw[this];rfl
 | t::l,h=>by
  obtain⟨b,x,y,e1,hx⟩:=h t (zay ..)
  have ih:=qja (a:=a) (w:=w) λu hu=>h u (zaz _ hu)
  obtain⟨k,c⟩:=t
  dsimp only at e1
  subst e1
  have b:(0<=x/\x<=d)/\0<=y/\y<=e:=b
  have ef:(λj:Nat=>grp [(j:Int)] w (([x,y],c)::l))=λj:Nat=>(if x.toNat=j then c*w^y.toNat else 0)+grp [(j:Int)] w l:=by
   funext j
   rw[qha]
   congr 1
   show(if [x]=[(j:Int)]then c*w^y.toNat else 0)=_
   by_cases z:x.toNat=j
   ·rw[if_pos (by rw[<- z,Int.toNat_of_nonneg b.1.1]),if_pos z]
   ·rw[if_neg (λq=>z (by have:=List.cons.inj q;omega)),if_neg z]
  rw[ef,ql2,ih,if_pos (by omega),qR]
  show a^x.toNat*(c*w^y.toNat)+_=c*(a^x.toNat*(w^y.toNat*1))+_
  rw[Int.mul_one]
  congr 1
  generalize a^x.toNat=p
  generalize w^y.toNat=q
  grind
theorem qmU{vs:List Int}(ts:List My.Tm):ev vs (My.qZ ts)=ev vs ts:=by
 have gen:∀(ts cs:List My.Tm),(cs.map (·.1)).Nodup->ev vs (ts.foldl My.add1 cs)=ev vs cs+ev vs ts:=λts=>by
  induction ts with
  | nil=>intro cs h;rw[List.foldl_nil,qdX,Int.add_zero]
  | cons t ts ih=>
   intro cs h
   rw[zbV,ih (My.add1 cs t) (My.qcG h),qR]
   have:ev vs (My.add1 cs t)=ev vs cs+t.2*mon t.1 vs:=qj1 h rfl
   rw[this];omega
 have:=gen ts [] List.nodup_nil
 rw[qdX,Int.zero_add]at this
 exact this
noncomputable def fm(M:Int)(ts:List My.Tm):List My.Tm:=My.qU M (qQ (My.qZ ts))
theorem qmG{M:Int}(h0:0<M){d:List Int}{ts:List My.Tm}(h:∀t∈ts,Bx d t.1):Fo M d (fm M ts)/\∀vs,M∣ev vs (fm M ts)-ev vs ts:=by
 obtain⟨_,nd,sub⟩:=My.qca ts
 have k:Fk d (My.qZ ts):=⟨nd,λt ht=>by obtain⟨u,hu,e⟩:=sub t ht;rw[<- e];exact h u hu⟩
 refine⟨k.form h0,λvs=>?_⟩
 rw[<- qmU ts];exact qev _
theorem qcP{M a b:Int}(h:M∣a-b):∀n:Nat,M∣a^n-b^n
 | 0=>by rw[Int.pow_zero,Int.pow_zero];exact qw M 1
 | n+1=>by rw[zbJ,zbJ];exact qN (qcP h n) h
theorem qhp{M:Int}:∀ {vs us k:List Int},vs.length=us.length->(∀p∈vs.zip us,M∣p.1-p.2)->M∣mon k vs-mon k us
 | [],[],k,_,_=>by cases k <;> exact qw M _
 | v::vs,u::us,[],_,_=>qw M _
 | v::vs,u::us,e::k,l,h=>qN (qcP (h (v,u) (zay ..)) _) (qhp (by simpa using l) λp hp=>h p (zaz _ hp))
theorem qf0{M:Int}{vs us:List Int}(l:vs.length=us.length)(h:∀p∈vs.zip us,M∣p.1-p.2):∀F:List My.Tm,M∣ev vs F-ev us F
 | []=>qw M _
 | t::F=>by
  have ih:=qf0 l h F
  have m:=qN (qw M t.2) (qhp (k:=t.1) l h)
  rw[qR,qR]
  have:t.2*mon t.1 vs+ev vs F-(t.2*mon t.1 us+ev us F)=(t.2*mon t.1 vs-t.2*mon t.1 us)+(ev vs F-ev us F):=by omega
  rw[this];exact zaQ m ih
theorem qa5{M a b:Int}(h:M∣a-b):a%M=b%M:=by
 obtain⟨c,hc⟩:=h
 have:a=b+M*c:=by omega
 rw[this,Int.add_mul_emod_self_left]
theorem dvdM{M a b:Int}(h:a%M=b%M):M∣a-b:=by
 have h1:M∣a%M-a:=qcW
 have h2:M∣b%M-b:=qcW
 rw[h]at h1
 have:a-b=(b%M-b)-(b%M-a):=by omega
 rw[this];exact Int.dvd_sub h2 h1
section
variable {X:Cx}{L:Lp}{O O':List Nat}
theorem cO(O2:List Nat){O1 O3:List Nat}{st:Stmt}{sts:List Stmt}{f g:Sv}(h:PSD X L O1 st f O2)(k:PSDs X L O2 sts g O3):PSDs X L O1 (st::sts) (sSeq f g) O3:=cn h k
theorem wt{es:List Expr}{x1}{pos:Pos}{g:Lv}(h:PDA X O es g)(hl:Len g es.length)(hn:Nat.ble es.length 100=true:=by rfl):PD X O (.Tuple es x1 pos) (eTup g):=qlU h (λρ ds k=>by rw[hl ρ ds k];exact Nat.le_of_ble_eq_true hn)
theorem wl{es:List Expr}{pos:Pos}{g:Lv}(h:PDA X O es g)(hl:Len g es.length)(hn:Nat.ble es.length 100=true:=by rfl):PF X O (.List es pos) (eLst g):=qlV h (λρ ds k=>by rw[hl ρ ds k];exact Nat.le_of_ble_eq_true hn)
theorem wE{x:Str}{e:Expr}{es:List Expr}{f:Lv}{p pos:Pos}{k j:Nat}{ps:List Str}{F:List D->Option D}(O':Fn X.prog X.w X.K X.mg X.base x k ps F)(hr:Room j X.A)(ha:PDA X O (e::es) f)(hl:Len f ps.length)(hk:k<=j)(hg:Gl X x:=by rfl)(hdb:(x == ("__debug__" : Str))=false:=by decide)(hs:isStar e=false:=by rfl)(hp:(es.all λe=>!isStar e)=true:=by rfl):PD X O (.Call (.Name x p) (e::es) [] pos) (qT F f):=cD O' (hr.mono hk) ha hl hg hdb hs hp
theorem rLen{e:Expr}{es:List Expr}{f:Lv}{p pos:Pos}(hm:X.mg "len" = none)(ha:PBA X O (e::es) f)(hg:Gl X "len")(hs:isStar e=false)(hp:((es:List Expr).all λe=>!isStar e)=true):PD X O (.Call (.Name "len" p) (e::es) [] pos) (qT dLen f):=cB qpd hm My.boot_len ha hg (by decide) (by decide) hs hp
theorem rTup{e:Expr}{es:List Expr}{f:Lv}{p pos:Pos}(hm:X.mg "tuple" = none)(ha:PBA X O (e::es) f)(hg:Gl X "tuple")(hs:isStar e=false)(hp:((es:List Expr).all λe=>!isStar e)=true):PD X O (.Call (.Name "tuple" p) (e::es) [] pos) (qT qch f):=cTy qeF hm My.boot_tuple ha hg (by decide) (by decide) hs hp
theorem rInt{e:Expr}{es:List Expr}{f:Lv}{p pos:Pos}(hm:X.mg "int" = none)(ha:PBA X O (e::es) f)(hg:Gl X "int")(hs:isStar e=false)(hp:((es:List Expr).all λe=>!isStar e)=true):PD X O (.Call (.Name "int" p) (e::es) [] pos) (qT dInt f):=cTy qo6 hm My.boot_int ha hg (by decide) (by decide) hs hp
theorem rLst{e:Expr}{es:List Expr}{f:Lv}{p pos:Pos}(hm:X.mg "list" = none)(ha:PBA X O (e::es) f)(hg:Gl X "list")(hs:isStar e=false)(hp:((es:List Expr).all λe=>!isStar e)=true):PF X O (.Call (.Name "list" p) (e::es) [] pos) (qT qfS f):=fTy qmE hm My.boot_list ha hg (by decide) (by decide) hs hp
theorem rAll{e:Expr}{es:List Expr}{f:Lv}{p pos:Pos}(hc:X.calm=true)(hm:X.mg "all" = none)(ha:PBA X O (e::es) f)(hg:Gl X "all")(hs:isStar e=false)(hp:((es:List Expr).all λe=>!isStar e)=true):PD X O (.Call (.Name "all" p) (e::es) [] pos) (qT dAll f):=cB (ql7 hc) hm My.boot_all ha hg (by decide) (by decide) hs hp
theorem qqF{e2:Expr}{e:Expr}{es:List Expr}{f:Lv}{p pos:Pos}(hc:X.calm=true)(hm:X.mg "min" = none)(ha:PBA X O [e,e2] f)(hg:Gl X "min")(hs:isStar e=false)(hp:(([e2]:List Expr).all λe=>!isStar e)=true):PD X O (.Call (.Name "min" p) [e,e2] [] pos) (qT qjZ f):=cB (qoc hc) hm My.boot_min ha hg (by decide) (by decide) hs hp
theorem qqx{e2:Expr}{e:Expr}{es:List Expr}{f:Lv}{p pos:Pos}(hc:X.calm=true)(hm:X.mg "max" = none)(ha:PBA X O [e,e2] f)(hg:Gl X "max")(hs:isStar e=false)(hp:(([e2]:List Expr).all λe=>!isStar e)=true):PD X O (.Call (.Name "max" p) [e,e2] [] pos) (qT qiI f):=cB (qmM hc) hm My.boot_max ha hg (by decide) (by decide) hs hp
theorem qqi{e:Expr}{es:List Expr}{f:Lv}{p pos:Pos}(hc:X.calm=true)(hm:X.mg "min" = none)(ha:PBA X O [e] f)(hg:Gl X "min")(hs:isStar e=false)(hp:(([]:List Expr).all λe=>!isStar e)=true):PD X O (.Call (.Name "min" p) [e] [] pos) (qT qkW f):=cB (qmC hc) hm My.boot_min ha hg (by decide) (by decide) hs hp
theorem qqS{e:Expr}{es:List Expr}{f:Lv}{p pos:Pos}(hc:X.calm=true)(hm:X.mg "max" = none)(ha:PBA X O [e] f)(hg:Gl X "max")(hs:isStar e=false)(hp:(([]:List Expr).all λe=>!isStar e)=true):PD X O (.Call (.Name "max" p) [e] [] pos) (qT qhw f):=cB (qn0 hc) hm My.boot_max ha hg (by decide) (by decide) hs hp
theorem qqQ{e:Expr}{f:Ev}{p p2 pos:Pos}(he:PB X O e f)(hm:X.mg "isinstance" = none)(hm2:X.mg "int" = none)(hg:Gl X "isinstance")(hg2:Gl X "int")(h1:zaf [e,.Name "int" p2] X.env=(false,eval e X.env)::zaf [.Name "int" p2] X.env)(h2:(backTo pos (zaf [.Name "int" p2] X.env)).any (·.1)=false)(h3:zaf [.Name "int" p2] X.env=(false,eval (.Name "int" p2) X.env)::zaf [] X.env):PD X O (.Call (.Name "isinstance" p) [e,.Name "int" p2] [] pos) (eIsi "int" f):=qiG qm4 hg hm hg2 hm2 My.boot_int he (by decide) (by decide) h1 h2 h3
theorem qpR{e:Expr}{f:Ev}{p p2 pos:Pos}(he:PB X O e f)(hm:X.mg "isinstance" = none)(hm2:X.mg "bool" = none)(hg:Gl X "isinstance")(hg2:Gl X "bool")(h1:zaf [e,.Name "bool" p2] X.env=(false,eval e X.env)::zaf [.Name "bool" p2] X.env)(h2:(backTo pos (zaf [.Name "bool" p2] X.env)).any (·.1)=false)(h3:zaf [.Name "bool" p2] X.env=(false,eval (.Name "bool" p2) X.env)::zaf [] X.env):PD X O (.Call (.Name "isinstance" p) [e,.Name "bool" p2] [] pos) (eIsi "bool" f):=qiG qkf hg hm hg2 hm2 My.boot_bool he (by decide) (by decide) h1 h2 h3
theorem qmw{e:Expr}{f:Ev}{p p2 pos:Pos}(he:PB X O e f)(hm:X.mg "isinstance" = none)(hm2:X.mg "tuple" = none)(hg:Gl X "isinstance")(hg2:Gl X "tuple")(h1:zaf [e,.Name "tuple" p2] X.env=(false,eval e X.env)::zaf [.Name "tuple" p2] X.env)(h2:(backTo pos (zaf [.Name "tuple" p2] X.env)).any (·.1)=false)(h3:zaf [.Name "tuple" p2] X.env=(false,eval (.Name "tuple" p2) X.env)::zaf [] X.env):PD X O (.Call (.Name "isinstance" p) [e,.Name "tuple" p2] [] pos) (eIsi "tuple" f):=qiG kit_tuple hg hm hg2 hm2 My.boot_tuple he (by decide) (by decide) h1 h2 h3
theorem rSl{e:Expr}{lo hi:Option Expr}{p2 pos:Pos}{f:Ev}{a b:Ov}(he:PB X O e f)(hl:PDO X O lo a)(hu:PDO X O hi b):PD X O (.Subscript e (.Slice lo hi none p2) pos) (eSl dSlA f a b):=qkP sl_A he hl hu
theorem rIt{a b:Expr}{pos:Pos}{fa fb:Ev}(hu:X.A.units+1<cLine)(ha:PB X O a fa)(hb:PB X O b fb)(hs:qf6 b:=by exact λ_ _=>rfl):PD X O (.Subscript a b pos) (eOp qu fa fb):=qn5 hu ha hb hs
theorem rInA{a b:Expr}{pos:Pos}{fa fb:Ev}{j:Nat}(hr:Room j X.A)(ha:PB X O a fa)(hb:PB X O b fb)(hm:zbC .In b=false):PDT X O (.Compare a [.In] [b] pos) (bOf (eOp dInA fa fb)):=qf4 (qoj hr.units) ha hb hm
theorem rNiA{a b:Expr}{pos:Pos}{fa fb:Ev}{j:Nat}(hr:Room j X.A)(ha:PB X O a fa)(hb:PB X O b fb)(hm:zbC .NotIn b=false):PDT X O (.Compare a [.NotIn] [b] pos) (bOf (eOp qdg fa fb)):=qf4 (qis hr.units) ha hb hm
theorem rCm{a b:Expr}{op:CmpOp}{pos:Pos}{g:D->D->Option D}{fa fb:Ev}(ho:OpX X (zap op) g)(ha:PB X O a fa)(hb:PB X O b fb)(h1:op≠CmpOp.In)(h2:op≠CmpOp.NotIn):PD X O (.Compare a [op] [b] pos) (eOp g fa fb):=qo9 ho ha hb (qlK _ h1 h2)
theorem rJn{o e:Expr}{apos cpos:Pos}{fo fe:Ev}(ho:PB X O o fo)(he:PB X O e fe)(a1:attributeBase o "join" X.env (eval o X.env)=eval o X.env)(a2:((((backTo cpos (zaf [e] X.env)).all λx=>!x.fst) && (backToKw cpos (keywordEach [] X.env)).all λx=>x.fst.isSome) && decide (([e].length+([]:List Keyword).length+if([]:List Keyword).isEmpty=true then 0 else 1)<30))=true)(a3:(apos.endLine == cpos.line)=true)(a4:zaf [e] X.env=(false,eval e X.env)::zaf [] X.env)(a5:((backTo cpos (zaf [] X.env)).any λx=>x.fst)=false):PD X O (.Call (.Attribute o "join" apos) [e] [] cpos) (eOp qhC fo fe):=qn7 ho he (λa b=>qot PySem.F.plainAttrs_str PySem.F.slot_str_join PySem.F.type_str_join My.qnp a b a1 a2 a3 a4 a5) a4
theorem rSo{o:Expr}{f:Ev}{p pos apos cpos:Pos}{j:Nat}(hr:Room j X.A)(hm:X.mg "sorted" = none)(ho:PB X O o f)(hc:X.calm=true)(hg:Gl X "sorted")(h1:attributeBase o "items" X.env (eval o X.env)=eval o X.env)(h2:(apos.endLine == cpos.line)=true)(he:zaf [.Call (.Attribute o "items" apos) [] [] cpos] X.env=(false,eval (.Call (.Attribute o "items" apos) [] [] cpos) X.env)::zaf [] X.env)(hpl:(backTo pos (zaf [] X.env)).any (·.1)=false):PF X O (.Call (.Name "sorted" p) [.Call (.Attribute o "items" apos) [] [] cpos] [] pos) (qh4 qeE f):=qhO hc hr.units hg hm ho (λh=>qoi PySem.F.slot_dict_items PySem.F.type_dict_items My.qkU h h1 h2) he hpl
theorem xEq{j:Nat}(hr:Room j X.A):OpX X (zap .Eq) dEq:=qql hr.units
theorem xNe{j:Nat}(hr:Room j X.A):OpX X (zap .NotEq) dNe:=qqB hr.units
theorem xLt{j:Nat}(hr:Room j X.A):OpX X (zap .Lt) dLt:=qqb hr.units0
noncomputable def At(l:List Str)(x:Str)(i:Nat):Prop:=l[i]?=some x
theorem at_(i:Nat){l:List Str}{x:Str}(h:l[i]?=some x:=by eq_refl):At l x i:=h
theorem vB{i:Nat}{x:Str}{p:Pos}(h:At X.N x i)(hv:Vis X.env.scope x)(hd:(x == ("__debug__" : Str))=false)(hc:(x == ("__classdict__" : Str))=false):PB X O (.Name x p) (eVar i):=qlF i (pv i h hv hd hc)
theorem vD{i:Nat}{x:Str}{p:Pos}(h:At X.N x i)(n:O.contains i=false)(hv:Vis X.env.scope x)(hd:(x == ("__debug__" : Str))=false)(hc:(x == ("__classdict__" : Str))=false):PD X O (.Name x p) (eVar i):=qoA i (pv i h hv hd hc) (by simpa using n)
theorem gV{i:Nat}{x:Str}{pos:Pos}(h:At X.N x i)(n:O.contains i=false)(hN:X.N.Nodup)(hx:Loc X.env.scope x)(hf:X.fn x=true\/X.env.scope.names.lookup x=some .local):PDG X O (.Name x pos) (qx i):=qek (qgm hN h hx hf) n
theorem qp(i:Nat){x:Str}{e:Expr}{pos pos':Pos}{f:Ev}(he:PD X O e f:=by trivial)(hN:X.N.Nodup:=by assumption)(hi:X.N[i]?=some x:=by rfl)(hx:Loc X.env.scope x:=by first|exact Or.inl rfl|exact Or.inr rfl)(h:Sub O' (O.filter (· != i))=true:=by rfl)(hs:zaV e (some (.Name x pos')) pos.line X.env=pure false:=by rfl)(hf:X.fn x=true\/X.env.scope.names.lookup x=some .local:=by first|exact .inl rfl|exact .inr rfl):PSD X L O (.Assign [.Name x pos'] e pos) (sSet i f) O':=qiV hN hi hx he h hs hf
theorem qaj(i:Nat){x:Str}{e:Expr}{pos pos':Pos}{f:Ev}(he:PF X O e f:=by trivial)(hN:X.N.Nodup:=by assumption)(hi:X.N[i]?=some x:=by rfl)(hx:Loc X.env.scope x:=by first|exact Or.inl rfl|exact Or.inr rfl)(h:Sub O' (i::O)=true:=by rfl)(hn:O.contains i=false:=by rfl)(hs:zaV e (some (.Name x pos')) pos.line X.env=pure false:=by rfl)(hf:X.fn x=true\/X.env.scope.names.lookup x=some .local:=by first|exact .inl rfl|exact .inr rfl):PSD X L O (.Assign [.Name x pos'] e pos) (sSet i f) O':=qk2 hN hi hx he h hn hs hf
theorem qco(i:Nat){o e:Expr}{apos cpos pos:Pos}{f:Ev}(he:PD X O e f:=by trivial)(ho:PE X o (tVar i):=by exact pv _)(hO:mem O i=true:=by rfl)(a1:attributeBase o "append" X.env (eval o X.env)=eval o X.env:=by rfl)(a2:((((backTo cpos (zaf [e] X.env)).all λx=>!x.fst) && (backToKw cpos (keywordEach [] X.env)).all λx=>x.fst.isSome) && decide (([e].length+([]:List Keyword).length+if([]:List Keyword).isEmpty=true then 0 else 1)<30))=true:=by rfl)(a3:(apos.endLine == cpos.line)=true:=by rfl)(a4:zaf [e] X.env=(false,eval e X.env)::zaf [] X.env:=by rfl)(a5:((backTo cpos (zaf [] X.env)).any λx=>x.fst)=false:=by rfl)(hs:zaV (.Call (.Attribute o "append" apos) [e] [] cpos) none pos.line X.env=pure false:=by rfl)(h:Sub O' O=true:=by rfl):PSD X L O (.Expr (.Call (.Attribute o "append" apos) [e] [] cpos) pos) (sApp i f) O':=qhJ ho he hO (qot PySem.F.plainAttrs_list PySem.F.slot_list_append PySem.F.type_list_append qft ho (qbh (PD.pe he) qdy (hs:=a4)) a1 a2 a3 a4 a5) hs h
theorem qI{e:Expr}{pos:Pos}{f:Ev}(he:PD X O e f:=by trivial):PSDs X L O [.Return (some e) pos] (sRt f) O':=qj (qmj he)
theorem w_if{c:Expr}{a b:List Stmt}{pos:Pos}{g:Bv}{f k:Sv}(ha:PSDs X L O a f O')(hb:PSDs X L O b k O')(hc:PDT X O c g:=by trivial):PSD X L O (.If c a b pos) (sIf g f k) O':=qiJ hc ha hb
theorem qai{c:Expr}{a:List Stmt}{pos:Pos}{g:Bv}{f:Sv}(ha:PSDs X L O a f O')(hc:PDT X O c g:=by trivial)(h:Sub O' O=true:=by rfl):PSD X L O (.If c a [] pos) (sIf g f sNx) O':=qiJ hc ha (qi5 h)
theorem w_nv{st:Stmt}:PSDs X L O [st] sBad O':=qj qjR
theorem qaO{c:Expr}{st:Stmt}{pos:Pos}{g:Bv}(hc:PDT X O c g:=by trivial)(h:Sub O' O=true:=by rfl):PSD X L O (.If c [st] [] pos) (sIf g sBad sNx) O':=qiJ hc w_nv (qi5 h)
theorem qX(O1 Ob:List Nat){tg iter:Expr}{body:List Stmt}{pos:Pos}{f:Lv}{g:Gv}{b:Sv}(hb:PSDs X ⟨Ob,O1⟩ O1 body b O1)(hi:PDI X O tg iter f:=by trivial)(hg:PDG X O1 tg g:=by trivial)(hp:PassesOwn (model X.prog X.w) X.A X.env X.xe:=by exact PassesOwn.never)(hc:X.calm=true:=by rfl)(h1:Sub O1 O=true:=by rfl)(h2:Sub O' O1=true:=by rfl)(h3:Sub O' Ob=true:=by rfl)(hs:∀x,zbq iter X.env x=pure x:=by intro _;rfl):PSD X L O (.For tg iter body [] pos) (sFor f g b) O':=qnR hp hc hi hg hb h1 h2 h3 hs
theorem qpC(O1 Ob:List Nat){c:Expr}{body:List Stmt}{pos:Pos}{g:Bv}{b:Sv}(hb:PSDs X ⟨Ob,O1⟩ O1 body b O1)(hc:PDT X O1 c g:=by trivial)(hp:PassesOwn (model X.prog X.w) X.A X.env X.xe:=by exact PassesOwn.never)(h1:Sub O1 O=true:=by rfl)(h2:Sub O' O1=true:=by rfl)(h3:Sub O' Ob=true:=by rfl):PSD X L O (.While c body [] pos) (qfC g b) O':=qka hp hc hb h1 h2 h3
theorem qfH(i:Nat){o k value:Expr}{pos pos':Pos}{fk fe:Ev}(hv:PD X O value fe:=by trivial)(hk:PB X O k fk:=by trivial)(hu:X.A.units+1<cLine:=by assumption)(ho:PE X o (tVar i):=by exact pv _)(hO:mem O i=true:=by rfl)(h:Sub O' O=true:=by rfl)(hs:zaV value (some (.Subscript o k pos')) pos.line X.env=pure false:=by rfl)(hs2:swapsWithSole [.Subscript o k pos'] value pos.line X.env=pure false:=by rfl)(hw:swappedStores [.Subscript o k pos'] value X.env=pure none:=by rfl)
  (hg:∀ {to ti:TE} {t:TSet},PE X o to->PE X k ti->PSet X t->PG X (.Subscript o k pos') (gSub to ti t):=by intro _ _ _ a b c;exact qlJ a b c):PSD X L O (.Assign [.Subscript o k pos'] value pos) (sPut i fk fe) O':=qnv hu ho hk hv hO h hs hs2 hw hg
theorem qeT{e:Expr}{pos:Pos}{f:Ev}(he:PB X O e f:=by trivial)(hs:zaV e none pos.line X.env=pure false:=by rfl)(h:Sub O' O=true:=by rfl):PSD X L O (.Expr e pos) (qmu f) O':=qlw he hs h
theorem qfu(σ:Shared)(N:List Str)(ms:List (Option Nat)){elt tg iter:Expr}{ifs:List Expr}{scope:Scope}{pos:Pos}{it:Lv}{g:Gv}{c:Bv}{f:Ev}(hi:PDI X O tg iter it:=by trivial)(hg:∀C s H fp,N.Nodup->PDG (My.qH X N scope (clOf X.env.cells scope.names []) C s H fp) [] tg g:=by intros;trivial)(ht:∀C s H fp,My.PTs (My.qH X N scope (clOf X.env.cells scope.names []) C s H fp) ifs (tDT [] c):=by intros;trivial)(he:∀C s H fp,PD (My.qH X N scope (clOf X.env.cells scope.names []) C s H fp) [] elt f:=by intros;trivial)
  (hx:X.env.cells=cellsFrom (σ.heap.objs.size+1) X.env.scope.names []:=by rfl) (hst:qat X scope N ms:=by repeat' first|exact za3|exact rfl|exact Or.inl rfl|constructor) (hN:N.Nodup:=by decide)
  (hc:X.calm=true:=by rfl) (hk:scope.kind=.function:=by rfl) (h:qk9 scope.names X.env.scope.names=true:=by rfl) (hn:(ms.all λo=>match o with|some i=>!O.contains i|none=>true)=true:=by rfl) (hs:∀x,zbq iter X.env x=pure x:=by intro _;rfl):PF X O (.ListComp elt [⟨tg,iter,ifs,0⟩] scope pos) (qer ms it g c f):=qng hc (qj5 hk h hx) hst hn hi (λC s H fp=>hg C s H fp hN) ht he hs
theorem ql3(i:Nat)(σ:Shared)(N:List Str)(ms:List (Option Nat)){x:Str}{pos' spos:Pos}{elt tg iter:Expr}{ifs:List Expr}{scope:Scope}{pos:Pos}{it:Lv}{g:Gv}{c:Bv}{f:Ev}(hi:PDI X O tg iter it:=by trivial)(hg:∀C s H fp,N.Nodup->PDG (My.qH X N scope (clOf X.env.cells scope.names []) C s H fp) [] tg g:=by intros;trivial)(ht:∀C s H fp,My.PTs (My.qH X N scope (clOf X.env.cells scope.names []) C s H fp) ifs (tDT [] c):=by intros;trivial)(he:∀C s H fp,PD (My.qH X N scope (clOf X.env.cells scope.names []) C s H fp) [] elt f:=by intros;trivial)
  (hx:X.env.cells=cellsFrom (σ.heap.objs.size+1) X.env.scope.names []:=by rfl) (hst:qat X scope N ms:=by repeat' first|exact za3|exact rfl|exact Or.inl rfl|constructor) (hN:N.Nodup:=by decide)
  (hc:X.calm=true:=by rfl) (hk:scope.kind=.function:=by rfl) (h:qk9 scope.names X.env.scope.names=true:=by rfl) (hn:(ms.all λo=>match o with|some i=>!O.contains i|none=>true)=true:=by rfl) (hs:∀x,zbq iter X.env x=pure x:=by intro _;rfl)
  (hX:X.N.Nodup:=by assumption) (hix:X.N[i]?=some x:=by rfl) (hl:Loc X.env.scope x:=by first|exact Or.inl rfl|exact Or.inr rfl) (hsub:Sub O' (O.filter (· != i))=true:=by rfl) (hsw:zaV (.ListComp elt [⟨tg,iter,ifs,0⟩] scope pos) (some (.Name x pos')) spos.line X.env=pure true:=by rfl) (hf:X.fn x=true\/X.env.scope.names.lookup x=some .local:=by first|exact .inl rfl|exact .inr rfl) :
  PSD X L O (.Assign [.Name x pos'] (.ListComp elt [⟨tg,iter,ifs,0⟩] scope pos) spos) (sSet i (qer ms it g c f)) O':=qkG hX hix hl hc (qj5 hk h hx) hst hn hi (λC s H fp=>hg C s H fp hN) ht he hsub hs hsw hf
theorem qmI(i:Nat)(σ:Shared)(N:List Str)(ms:List (Option Nat)){x:Str}{pos' spos:Pos}{elt tg iter:Expr}{ifs:List Expr}{scope:Scope}{pos:Pos}{it:Lv}{g:Gv}{c:Bv}{f:Ev}(hi:PDI X O tg iter it:=by trivial)(hg:∀C s H fp,N.Nodup->PDG (My.qH X N scope (clOf X.env.cells scope.names []) C s H fp) [] tg g:=by intros;trivial)(ht:∀C s H fp,My.PTs (My.qH X N scope (clOf X.env.cells scope.names []) C s H fp) ifs (tDT [] c):=by intros;trivial)(he:∀C s H fp,PD (My.qH X N scope (clOf X.env.cells scope.names []) C s H fp) [] elt f:=by intros;trivial)
  (hx:X.env.cells=cellsFrom (σ.heap.objs.size+1) X.env.scope.names []:=by rfl) (hst:qat X scope N ms:=by repeat' first|exact za3|exact rfl|exact Or.inl rfl|constructor) (hN:N.Nodup:=by decide)
  (hc:X.calm=true:=by rfl) (hk:scope.kind=.function:=by rfl) (h:qk9 scope.names X.env.scope.names=true:=by rfl) (hn:(ms.all λo=>match o with|some i=>!O.contains i|none=>true)=true:=by rfl) (hs:∀x,zbq iter X.env x=pure x:=by intro _;rfl)
  (hX:X.N.Nodup:=by assumption) (hix:X.N[i]?=some x:=by rfl) (hl:Loc X.env.scope x:=by first|exact Or.inl rfl|exact Or.inr rfl) (hsub:Sub O' (i::O)=true:=by rfl) (hni:O.contains i=false:=by rfl) (hsw:zaV (.ListComp elt [⟨tg,iter,ifs,0⟩] scope pos) (some (.Name x pos')) spos.line X.env=pure true:=by rfl) (hf:X.fn x=true\/X.env.scope.names.lookup x=some .local:=by first|exact .inl rfl|exact .inr rfl) :
  PSD X L O (.Assign [.Name x pos'] (.ListComp elt [⟨tg,iter,ifs,0⟩] scope pos) spos) (sSet i (qer ms it g c f)) O':=qj4 hX hix hl hc (qj5 hk h hx) hst hn hi (λC s H fp=>hg C s H fp hN) ht he hsub hni hs hsw hf
end
theorem fx{Q:zai}{w:World}{K:zae}{mg:Str->Option Value}{base:Heap}{x:Str}{k:Nat}{ps:List Str}{F:List D->Option D}(B:List D->Option D)(h:Fn Q w K mg base x k ps F)(e:F=B:=by rfl):Fn Q w K mg base x k ps B:=e ▸ h
noncomputable def Bd(st:Stmt)(x:Str)(ps:List Str):Prop:=∀(kV doc pm:Value) (an:Option Addr) (cdv ct:Value) (us:List Value),us.length=ps.length->bindArgs (zbj x x (qay st) (qaa st) (qt st) .none kV doc pm an cdv ct) ⟨us,[]⟩=pure (ps.zip us)
noncomputable def De(K:zae)(x:Str)(st:Stmt):Prop:=∃f,PySem.W.nsIn K zaR x=some (some (.ref f))/\Fe K x st f
noncomputable def Des(K:zae)(tp:Nat->Stmt)(t:List (Str×Nat×List Str)):Prop:=∀p∈t,De K p.1 (tp p.2.1)
theorem Des.nil{K:zae}{tp:Nat->Stmt}:Des K tp []:=λ_ h=>nomatch h
theorem Des.cons{K:zae}{tp:Nat->Stmt}{x:Str}{i:Nat}{ps:List Str}{t:List (Str×Nat×List Str)}{f:Addr}{oc:Value}{od an:Option Addr}{osl:Array (Option Value)}{kV doc pm cdv ct:Value}(a:PySem.W.nsIn K zaR x=some (some (.ref f)))(l:K.lookup f=some ⟨oc,od,.func (zbj x x (qay (tp i)) (qaa (tp i)) (qt (tp i)) .none kV doc pm an cdv ct),osl⟩)(c:PySem.W.codeIn K cdv x=true)(k:zbL K (.ref f)=true)(r:Des K tp t):Des K tp ((x,i,ps)::t):=
 List.forall_mem_cons.2 ⟨⟨f,a,Fe.mk l c k⟩,r⟩
theorem lenS{us:List Value}{n:Nat}(h:us.length=n+1):∃a t,us=a::t/\t.length=n:=by
 cases us with
 | nil=>exact nomatch h
 | cons a t=>exact⟨a,t,rfl,Nat.succ.inj h⟩
theorem lenZ{us:List Value}(h:us.length=0):us=[]:=List.length_eq_zero_iff.mp h
noncomputable def Bds(tp:Nat->Stmt)(t:List (Str×Nat×List Str)):Prop:=∀p∈t,Bd (tp p.2.1) p.1 p.2.2
theorem Bds.nil{tp:Nat->Stmt}:Bds tp []:=λ_ h=>nomatch h
theorem Bds.cons{tp:Nat->Stmt}{x:Str}{i:Nat}{ps:List Str}{t:List (Str×Nat×List Str)}(a:Bd (tp i) x ps)(r:Bds tp t):Bds tp ((x,i,ps)::t):=List.forall_mem_cons.2 ⟨a,r⟩
theorem Des.d{K:zae}{h:Heap}{mg:Str->Option Value}{tp:Nat->Stmt}{t:List (Str×Nat×List Str)}(X:K.In h)(G:h.Ns zaR mg)(D:Des K tp t)(B:Bds tp t):∀p∈t,My.DefAt K mg p.1 (tp p.2.1) p.2.2:=λp hp=>let ⟨_,a,e⟩:=D p hp;e.d (PySem.W.mg_of X G a) (B p hp)
noncomputable def Nos(K:zae)(t:List Str):Prop:=∀x∈t,PySem.W.nsIn K zaR x=some none
theorem Nos.nil{K:zae}:Nos K []:=λ_ h=>nomatch h
theorem Nos.cons{K:zae}{x:Str}{t:List Str}(a:PySem.W.nsIn K zaR x=some none)(r:Nos K t):Nos K (x::t):=List.forall_mem_cons.2 ⟨a,r⟩
noncomputable def Gis(K:zae)(t:List (Str×Int)):Prop:=∀p∈t,∃k,PySem.W.nsIn K zaR p.1=some (some (.int p.2 k))
theorem Gis.nil{K:zae}:Gis K []:=λ_ h=>nomatch h
theorem Gis.cons{K:zae}{x:Str}{n:Int}{k:Tok}{t:List (Str×Int)}(a:PySem.W.nsIn K zaR x=some (some (.int n k)))(r:Gis K t):Gis K ((x,n)::t):=List.forall_mem_cons.2 ⟨⟨k,a⟩,r⟩
theorem Gis.d{K:zae}{h:Heap}{mg:Str->Option Value}{t:List (Str×Int)}(X:K.In h)(G:h.Ns zaR mg)(D:Gis K t):∀p∈t,GInt mg p.1 p.2:=λp hp=>let ⟨_,a⟩:=D p hp;⟨⟨_,PySem.W.mg_of X G a⟩⟩
end P
namespace Law
open PySem PySem.Spec PyProof.Rows L2 P
local macro_rules | `(tactic|simp_all[$xs,*]) => `(tactic|simp[-zac, -zad, qb, qg, $xs,*])
noncomputable def top(i:Nat):Stmt:=PySem.Challenge.pw_chiefway_k23_forms_seen_from_kinds.main.body.getD i (.Pass ⟨0,0,0,0⟩)
noncomputable abbrev s_law:Stmt:=top 64
noncomputable abbrev tb(x:Str)(i:Nat)(ps:List Str):=(x,i,ps)
noncomputable def tab:List (Str×Nat×List Str):=[tb "_law_at" 49 ["script", "k"],tb "_law_unit" 51 ["M", "cell"],tb "_law_seats" 52 ["M", "script", "many"],tb "_law_road" 53 ["M", "seats", "j", "k", "cell"],tb "_law_roads" 54 ["M", "seats", "script"],tb "_law_spoiled" 57 ["M", "cell", "roads", "makes"],tb "_law_names" 50 ["cell", "many"],tb "_law_terms" 55 ["M", "seats", "takes", "gives", "some"],tb "_law_makes" 56 ["M", "seats", "script"],tb "_law_book" 58 ["script"],tb "is_whole" 8 ["thing"],tb "wheel" 9 ["thing"],tb "is_name" 39 ["text"],tb "check_kinds" 41 ["kinds"],tb "is_price" 43 ["price"],tb "on" 10 ["M", "n"],tb "roads_of" 42 ["M", "many", "roads"],tb "check_deeds" 47 ["makes"],tb "check_make" 45 ["many", "name", "takes", "gives", "price"],tb "form_of" 16 ["M", "sums"],tb "check_exponents" 15 ["n", "exponents"],tb "form" 14 ["M", "n", "terms"],tb "make_form" 46 ["M", "n", "terms"],tb "makes_of" 44 ["M", "many", "makes"],tb "book" 40 ["M", "kinds", "roads", "makes"],tb "_law_reach" 59 ["many", "roads"],tb "constant" 20 ["M", "n", "c"],tb "added" 19 ["exponents", "others"],tb "times" 18 ["M", "one", "other"],tb "powers_of" 24 ["M", "n", "one", "most"],tb "plus" 17 ["M", "one", "other"],tb "by_powers" 25 ["M", "inner", "most", "factors"],tb "greatest" 23 ["one", "place"],tb "turned_form" 21 ["M", "n", "turn", "one"],tb "put" 22 ["M", "n", "outer", "inners"],tb "turned" 11 ["M", "turn", "x"],tb "then" 12 ["M", "one", "other"],tb "turn_of" 28 ["book", "way"],tb "first_way" 27 ["book", "j", "k"],tb "unknown" 31 ["M", "n", "place"],tb "seen_form" 30 ["book", "v", "kinds"],tb "_law_first" 60 ["roads", "reach", "j", "k"],tb "_law_is_form" 63 ["M", "n", "found"],tb "_law_made" 62 ["M", "terms", "values"],tb "_law_along" 61 ["M", "roads", "way", "x"]]
noncomputable def blt:List Str:=["all", "bool", "dict", "enumerate", "int", "isinstance", "len", "list", "max", "min", "range", "sorted", "tuple", "zip"]
noncomputable def gis:List (Str×Int):=[("MOST_KINDS",6),("MOST_MAKES",16),("MOST_OF_A_DEED",6),("MOST_POWER",2),("MOST_ROADS",12)]
theorem sc_law:FnScope ["script", "M", "kinds", "roads", "makes", "made", "reach", "k", "cell", "v", "some", "values", "turned_values", "goal", "near", "way", "found"] ["script"] (qt s_law):=⟨rfl,rfl,rfl,by decide +kernel,rfl,by decide +kernel,by decide +kernel⟩
structure Txt(K:zae)(mg:Str->Option Value):Prop where
 d:∀p∈tab,My.DefAt K mg p.1 (top p.2.1) p.2.2
 b:∀x∈blt,mg x=none
 g:∀p∈gis,GInt mg p.1 p.2
 g_WORDS:GTup K mg "WORDS" ["let", "in", "pick", "again"]
theorem Txt.n{K:zae}{mg:Str->Option Value}(T:Txt K mg){x:Str}(h:x∈blt:=by decide +kernel):mg x=none:=T.b x h
noncomputable abbrev Tx(P:zai)(w:World)(K:zae)(mg:Str->Option Value)(base:Heap):Prop:=Txt K mg
noncomputable abbrev Zt(x:Str)(ps:List Str)(k n:Nat):Type:={b:Sv // ∀ {P:zai} {w:World} {K:zae} {mg:Str->Option Value} {base:Heap},Tx P w K mg base->Fn P w K mg base x k ps (runD n b)}
noncomputable def mkz(N:List Str)(i:Nat){x:Str}{ps:List Str}{k:Nat}{b:Sv}(h:∀ {P:zai} {w:World} {K:zae} {mg:Str->Option Value} {base:Heap} {fa:Addr} {cdv:Value} {A:Around} {outer:List Env} {H:Hp} {E:XK} (T:Tx P w K mg base) (s:Shared) (nd:N.Nodup) (hr:Room k (A.deeper (envOfC x (qt (top i)) s.heap.objs.size fa cdv))) (hu:(A.deeper (envOfC x (qt (top i)) s.heap.objs.size fa cdv)).units+1<cLine),∃g,PSDs (cxOf CX0 P w K mg base N x (qt (top i)) fa cdv A outer s H E).nox ⟨[],[]⟩ [] (qaa (top i)) g []/\g=b)(m:(x,i,ps)∈tab:=by decide +kernel)(sc:FnScope N ps (qt (top i)):=by exact⟨rfl,rfl,rfl,by decide +kernel,rfl,by decide +kernel,by decide +kernel⟩):Zt x ps (k+1) N.length:=⟨b,λT=>qqN (T.d _ m) sc λfa cdv A outer s H E hr=>h T s sc.nd hr (qoz hr)⟩
local macro_rules | `(tactic|exists $x:ident) => `(tactic|(refine' (?f:∀y:Sv, Subtype.val $x = y -> Sv) _ ?h;(case h => unfold $x;(try unfold mkz);(try dsimp only);try exact rfl);(case f => exact λy _ => y)))
theorem gi_0{X:Cx}{O:List Nat}{p:Pos}(T:Txt X.K X.mg)(hg:Gl X "MOST_KINDS"):PD X O (.Name "MOST_KINDS" p) (eC (.int 6)):=qdf (T.g ("MOST_KINDS",6) (by decide +kernel)) hg
theorem gi_1{X:Cx}{O:List Nat}{p:Pos}(T:Txt X.K X.mg)(hg:Gl X "MOST_MAKES"):PD X O (.Name "MOST_MAKES" p) (eC (.int 16)):=qdf (T.g ("MOST_MAKES",16) (by decide +kernel)) hg
theorem gi_2{X:Cx}{O:List Nat}{p:Pos}(T:Txt X.K X.mg)(hg:Gl X "MOST_OF_A_DEED"):PD X O (.Name "MOST_OF_A_DEED" p) (eC (.int 6)):=qdf (T.g ("MOST_OF_A_DEED",6) (by decide +kernel)) hg
theorem gi_3{X:Cx}{O:List Nat}{p:Pos}(T:Txt X.K X.mg)(hg:Gl X "MOST_POWER"):PD X O (.Name "MOST_POWER" p) (eC (.int 2)):=qdf (T.g ("MOST_POWER",2) (by decide +kernel)) hg
theorem gi_4{X:Cx}{O:List Nat}{p:Pos}(T:Txt X.K X.mg)(hg:Gl X "MOST_ROADS"):PD X O (.Name "MOST_ROADS" p) (eC (.int 12)):=qdf (T.g ("MOST_ROADS",12) (by decide +kernel)) hg
theorem gt_0{X:Cx}{O:List Nat}{e:Expr}{f:Ev}{p pos:Pos}(T:Txt X.K X.mg)(hg:Gl X "WORDS")(he:PB X O e f):PDT X O (.Compare e [.In] [.Name "WORDS" p] pos) (bOf (qh4 (dInG false ["let", "in", "pick", "again"]) f)):=qmH T.g_WORDS hg he
local macro_rules | `(tactic|trivial) => `(tactic|first
 | (show PB _ _ _ _;first|(apply vB <;> trivial)|(apply PD.b <;> trivial))
 | (show PD _ _ _ _;first|(apply vD <;> trivial)|(apply wE <;> trivial)|((first|apply qpY|apply qo8|apply rSl|apply rIt|apply rLen|apply wt|apply qqy|apply qpE|apply rTup|apply rInt|apply rAll|apply qqF|apply qqx|apply qqi|apply qqS|apply gi_0|apply gi_1|apply gi_2|apply gi_3|apply gi_4|apply qqQ|apply qpR|apply qmw|apply rCm|apply qp0|apply qox|apply qpa|apply qqh|apply qlb|apply qpi|apply qm0|apply qmk|apply rJn|apply PF.d) <;> trivial))
 | (show PDA _ _ _ _;((first|apply qna|apply pdc) <;> trivial))
 | (show PBA _ _ _ _;((first|apply qim|apply pbc) <;> trivial))
 | (show Len _ _;((first|apply l0|apply lc) <;> trivial))
 | (show OpX _ _ _;((first|apply qnn|apply qoX|apply qoy|apply qmO|apply qpW|apply qqo|apply qqW|apply qqc|apply qoP|apply xEq|apply xNe|apply xLt) <;> trivial))
 | (show At _ _ _;first|exact at_ 0|exact at_ 1|exact at_ 2|exact at_ 3|exact at_ 4|exact at_ 5|exact at_ 6|exact at_ 7|exact at_ 8|exact at_ 9|exact at_ 10|exact at_ 11|exact at_ 12|exact at_ 13|exact at_ 14|exact at_ 15|exact at_ 16)
 | (show PDT _ _ _ _;first|((first|apply gt_0|apply rInA|apply rNiA|apply tc|apply qih|apply qhM|apply qm1) <;> trivial)|(apply PDW.pt <;> trivial)|(apply qnl <;> trivial))
 | (show PDW _ _ _ _;((first|apply qn6|apply qoh|apply qk4|apply qn3) <;> trivial))
 | (show PDO _ _ _ _;((first|apply qls|apply qkm) <;> trivial))
 | (show PDI _ _ _ _ _;((first|apply qh2|apply qic|apply qh3|apply qnd|apply qkt|apply qkk) <;> trivial))
 | (show PDG _ _ _ _;first|(apply gV <;> trivial)|(apply gu 2 <;> trivial)|(apply gu 5 <;> trivial))
 | (show PDGs _ _ _ _;((first|apply qln|apply gc) <;> trivial))
 | (show My.PTs _ _ _;((first|apply qkw|apply qk8) <;> trivial))
 | (show PF _ _ _ _;((first|apply wl|apply rLst|apply rSo) <;> trivial))
 | rfl
 | assumption
 | exact Txt.n (by assumption)
 | exact .inl rfl
 | exact .inr rfl
 | exact .inr (.inl rfl)
 | exact .inr (.inr rfl)
 | exact λ_=>rfl
 | exact λ_ _=>rfl
 | (with_unfolding_all rfl)
 | (constructor <;> rfl))
seal PD PB PF PDA PBA PDT PDW PDI PDO PSD PSDs Fn OpX zap zaN
noncomputable def qa1:Zt "_law_at" ["script", "k"] 1 3:=mkz ["script", "k", "cell"] 49 λT s nd hr hu=>by exact⟨_,(c0 (qai qI) (c0 (qp 2) (c0 (qai (qj (qp 2))) (c0 (qp 2) qI)))),rfl⟩
noncomputable def qcp:Sv:=by exists qa1
noncomputable def qam:=runD 3 qcp
noncomputable def qdN:Zt "_law_unit" ["M", "cell"] 1 5:=mkz ["M", "cell", "one", "back", "k"] 51 λT s nd hr hu=>by exact⟨_,(c0 (qp 2) (c0 (qp 3) (c0 (qX [] [] (c0 (qp 2) (qj (qp 3)))) (c0 (qai (c0 (qp 2) (qj (qp 3)))) (c0 (qai qI) qI))))),rfl⟩
noncomputable def qdM:Sv:=by exists qdN
noncomputable def qcd:=runD 5 qdM
noncomputable def qcJ:Zt "_law_seats" ["M", "script", "many"] 2 8:=mkz ["M", "script", "many", "out", "k", "cell", "one", "back"] 52 λT s nd hr hu=>by have:=fx qam (qa1.2 T);have:=fx qcd (qdN.2 T);exact⟨_,(cO [3] (qaj 3) (c0 (qX [3] [] (cO [3] (qp 5) (cO [3] (qdc (by trivial) (qc7 (My.qfk (n:=2) rfl (by trivial)))) (qj (qco 3))))) qI)),rfl⟩
noncomputable def qcQ:Sv:=by exists qcJ
noncomputable def qbl:=runD 8 qcQ
noncomputable def qdE:Zt "_law_road" ["M", "seats", "j", "k", "cell"] 1 7:=mkz ["M", "seats", "j", "k", "cell", "a", "b"] 53 λT s nd hr hu=>by exact⟨_,(c0 (qp 5) (c0 (qp 6) qI)),rfl⟩
noncomputable def qd1:Sv:=by exists qdE
noncomputable def qdS:=runD 7 qd1
noncomputable def qcV:Zt "_law_roads" ["M", "seats", "script"] 2 9:=mkz ["M", "seats", "script", "many", "out", "k", "cell", "j", "spot"] 54 λT s nd hr hu=>by have:=fx qam (qa1.2 T);have:=fx qdS (qdE.2 T);exact⟨_,(c0 (qp 3) (cO [4] (qaj 4) (cO [4] (qX [4] [4] (cO [4] (qp 6) (cO [4] (qp 7) (cO [4] (qai (qj (qp 7))) (qj (qai (qj (qco 4)))))))) (c0 (qX [4] [] (cO [4] (qp 6) (qj (qai (cO [4] (qp 7) (qj (qco 4))))))) (c0 (qp 8) qI))))),rfl⟩
noncomputable def qcZ:Sv:=by exists qcV
noncomputable def qbm:=runD 9 qcZ
noncomputable def qbx:Zt "_law_spoiled" ["M", "cell", "roads", "makes"] 1 15:=mkz ["M", "cell", "roads", "makes", "at", "j", "k", "a", "b", "coin", "name", "takes", "gives", "terms", "more"] 57 λT s nd hr hu=>by exact⟨_,(c0 (qai (c0 (qp 4) (c0 (qdc (by trivial) (qc7 (My.qfk (n:=5) rfl (by trivial)))) (c0 (qai qI) qI)))) (c0 (qai (c0 (qp 4) (c0 (qdc (by trivial) (qc7 (My.qfk (n:=5) rfl (by trivial)))) (c0 (qp 14) (c0 (qai (qj (qp 14))) (c0 (qp 13) qI)))))) qI)),rfl⟩
noncomputable def qO:Sv:=by exists qbx
noncomputable def qbN:=runD 15 qO
noncomputable def qbo:Zt "_law_names" ["cell", "many"] 1 8:=mkz ["cell", "many", "letters", "size", "spot", "out", "k", "signs"] 50 λT s nd hr hu=>by exact⟨_,(c0 (qp 2) (c0 (qp 3) (c0 (qp 4) (cO [5] (qaj 5) (c0 (qX [5] [] (cO [5,7] (qaj 7 (qma (by trivial) (by trivial))) (cO [5] (qfH 7) (cO [5] (qai (qj (qp 7 (PF.d (qma (by trivial) (by trivial)))))) (qj (qco 5)))))) qI))))),rfl⟩
noncomputable def qcF:Sv:=by exists qbo
noncomputable def qbe:=runD 8 qcF
noncomputable def qc6:Zt "_law_terms" ["M", "seats", "takes", "gives", "some"] 1 10:=mkz ["M", "seats", "takes", "gives", "some", "i", "o", "rows", "e", "d"] 55 λT s nd hr hu=>by exact⟨_,(c0 (qp 5) (c0 (qp 6) (c0 (w_if (c0 (qp 7) (qj (qp 7))) (c0 (qp 8) (c0 (qp 9) (c0 (qp 7) (c0 (qp 7) (qj (qp 7))))))) (qI (PF.d (qfu s ["es", "c", "seats", "gives", "M"] [none,none,some 1,some 3,some 0])))))),rfl⟩
noncomputable def qbj:Sv:=by exists qc6
noncomputable def qcS:=runD 10 qbj
noncomputable def qdh:Zt "_law_makes" ["M", "seats", "script"] 2 15:=mkz ["M", "seats", "script", "many", "some", "names", "alone", "size", "out", "k", "cell", "takes", "gives", "n", "terms"] 56 λT s nd hr hu=>by have:=fx qam (qa1.2 T);have:=fx qbe (qbo.2 T);have:=fx qcS (qc6.2 T);exact⟨_,(c0 (qp 3) (c0 (ql3 4 s ["k", "script", "M"] [none,some 2,some 0]) (c0 (qp 5) (c0 (qp 6) (c0 (qp 7) (c0 (qai (qj (qp 7))) (cO [8] (qaj 8) (c0 (qX [8] [] (cO [8] (qp 10) (cO [8] (qp 11) (cO [8] (qp 12) (cO [8] (qp 13) (cO [8] (qai (qj (qp 13))) (cO [8] (qp 14) (qj (qco 8))))))))) qI)))))))),rfl⟩
noncomputable def qc8:Sv:=by exists qdh
noncomputable def qbc:=runD 15 qc8
noncomputable def qdD:Zt "_law_book" ["script"] 3 6:=mkz ["script", "M", "many", "seats", "roads", "makes"] 58 λT s nd hr hu=>by have:=fx qam (qa1.2 T);have:=fx qbc (qdh.2 T);have:=fx qbe (qbo.2 T);have:=fx qbm (qcV.2 T);have:=fx qbl (qcJ.2 T);have:=fx qbN (qbx.2 T);exact⟨_,(c0 (qp 1) (c0 (qai (qj (qp 1))) (c0 (qp 2) (c0 (qai (qj (qp 2))) (c0 (qp 3) (c0 (qp 4) (c0 (qdc (by trivial) (qc7 (My.qfk (n:=2) rfl (by trivial)))) qI))))))),rfl⟩
noncomputable def qd9:Sv:=by exists qdD
noncomputable def qb8:=runD 6 qd9
noncomputable def qdx:Zt "is_whole" ["thing"] 1 1:=mkz ["thing"] 8 λT s nd hr hu=>by exact⟨_,qI,rfl⟩
noncomputable def qdZ:Sv:=by exists qdx
noncomputable def qdU:=runD 1 qdZ
noncomputable def qi4:Zt "wheel" ["thing"] 2 1:=mkz ["thing"] 9 λT s nd hr hu=>by have:=fx qdU (qdx.2 T);exact⟨_,(c0 qaO (c0 qaO (c0 qaO qI))),rfl⟩
noncomputable def qjg:Sv:=by exists qi4
noncomputable def qi9:=runD 1 qjg
noncomputable def qcC:Zt "is_name" ["text"] 1 1:=mkz ["text"] 39 λT s nd hr hu=>by exact⟨_,(c0 (qai qI) (qI (cB (ql7 rfl) T.n My.boot_all (pbc (PD.b (PF.d (qfu s ["sign"] [none]))) (by trivial))))),rfl⟩
noncomputable def qe7:Sv:=by exists qcC
noncomputable def qcO:=runD 1 qe7
noncomputable def qbS:Zt "check_kinds" ["kinds"] 2 3:=mkz ["kinds", "number", "kind"] 41 λT s nd hr hu=>by have:=fx qcO (qcC.2 T);exact⟨_,(c0 qaO (qj (qX [] [] (c0 qaO (qj qaO))))),rfl⟩
noncomputable def qbq:Sv:=by exists qbS
noncomputable def qby:=runD 3 qbq
noncomputable def qbZ:Zt "is_price" ["price"] 1 1:=mkz ["price"] 43 λT s nd hr hu=>by exact⟨_,qI,rfl⟩
noncomputable def qdR:Sv:=by exists qbZ
noncomputable def qcb:=runD 1 qdR
noncomputable def z_on:Zt "on" ["M", "n"] 1 2:=mkz ["M", "n"] 10 λT s nd hr hu=>by exact⟨_,qI,rfl⟩
noncomputable def b_on:Sv:=by exists z_on
noncomputable def B_on:=runD 2 b_on
noncomputable def qdP:Zt "roads_of" ["M", "many", "roads"] 2 9:=mkz ["M", "many", "roads", "told", "j", "k", "a", "b", "price"] 42 λT s nd hr hu=>by have:=fx qcb (qbZ.2 T);have:=fx B_on (z_on.2 T);exact⟨_,(c0 qaO (cO [3] (qaj 3) (c0 (qX [3] [] (cO [3] qaO (cO [3] qaO (qj (qco 3))))) qI))),rfl⟩
noncomputable def qdK:Sv:=by exists qdP
noncomputable def qdu:=runD 9 qdK
noncomputable def qbp:Zt "check_deeds" ["makes"] 1 8:=mkz ["makes", "counted", "name", "takes", "gives", "terms", "price", "deed"] 47 λT s nd hr hu=>by exact⟨_,(cO [1] (qaj 1 qcs) (qj (qX [1] [] (cO [1] (qp 7) (cO [1] (qfH 1) (qj qaO)))))),rfl⟩
noncomputable def qbK:Sv:=by exists qbp
noncomputable def qbR:=runD 8 qbK
noncomputable def qcj:Zt "check_make" ["many", "name", "takes", "gives", "price"] 2 6:=mkz ["many", "name", "takes", "gives", "price", "kind"] 45 λT s nd hr hu=>by have:=fx qcO (qcC.2 T);have:=fx qcb (qbZ.2 T);exact⟨_,(c0 qaO (c0 qaO (c0 (qX [] [] (qj qaO)) (qj qaO)))),rfl⟩
noncomputable def qci:Sv:=by exists qcj
noncomputable def qcl:=runD 6 qci
noncomputable def qaC:Zt "form_of" ["M", "sums"] 2 2:=mkz ["M", "sums"] 16 λT s nd hr hu=>by have:=fx B_on (z_on.2 T);exact⟨_,(qI (cTy qeF T.n My.boot_tuple (pbc (PD.b (PF.d (qfu s ["exponents", "c", "M"] [none,none,some 0]))) (by trivial)))),rfl⟩
noncomputable def qe3:Sv:=by exists qaC
noncomputable def qaD:=runD 2 qe3
noncomputable def qaJ:Zt "check_exponents" ["n", "exponents"] 1 3:=mkz ["n", "exponents", "exponent"] 15 λT s nd hr hu=>by exact⟨_,(c0 qaO (qj (qX [] [] (qj qaO)))),rfl⟩
noncomputable def qaI:Sv:=by exists qaJ
noncomputable def qaE:=runD 3 qaI
noncomputable def qg8:Zt "form" ["M", "n", "terms"] 3 6:=mkz ["M", "n", "terms", "sums", "exponents", "c"] 14 λT s nd hr hu=>by have:=fx qaE (qaJ.2 T);have:=fx qaD (qaC.2 T);exact⟨_,(c0 qaO (cO [3] (qaj 3 qcs) (c0 (qX [3] [] (cO [3] qeT (qj (qfH 3)))) qI))),rfl⟩
noncomputable def qlI:Sv:=by exists qg8
noncomputable def qe5:=runD 6 qlI
noncomputable def qcI:Zt "make_form" ["M", "n", "terms"] 4 7:=mkz ["M", "n", "terms", "told", "e", "exponents", "c"] 46 λT s nd hr hu=>by have:=fx qe5 (qg8.2 T);exact⟨_,(c0 (qml (λ_ _ z=>z) (qj (qp 3))) (c0 (qX [] [] (qj qaO)) qI)),rfl⟩
noncomputable def qcN:Sv:=by exists qcI
noncomputable def qc3:=runD 7 qcN
noncomputable def qdv:Zt "makes_of" ["M", "many", "makes"] 5 9:=mkz ["M", "many", "makes", "told", "name", "takes", "gives", "terms", "price"] 44 λT s nd hr hu=>by have:=fx qbR (qbp.2 T);have:=fx qcl (qcj.2 T);have:=fx qc3 (qcI.2 T);exact⟨_,(c0 qaO (cO [3] (qaj 3) (c0 (qX [3] [] (cO [3] qeT (qj (qco 3)))) (c0 qeT qI)))),rfl⟩
noncomputable def qd6:Sv:=by exists qdv
noncomputable def qdI:=runD 9 qd6
noncomputable def qlY:Zt "book" ["M", "kinds", "roads", "makes"] 6 4:=mkz ["M", "kinds", "roads", "makes"] 40 λT s nd hr hu=>by have:=fx qby (qbS.2 T);have:=fx qdI (qdv.2 T);have:=fx qdu (qdP.2 T);have:=fx qi9 (qi4.2 T);exact⟨_,(c0 qeT (c0 qeT qI)),rfl⟩
noncomputable def ql9:Sv:=by exists qlY
noncomputable def qlL:=runD 4 ql9
noncomputable def qde:Zt "_law_reach" ["many", "roads"] 1 7:=mkz ["many", "roads", "out", "j", "row", "k", "road"] 59 λT s nd hr hu=>by exact⟨_,(cO [2] (qaj 2) (c0 (qX [2] [] (cO [2,4] (qmI 4 s ["k", "j"] [none,some 3]) (cO [2] (qX [2,4] [2] (qj (qX [2,4] [2,4] (qj (qai (qj (qfH 4))))))) (qj (qco 2)))) (by trivial) (qek (qgm (i:=3) nd rfl (Or.inr rfl)))) qI)),rfl⟩
noncomputable def qcL:Sv:=by exists qde
noncomputable def qcA:=runD 7 qcL
noncomputable def qbT:Zt "constant" ["M", "n", "c"] 3 3:=mkz ["M", "n", "c"] 20 λT s nd hr hu=>by have:=fx qaD (qaC.2 T);exact⟨_,(qI (cD (fx qaD (qaC.2 T)) (hr.mono (by decide)) (pdc (by trivial) (pdc (PF.d (qkM hu (PD.b (qo8 qob (by trivial) (by trivial))) (by trivial))) (by trivial))) (lc (lc l0)))),rfl⟩
noncomputable def qbV:Sv:=by exists qbT
noncomputable def qb7:=runD 3 qbV
noncomputable def qiP:Zt "added" ["exponents", "others"] 1 2:=mkz ["exponents", "others"] 19 λT s nd hr hu=>by exact⟨_,(c0 (qai qI) qI),rfl⟩
noncomputable def qf9:Sv:=by exists qiP
noncomputable def qgd:=runD 2 qf9
noncomputable def qet:Zt "times" ["M", "one", "other"] 3 9:=mkz ["M", "one", "other", "sums", "exponents", "c", "others", "d", "both"] 18 λT s nd hr hu=>by have:=fx qgd (qiP.2 T);have:=fx qaD (qaC.2 T);exact⟨_,(cO [3] (qaj 3 qcs) (c0 (qX [3] [] (qj (qX [3] [3] (cO [3] (qp 8) (qj (qfH 3)))))) qI)),rfl⟩
noncomputable def qiF:Sv:=by exists qet
noncomputable def qc9:=runD 9 qiF
noncomputable def qcD:Zt "powers_of" ["M", "n", "one", "most"] 4 6:=mkz ["M", "n", "one", "most", "powers", "exponent"] 24 λT s nd hr hu=>by have:=fx qb7 (qbT.2 T);have:=fx qc9 (qet.2 T);exact⟨_,(cO [4] (qaj 4) (c0 (qX [4] [] (qj (qco 4))) qI)),rfl⟩
noncomputable def qcE:Sv:=by exists qcD
noncomputable def qbi:=runD 6 qcE
noncomputable def qgD:Zt "plus" ["M", "one", "other"] 3 6:=mkz ["M", "one", "other", "sums", "exponents", "c"] 17 λT s nd hr hu=>by have:=fx qaD (qaC.2 T);exact⟨_,(cO [3] (qaj 3 (fTy (qkQ rfl hr.units) T.n My.boot_dict (by trivial))) (c0 (qX [3] [] (qj (qfH 3))) qI)),rfl⟩
noncomputable def qlM:Sv:=by exists qgD
noncomputable def qdF:=runD 6 qlM
noncomputable def qda:Zt "by_powers" ["M", "inner", "most", "factors"] 4 6:=mkz ["M", "inner", "most", "factors", "total", "exponent"] 25 λT s nd hr hu=>by have:=fx qdF (qgD.2 T);have:=fx qc9 (qet.2 T);exact⟨_,(c0 (qp 4) (c0 (qX [] [] (qj (qp 4))) qI)),rfl⟩
noncomputable def qc1:Sv:=by exists qda
noncomputable def qbk:=runD 6 qc1
noncomputable def qdz:Zt "greatest" ["one", "place"] 1 2:=mkz ["one", "place"] 23 λT s nd hr hu=>by exact⟨_,(qI (qmR rfl (by rfl) T.n (PD.b (PF.d (qfu s ["exponents", "c", "place"] [none,none,some 1]))) (by trivial) rfl)),rfl⟩
noncomputable def qdJ:Sv:=by exists qdz
noncomputable def qaH:=runD 2 qdJ
noncomputable def qaK:Zt "turned_form" ["M", "n", "turn", "one"] 4 4:=mkz ["M", "n", "turn", "one"] 21 λT s nd hr hu=>by have:=fx qb7 (qbT.2 T);have:=fx qdF (qgD.2 T);have:=fx qc9 (qet.2 T);exact⟨_,qI,rfl⟩
noncomputable def qbP:Sv:=by exists qaK
noncomputable def qP:=runD 4 qbP
noncomputable def qpo:Zt "put" ["M", "n", "outer", "inners"] 5 11:=mkz ["M", "n", "outer", "inners", "last", "powers", "factors", "exponents", "c", "ahead", "part"] 22 λT s nd hr hu=>by have:=fx qbk (qda.2 T);have:=fx qaH (qdz.2 T);have:=fx qdF (qgD.2 T);have:=fx qbi (qcD.2 T);have:=fx qP (qaK.2 T);exact⟨_,(c0 (qp 4) (c0 (qp 5) (cO [6] (qaj 6 qcs) (c0 (qX [6] [] (cO [6] (qp 9) (cO [6] (qp 10) (qj (qfH 6))))) (c0 (qai qI) qI))))),rfl⟩
noncomputable def qn4:Sv:=by exists qpo
noncomputable def qi0:=runD 11 qn4
noncomputable def qg6:Zt "turned" ["M", "turn", "x"] 2 3:=mkz ["M", "turn", "x"] 11 λT s nd hr hu=>by have:=fx B_on (z_on.2 T);exact⟨_,qI,rfl⟩
noncomputable def qhg:Sv:=by exists qg6
noncomputable def qgQ:=runD 3 qhg
noncomputable def qlP:Zt "then" ["M", "one", "other"] 3 3:=mkz ["M", "one", "other"] 12 λT s nd hr hu=>by have:=fx B_on (z_on.2 T);have:=fx qgQ (qg6.2 T);exact⟨_,qI,rfl⟩
noncomputable def ql5:Sv:=by exists qlP
noncomputable def qlH:=runD 3 ql5
noncomputable def qeY:Zt "turn_of" ["book", "way"] 4 4:=mkz ["book", "way", "turn", "number"] 28 λT s nd hr hu=>by have:=fx qlH (qlP.2 T);exact⟨_,(c0 (qp 2) (c0 (qX [] [] (qj (qp 2))) qI)),rfl⟩
noncomputable def qff:Sv:=by exists qeY
noncomputable def qdk:=runD 4 qff
noncomputable def qcK:Zt "first_way" ["book", "j", "k"] 1 7:=mkz ["book", "j", "k", "firsts", "kind", "number", "road"] 27 λT s nd hr hu=>by exact⟨_,(cO [3] (qaj 3 (qj9 (by trivial) (by trivial))) (c0 (qX [3] [] (qj (qX [3] [3] (qj (qai (qj (qfH 3))))))) qI)),rfl⟩
noncomputable def qdl:Sv:=by exists qcK
noncomputable def qas:=runD 7 qdl
noncomputable def qeU:Zt "unknown" ["M", "n", "place"] 4 3:=mkz ["M", "n", "place"] 31 λT s nd hr hu=>by have:=fx qe5 (qg8.2 T);exact⟨_,(qI (cD (fx qe5 (qg8.2 T)) (hr.mono (by decide)) (pdc (by trivial) (pdc (by trivial) (pdc (PF.d (qlV (pdc (qlU (pdc (cTy qeF T.n My.boot_tuple (pbc (PD.b (PF.d (qfu s ["other", "place"] [none,some 2]))) (by trivial))) (by trivial)) (λρ ds h=>(by have:=(lc (lc l0)) ρ ds h;omega))) (by trivial)) (λρ ds h=>(by have:=(lc l0) ρ ds h;omega)))) (by trivial)))) (lc (lc (lc l0))))),rfl⟩
noncomputable def qbI:Sv:=by exists qeU
noncomputable def qaX:=runD 3 qbI
noncomputable def qc4:Zt "seen_form" ["book", "v", "kinds"] 6 9:=mkz ["book", "v", "kinds", "M", "n", "inners", "place", "kind", "turn"] 30 λT s nd hr hu=>by have:=fx qas (qcK.2 T);have:=fx qi0 (qpo.2 T);have:=fx qdk (qeY.2 T);have:=fx qP (qaK.2 T);have:=fx qaX (qeU.2 T);exact⟨_,(c0 (qp 3) (c0 (qp 4) (cO [5] (qaj 5) (c0 (qX [5] [] (cO [5] (qp 8) (qj (qco 5)))) qI)))),rfl⟩
noncomputable def qbg:Sv:=by exists qc4
noncomputable def qcY:=runD 9 qbg
noncomputable def qcX:Zt "_law_first" ["roads", "reach", "j", "k"] 1 6:=mkz ["roads", "reach", "j", "k", "way", "r"] 60 λT s nd hr hu=>by exact⟨_,(c0 (qp 4) (c0 (qpC [] [] (c0 (qp 5) (c0 (qpC [] [] (qj (qp 5))) (c0 (qp 4) (qj (qp 2)))))) qI)),rfl⟩
noncomputable def qdj:Sv:=by exists qcX
noncomputable def qaq:=runD 6 qdj
noncomputable def qbr:Zt "_law_is_form" ["M", "n", "found"] 1 6:=mkz ["M", "n", "found", "last", "one", "e"] 63 λT s nd hr hu=>by exact⟨_,(c0 (qai qI) (c0 (qp 3) (c0 (qX [] [] (c0 (qai qI) (c0 (qX [] [] (qj (qai qI))) (c0 (qai qI) (qj (qp 3)))))) qI))),rfl⟩
noncomputable def qbO:Sv:=by exists qbr
noncomputable def qbQ:=runD 6 qbO
noncomputable def qdO:Zt "_law_made" ["M", "terms", "values"] 1 9:=mkz ["M", "terms", "values", "out", "es", "c", "e", "x", "k"] 62 λT s nd hr hu=>by exact⟨_,(c0 (qp 3) (c0 (qX [] [] (c0 (qX [] [] (qj (qX [] [] (qj (qp 5))))) (qj (qp 3)))) qI)),rfl⟩
noncomputable def qdH:Sv:=by exists qdO
noncomputable def qd7:=runD 9 qdH
noncomputable def qdd:Zt "_law_along" ["M", "roads", "way", "x"] 1 5:=mkz ["M", "roads", "way", "x", "r"] 61 λT s nd hr hu=>by exact⟨_,(c0 (qX [] [] (qj (qp 3))) qI),rfl⟩
noncomputable def qc5:Sv:=by exists qdd
noncomputable def qbn:=runD 5 qc5
noncomputable def qpf:{b:Sv // ∀ {P:zai} {w:World} {K:zae} {mg:Str->Option Value} {base:Heap},Tx P w K mg base->ZOk P w K mg base ["script", "M", "kinds", "roads", "makes", "made", "reach", "k", "cell", "v", "some", "values", "turned_values", "goal", "near", "way", "found"] "law" s_law 6 b}:=⟨_,λT fa cdv A outer s H E hr=>by have hu:=qoz hr;have nd:=sc_law.nd;have:=fx qlL (qlY.2 T);have:=fx qbn (qdd.2 T);have:=fx qam (qa1.2 T);have:=fx qb8 (qdD.2 T);have:=fx qaq (qcX.2 T);have:=fx qbQ (qbr.2 T);have:=fx qd7 (qdO.2 T);have:=fx qcA (qde.2 T);have:=fx qcY (qc4.2 T);exact⟨_,(c0 (qdc (by trivial) (qc7 (My.qfk (n:=4) rfl (by trivial)))) (c0 (qp 5) (c0 (qp 6) (c0 (qX [] [] (c0 (qp 8) (c0 (qai qI) (c0 (qp 9) (c0 (qp 8) (c0 (qp 10) (cO [11] (qaj 11) (cO [11,12] (qaj 12) (c0 (qX [11,12] [] (cO [11,12] (ql3 14 s ["j", "reach", "goal"] [none,some 6,some 13]) (cO [11,12] (qp 10) (cO [11,12] (qp 8) (cO [11,12] (qco 11) (cO [11,12] (qp 15) (qj (qco 12))))))) (by trivial) (qek (qgm (i:=13) nd rfl (Or.inr rfl)))) (c0 (qp 16) (c0 (qai qI) (qj (qai qI))))))))))))) qI)))),rfl⟩⟩
noncomputable def qnY:Sv:=by exists qpf
noncomputable def Bd(k:Nat)(x:Int):Prop:=-(10^k)<x/\x<10^k
theorem Bd.mono{k m:Nat}{x:Int}(h:Bd k x)(l:k<=m):Bd m x:=by
 have:(10:Int)^k<=10^m:=by
  have:=Nat.pow_le_pow_right (show 0<10 by decide) l
  exact_mod_cast this
 exact⟨by have:=h.1;omega,by have:=h.2;omega⟩
theorem Bd.mul{k m:Nat}{x y:Int}(h:Bd k x)(g:Bd m y):Bd (k+m) (x*y):=by
 have:=qoT h.1 h.2 g.1 g.2
 unfold Bd
 rw[Int.pow_add]
 exact this
theorem Bd.add{k:Nat}{x y:Int}(h:Bd k x)(g:Bd k y):Bd (k+1) (x+y):=by
 have a:=h.1
 have b:=h.2
 have c:=g.1
 have d:=g.2
 unfold Bd
 rw[zbJ]
 constructor <;> omega
theorem Bd.neg{k:Nat}{x:Int}(h:Bd k x):Bd k (-x):=⟨by have:=h.2;omega,by have:=h.1;omega⟩
theorem Bd.mulH{k m:Nat}{x y:Int}(h:Bd k x)(g:Bd m y)(hk:k<=500)(hm:m<=500):qak (.int x) (.int y)=some (.int (x*y)):=by
 have e:(10:Int)^500=10^250*10^250:=by rw[<- Int.pow_add]
 have h':=h.mono hk
 have g':=g.mono hm
 unfold Bd at h' g'
 rw[e]at h' g'
 exact qax h'.1 h'.2 g'.1 g'.2
theorem Bd.of{M x:Int}(h60:M<10^60)(h:0<=x/\x<=M):Bd 60 x:=by
 have:(0:Int)<10^60:=by decide +kernel
 exact⟨by omega,by omega⟩
theorem Bd.mod{M x:Int}(h0:0<M)(h60:M<10^60):Bd 61 (x%M):=(Bd.of h60 ⟨zar x (zaP h0),zbB (zas x h0)⟩).mono (by decide)
theorem qbt(ns:List Int):∃f:Int->Int,∀k:Int,0<=k->k<=1000->qam [.lst (ns.map .int),.int k]=some (.int (f k)):=by
 have h:∀k:Int,∃c:Int,0<=k->k<=1000->qam [.lst (ns.map .int),.int k]=some (.int c):=λk=>by
  by_cases h0:0<=k
  ·by_cases h1:k<=1000
   ·by_cases hk:k<(ns.length:Int)
    ·obtain⟨c,hc,_⟩:=qeJ h0 hk
     exact⟨c,λ_ _=>qG (by simp_all[qcp,qd,hk,hc])⟩
    ·have m1:qak (.int 40692) (.int k)=some (.int (40692*k)):=qax (by decide +kernel) (by decide +kernel) (by omega) (by omega)
     have m2:qak (.int k) (.int k)=some (.int (k*k)):=qax (by omega) (by omega) (by omega) (by omega)
     have fin:∀y:Int,-(100000000000)<y->y<100000000000->qak (.int y) (.int 48271)=some (.int (y*48271))/\qak (.int (y*48271%2147483647)) (.int (y*48271%2147483647))=some (.int (y*48271%2147483647*(y*48271%2147483647))):=λy a b=>by
      have c:=zar (y*48271) (show(2147483647:Int)≠0 by decide)
      have d:=zas (y*48271) (show(0:Int)<2147483647 by decide)
      exact⟨qax (by omega) (by omega) (by decide +kernel) (by decide +kernel),qax (by omega) (by omega) (by omega) (by omega)⟩
     by_cases hl:(0:Int)<(ns.length:Int)
     ·have hlN:0<ns.length:=by omega
      obtain⟨c,hc,_⟩:=qeJ (ns:=ns) (k:=k*k%(ns.length:Int)) (zar _ (zaP hl)) (zas _ hl)
      have c0:=zar c (show(2147483647:Int)≠0 by decide)
      have c1:=zas c (show(0:Int)<2147483647 by decide)
      obtain⟨m3,m4⟩:=fin (40692*k+1+c%2147483647) (by omega) (by omega)
      exact⟨_,λ_ _=>qG (by simp_all[qcp,qd,hk,m1,m2,hlN,qD hl,hc,qD,m3,m4];rfl)⟩
     ·have hlN:¬ 0<ns.length:=by omega
      obtain⟨m3,m4⟩:=fin (40692*k+1) (by omega) (by omega)
      exact⟨_,λ_ _=>qG (by simp_all[qcp,qd,hk,m1,hlN,qD,m3,m4];rfl)⟩
   ·exact⟨0,λ_ z=>absurd z h1⟩
  ·exact⟨0,λz=>absurd z h0⟩
 exact⟨λk=>(h k).choose,λk=>(h k).choose_spec⟩
theorem qhB{M c:Int}(h3:3<=M)(h60:M<10^60):∃a b:Int,qcd [.int M,.int c]=some (.tup [.int a,.int b])/\(0<=a/\a<=M)/\0<=b/\b<=M:=by
 suffices h:∃d,qcd [.int M,.int c]=some d/\∃a b:Int,d=.tup [.int a,.int b]/\(0<=a/\a<=M)/\0<=b/\b<=M by
  obtain⟨d,e,a,b,rfl,h⟩:=h;exact⟨a,b,e,h⟩
 have p60:(10:Int)^60=1000000000000000000000000000000000000000000000000000000000000:=by decide +kernel
 have Mp:0<M:=by omega
 have v0:=zar c (show(5:Int)≠0 by decide)
 have v1:=zas c (show(0:Int)<5 by decide)
 refine qaF ?_
 unfold qdM
 rw[qe (qm (d:=.int 1) (by simp[-zac,-zad,qb,qg]))]
 rw[qe (qm (d:=.int 1) (by simp[-zac,-zad,qb,qg]))]
 refine qaZ (items:=qF 0 1 (c%5).toNat) (by simp_all[qd,qD,qa2 v0 (show c%5<=1000000 by omega)]) (λi ρ=>∃(a b:Int) (o:Option D),ρ=[some (.int M),some (.int c),some (.int a),some (.int b),o]/\(0<=a/\a<M)/\0<=b/\b<M) ⟨1,1,none,by simp_all[qd],by omega,by omega,by omega⟩ ?_ ?_
 ·rintro i x ρ hx ⟨a,b,o,rfl,ha,hb⟩
  have m1:qak (.int a) (.int 2)=some (.int (a*2)):=qax (by omega) (by omega) (by decide +kernel) (by decide +kernel)
  have m2:qak (.int b) (.int ((M+1)/2))=some (.int (b*((M+1)/2))):=qax (by omega) (by omega) (by omega) (by omega)
  refine⟨[some (.int M),some (.int c),some (.int (a*2%M)),some (.int (b*((M+1)/2)%M)),some x],?_,_,_,_,rfl,⟨zar _ (zaP Mp),zas _ Mp⟩,zar _ (zaP Mp),zas _ Mp⟩
  simp_all[turn,m1,m2,qae,qD Mp]
 ·rintro ρ ⟨a,b,o,rfl,ha,hb⟩
  refine qfM (λρ=>∃(a b:Int),ρ=[some (.int M),some (.int c),some (.int a),some (.int b),o]/\(0<=a/\a<=M)/\0<=b/\b<=M) ?_ ?_
  ·by_cases h:c/5%2=1
   ·exact⟨_,by simp_all[qae,qD,h],M-a,M-b,rfl,by omega,by omega,by omega⟩
   ·exact⟨_,by simp_all[qae,qD,h],a,b,rfl,by omega,by omega,by omega⟩
  ·rintro ρ ⟨a,b,rfl,ha,hb⟩
   by_cases h:c/10%2=1
   ·exact⟨_,qmf (by simp_all[qae,qD,h]),b,a,rfl,hb,ha⟩
   ·rw[qe (ρ':=[some (.int M),some (.int c),some (.int a),some (.int b),o]) (by simp_all[qae,qD,h])]
    exact⟨_,by simp[-zac,-zad,qb,qg],a,b,rfl,ha,hb⟩
structure Se where
 x:Int
 y:Int
 z:Int
noncomputable def seD(s:Se):D:=.tup [.int s.x,.int s.y,.int s.z]
noncomputable def OkS(M:Int)(s:Se):Prop:=(0<=s.x/\s.x<=M)/\(0<=s.y/\s.y<=M)/\0<=s.z/\s.z<=M
theorem se_0{s:Se}:qu (seD s) (.int 0)=some (.int s.x):=by unfold seD;rw[q_itT];exact at0
theorem se_1{s:Se}:qu (seD s) (.int 1)=some (.int s.y):=by unfold seD;rw[q_itT];exact at1
theorem se_2{s:Se}:qu (seD s) (.int 2)=some (.int s.z):=by unfold seD;rw[q_itT];exact at2
theorem qfZ{ns:List Int}{M many:Int}(h3:3<=M)(h60:M<10^60)(hm:1<=many/\many<=6):∃ss:List Se,qbl [.int M,.lst (ns.map .int),.int many]=some (.lst (ss.map seD))/\(ss.length:Int)=many/\∀s∈ss,OkS M s:=by
 suffices h:∃d,qbl [.int M,.lst (ns.map .int),.int many]=some d/\∃ss:List Se,d=.lst (ss.map seD)/\(ss.length:Int)=many/\∀s∈ss,OkS M s by
  obtain⟨d,e,ss,rfl,h⟩:=h;exact⟨ss,e,h⟩
 obtain⟨f,hf⟩:=qbt ns
 have Mp:0<M:=by omega
 refine qaF ?_
 unfold qcQ
 rw[qe (qm (d:=.lst []) (by simp[-zac,-zad,qb,qg]))]
 refine qaZ (items:=qF 0 1 many.toNat) (by simp_all[qd,qa2 (show 0<=many by omega) (show many<=1000000 by omega)]) (λi ρ=>∃(ss:List Se) (o4 o5 o6 o7:Option D),ρ=[some (.int M),some (.lst (ns.map .int)),some (.int many),some (.lst (ss.map seD)),o4,o5,o6,o7]/\ss.length=i/\∀s∈ss,OkS M s) ⟨[],none,none,none,none,by simp_all[qd],rfl,λ_ h=>nomatch h⟩ ?_ ?_
 ·rintro i x ρ hx ⟨ss,o4,o5,o6,o7,rfl,hl,hs⟩
  obtain⟨hlt,rfl⟩:=qK hx
  have hI:0<=(0:Int)+(i:Int)*1/\(0:Int)+(i:Int)*1<=6:=by omega
  generalize (0:Int)+(i:Int)*1=I at hI
  have fI:=hf (4+I) (by omega) (by omega)
  generalize f (4+I)=c at fI
  obtain⟨a,b,eu,ha,hb⟩:=qhB (c:=c) h3 h60
  have z0:=zar (c/20) (zaP Mp)
  have z1:=zas (c/20) Mp
  have hz:szOk ss.length=true:=decide_eq_true (by omega)
  refine⟨[some (.int M),some (.lst (ns.map .int)),some (.int many),some (.lst ((ss++[(⟨a,b,c/20%M⟩:Se)]).map seD)),some (.int I),some (.int c),some (.int a),some (.int b)],?_,_,_,_,_,_,rfl,by simp_all[hl],λs h=>?_⟩
  ·simp_all[turn,fI,eu,qae,qD Mp,hz,seD]
  ·rcases List.mem_append.mp h with z|z
   ·exact hs s z
   ·rw[List.mem_singleton.mp z];exact⟨ha,hb,z0,by show c/20%M<=M;omega⟩
 ·rintro ρ ⟨ss,o4,o5,o6,o7,rfl,hl,hs⟩
  rw[qJ]at hl
  exact⟨_,by simp[-zac,-zad,qb,qg],ss,rfl,by omega,hs⟩
noncomputable def OkR(many:Int)(r:Ro):Prop:=(0<=r.j/\r.j<r.k/\r.k<many)/\0<=r.p/\r.p<=10^30/\Bd 61 r.a/\Bd 61 r.b
theorem qib{ss:List Se}{i:Int}(h0:0<=i)(h:i<(ss.length:Int)):∃s∈ss,atI (ss.map seD) i=some (seD s):=by
 obtain⟨d,hd,_,e⟩:=qn2 (l:=ss.map seD) (k:=i) h0 (by rw[zan];exact h)
 obtain⟨s,hs,rfl⟩:=List.mem_map.mp hd
 exact⟨s,hs,e⟩
theorem qd0{M many j k c:Int}{ss:List Se}(h3:3<=M)(h60:M<10^60)(hl:(ss.length:Int)=many)(hs:∀s∈ss,OkS M s)(j0:0<=j)(jk:j<k)(km:k<many):∃r:Ro,qdS [.int M,.lst (ss.map seD),.int j,.int k,.int c]=some (rdD r)/\r.j=j/\r.k=k/\OkR many r:=by
 have p60:(10:Int)^60=1000000000000000000000000000000000000000000000000000000000000:=by decide +kernel
 have p30:(10:Int)^30=1000000000000000000000000000000:=by decide +kernel
 have Mp:0<M:=by omega
 obtain⟨s,hsm,es⟩:=qib (ss:=ss) (i:=j) j0 (by omega)
 obtain⟨t,htm,et⟩:=qib (ss:=ss) (i:=k) (by omega) (by omega)
 obtain⟨s1,s2,s3⟩:=hs s hsm
 obtain⟨t1,t2,t3⟩:=hs t htm
 have m1:qak (.int t.x) (.int s.y)=some (.int (t.x*s.y)):=qax (by omega) (by omega) (by omega) (by omega)
 have a0:=zar (t.x*s.y) (zaP Mp)
 have a1:=zas (t.x*s.y) Mp
 generalize hA:t.x*s.y%M=A at a0 a1
 have m2:qak (.int A) (.int s.z)=some (.int (A*s.z)):=qax (by omega) (by omega) (by omega) (by omega)
 have e0:=zar (c/3) (show(2:Int)≠0 by decide)
 have e1:=zas (c/3) (show(0:Int)<2 by decide)
 have g0:=zar (c/5) (show(2:Int)≠0 by decide)
 have g1:=zas (c/5) (show(0:Int)<2 by decide)
 have m3:qak (.int M) (.int (c/3%2))=some (.int (M*(c/3%2))):=qax (by omega) (by omega) (by omega) (by omega)
 have m4:qak (.int M) (.int (c/5%2))=some (.int (M*(c/5%2))):=qax (by omega) (by omega) (by omega) (by omega)
 have w0:=zar (c/7) (show(1000000000000000000000000000000:Int)≠0 by decide)
 have w1:=zas (c/7) (show(0:Int)<1000000000000000000000000000000 by decide)
 have pw:dPow (.int 10) (.int 30)=some (.int 1000000000000000000000000000000):=qit (by decide) (by decide) (by decide)
 have dm:dMod (.int (c/7)) (.int 1000000000000000000000000000000)=some (.int (c/7%1000000000000000000000000000000)):=qD (by decide)
 have bdm:∀ {x y:Int},(0<=x/\x<=M)->0<=y->y<2->Bd 61 (x-M*y):=λ{x y} hx y0 y1=>by
  have p61:(10:Int)^61=10000000000000000000000000000000000000000000000000000000000000:=by decide +kernel
  have:y=0\/y=1:=by omega
  rcases this with rfl|rfl
  ·exact⟨by rw[p61];omega,by rw[p61];omega⟩
  ·exact⟨by rw[p61];omega,by rw[p61];omega⟩
 refine⟨⟨j,k,A-M*(c/3%2),(t.z-A*s.z)%M-M*(c/5%2),c/7%1000000000000000000000000000000⟩,qG ?_,rfl,rfl,⟨j0,jk,km⟩,w0,by show c/7%1000000000000000000000000000000<=_;omega,bdm ⟨a0,zbB a1⟩ e0 e1,bdm ⟨zar _ (zaP Mp),zbB (zas _ Mp)⟩ g0 g1⟩
 unfold qd1
 rw[qe (qm (d:=.int A) (by simp_all[qd,es,et,se_0,se_1,m1,qD Mp,hA]))]
 rw[qe (qm (d:=.int ((t.z-A*s.z)%M)) (by simp_all[qd,es,et,se_2,m2,qD Mp]))]
 simp_all[qd,qae,qD,m3,m4,pw,dm,rdD]
theorem qgZ{w:List D}{c:Int}(h0:0<=c)(h1:c<=(w.length:Int)):cutD w none (some c)=w.take c.toNat/\cutD w (some c) none=w.drop c.toNat:=by
 have e1:HT.sIx w.length w.length (some c)=c.toNat:=by
  show(if c<0 then _ else min c.toNat w.length)=_
  rw[if_neg (by omega)];omega
 have e2:HT.sIx w.length 0 (some c)=c.toNat:=by
  show(if c<0 then _ else min c.toNat w.length)=_
  rw[if_neg (by omega)];omega
 have e3:HT.sIx w.length 0 none=0:=rfl
 have e4:HT.sIx w.length w.length none=w.length:=rfl
 unfold _root_.P.cutD
 rw[e1,e2,e3,e4]
 constructor
 ·simp[-zac,-zad,qb,qg]
 ·rw[List.take_of_length_le (by simp[-zac,-zad,qb,qg])]
theorem qgn{ns:List Int}{M many:Int}{ss:List Se}(h3:3<=M)(h60:M<10^60)(hm:1<=many/\many<=6)(hl:(ss.length:Int)=many)(hs:∀s∈ss,OkS M s):∃rs:List Ro,qbm [.int M,.lst (ss.map seD),.lst (ns.map .int)]=some (.lst (rs.map rdD))/\rs.length<=12/\∀r∈rs,OkR many r:=by
 suffices h:∃d,qbm [.int M,.lst (ss.map seD),.lst (ns.map .int)]=some d/\∃rs:List Ro,d=.lst (rs.map rdD)/\rs.length<=12/\∀r∈rs,OkR many r by
  obtain⟨d,e,rs,rfl,h⟩:=h;exact⟨rs,e,h⟩
 obtain⟨f,hf⟩:=qbt ns
 have f3:=hf 3 (by decide) (by decide)
 have app:∀ {rs:List Ro} {r:Ro},(∀r∈rs,OkR many r)->OkR many r->∀q∈rs++[r],OkR many q:=λh k q hq=>by
  rcases List.mem_append.mp hq with z|z
  ·exact h q z
  ·rw[List.mem_singleton.mp z];exact k
 refine qaF ?_
 unfold qcZ
 rw[qe (qm (d:=.int many) (by simp_all[qd,hl]))]
 rw[qe (qm (d:=.lst []) (by simp[-zac,-zad,qb,qg]))]
 have r1:qaN [.int 1,.int many]=some (qF 1 1 (many-1).toNat):=qaT (by decide) (by decide) (by omega) (by omega)
 refine qaZ (items:=qF 1 1 (many-1).toNat) (by simp_all[qd,r1]) (λi ρ=>∃(rs:List Ro) (o5 o6 o7:Option D),ρ=[some (.int M),some (.lst (ss.map seD)),some (.lst (ns.map .int)),some (.int many),some (.lst (rs.map rdD)),o5,o6,o7,none]/\rs.length<=i/\∀r∈rs,OkR many r) ⟨[],none,none,none,by simp_all[qd],by simp[-zac,-zad,qb,qg],λ_ h=>nomatch h⟩ ?_ ?_
 ·rintro i x ρ hx ⟨rs,o5,o6,o7,rfl,hr,hok⟩
  obtain⟨hlt,rfl⟩:=qK hx
  have hI:1<=(1:Int)+(i:Int)*1/\(1:Int)+(i:Int)*1<many:=by omega
  generalize (1:Int)+(i:Int)*1=I at hI
  have fI:=hf (9+I) (by omega) (by omega)
  generalize f (9+I)=c at fI
  have hz:szOk rs.length=true:=decide_eq_true (by omega)
  have pI:0<I+1:=by omega
  have w0:=zar (c/11) (zaP pI)
  have w1:=zas (c/11) pI
  have hj:∃j:Int,-1<=j/\j<I/\sSeq (sSet 7 (eOp dSub (eVar 5) (eC (.int 1)))) (sIf (bOf (eOp dEq (eOp dMod (qT qam (qz (eVar 2) (qz (eC (.int 3)) lNil))) (eC (.int 3))) (eC (.int 2)))) (sSet 7 (eOp dSub (eOp dMod (eOp dDiv (eVar 6) (eC (.int 11))) (eOp qav (eVar 5) (eC (.int 1)))) (eC (.int 1)))) sNx) [some (.int M),some (.lst (ss.map seD)),some (.lst (ns.map .int)),some (.int many),some (.lst (rs.map rdD)),some (.int I),some (.int c),o7,none]=some (.nx [some (.int M),some (.lst (ss.map seD)),some (.lst (ns.map .int)),some (.int many),some (.lst (rs.map rdD)),some (.int I),some (.int c),some (.int j),none]):=by
   by_cases h:f 3%3=2
   ·exact⟨c/11%(I+1)-1,by omega,by omega,by simp_all[f3,qD,h,qae,qD pI]⟩
   ·exact⟨I-1,by omega,by omega,by simp_all[f3,qD,h]⟩
  obtain⟨j,j0,j1,ej⟩:=hj
  have es:∀ {g h k:Sv} {ρ:Rho},sSeq g (sSeq h k) ρ=sSeq (sSeq g h) k ρ:=by
   intro g h k ρ
   unfold sSeq
   cases g ρ with
   | none=>rfl
   | some o=>cases o <;> rfl
  by_cases h:0<=j
  ·obtain⟨r,er,_,_,ok⟩:=qd0 (c:=c/77) h3 h60 hl hs h j1 hI.2
   refine⟨[some (.int M),some (.lst (ss.map seD)),some (.lst (ns.map .int)),some (.int many),some (.lst ((rs++[r]).map rdD)),some (.int I),some (.int c),some (.int j),none],?_,_,_,_,_,rfl,by simp[-zac,-zad,qb,qg];omega,app hok ok⟩
   show(qx 5 _ _).bind _=_
   rw[q_name,qb,qe (qm (d:=.int c) (by simp_all[fI])),es,qe (by exact ej)]
   simp_all[h,qae,er,hz]
  ·refine⟨[some (.int M),some (.lst (ss.map seD)),some (.lst (ns.map .int)),some (.int many),some (.lst (rs.map rdD)),some (.int I),some (.int c),some (.int j),none],?_,_,_,_,_,rfl,by omega,hok⟩
   show(qx 5 _ _).bind _=_
   rw[q_name,qb,qe (qm (d:=.int c) (by simp_all[fI])),es,qe (by exact ej)]
   simp_all[h]
 ·rintro ρ ⟨rs,o5,o6,o7,rfl,hr,hok⟩
  rw[qJ]at hr
  have r2:qaN [.int 15,.int 19]=some (qF 15 1 4):=qaT (by decide) (by decide) (by decide) (by decide)
  refine qaZ (items:=qF 15 1 4) (by simp_all[r2]) (λi ρ=>∃(rs:List Ro) (o5 o6 o7:Option D),ρ=[some (.int M),some (.lst (ss.map seD)),some (.lst (ns.map .int)),some (.int many),some (.lst (rs.map rdD)),o5,o6,o7,none]/\rs.length<=5+i/\∀r∈rs,OkR many r) ⟨rs,o5,o6,o7,rfl,by omega,hok⟩ ?_ ?_
  ·rintro i x ρ hx ⟨rs,o5,o6,o7,rfl,hr,hok⟩
   obtain⟨hlt,rfl⟩:=qK hx
   have hI:15<=(15:Int)+(i:Int)*1/\(15:Int)+(i:Int)*1<19:=by omega
   generalize (15:Int)+(i:Int)*1=I at hI
   have fI:=hf I (by omega) (by omega)
   generalize f I=c at fI
   have hz:szOk rs.length=true:=decide_eq_true (by omega)
   by_cases h1:1<many
   ·by_cases h2:c%2=1
    ·have p1:0<many-1:=by omega
     have w0:=zar (c/2) (zaP p1)
     have w1:=zas (c/2) p1
     have d1:dMod (.int (c/2)) (.int (many-1))=some (.int (c/2%(many-1))):=qD p1
     generalize c/2%(many-1)=j at w0 w1 d1
     have p2:0<many-1-j:=by omega
     have u0:=zar (c/10) (zaP p2)
     have u1:=zas (c/10) p2
     obtain⟨r,er,_,_,ok⟩:=qd0 (j:=j) (k:=j+1+c/10%(many-1-j)) (c:=c/50) h3 h60 hl hs w0 (by omega) (by omega)
     refine⟨[some (.int M),some (.lst (ss.map seD)),some (.lst (ns.map .int)),some (.int many),some (.lst ((rs++[r]).map rdD)),some (.int I),some (.int c),some (.int j),none],?_,_,_,_,_,rfl,by simp[-zac,-zad,qb,qg];omega,app hok ok⟩
     simp_all[turn,fI,h1,qD,h2,qae,d1,qD p2,er,hz]
    ·refine⟨[some (.int M),some (.lst (ss.map seD)),some (.lst (ns.map .int)),some (.int many),some (.lst (rs.map rdD)),some (.int I),some (.int c),o7,none],?_,_,_,_,_,rfl,by omega,hok⟩
     simp_all[turn,fI,h1,qD,h2]
   ·refine⟨[some (.int M),some (.lst (ss.map seD)),some (.lst (ns.map .int)),some (.int many),some (.lst (rs.map rdD)),some (.int I),some (.int c),o7,none],?_,_,_,_,_,rfl,by omega,hok⟩
    simp_all[turn,fI,h1]
  ·rintro ρ ⟨rs,o5,o6,o7,rfl,hr,hok⟩
   rw[qJ]at hr
   have lp:(0:Int)<(rs.length:Int)+1:=by omega
   have w0:=zar (f 3/3) (zaP lp)
   have w1:=zas (f 3/3) lp
   rw[qe (qm (d:=.int (f 3/3%((rs.length:Int)+1))) (by simp_all[f3,qae,qD lp]))]
   generalize f 3/3%((rs.length:Int)+1)=sp at w0 w1
   obtain⟨c1,c2⟩:=qgZ (w:=rs.map rdD) (c:=sp) w0 (by rw[zan];omega)
   have hz:szOk ((rs.drop sp.toNat).length+(rs.take sp.toNat).length)=true:=decide_eq_true (by simp[-zac,-zad,qb,qg];omega)
   simp only[List.length_drop,zbM]at hz
   refine⟨.lst ((rs.drop sp.toNat++rs.take sp.toNat).map rdD),?_,_,rfl,by simp[-zac,-zad,qb,qg];omega,λr h=>?_⟩
   ·simp_all[c1,c2,hz]
   ·rcases List.mem_append.mp h with z|z
    ·exact hok r (List.mem_of_mem_drop z)
    ·exact hok r (List.mem_of_mem_take z)
noncomputable def OkT(n:Nat)(t:My.Tm):Prop:=t.1.length=n/\(∀e∈t.1,0<=e/\e<=2)/\Bd 61 t.2
theorem qbX{M x g:Int}(Mp:0<M){S:List D}{s:Se}(es:atI S g=some (seD s))(hx:s.x=x):∀(ts:List My.Tm) (o1 o2:Option D),(∀t∈ts,qak (.int x) (.int t.2)=some (.int (x*t.2)))->qau (qaQ 2 (qL (qx 0) (qL (qx 1) qa8))) bYes (eTup (qz (eVar 0) (qz (eOp dMod (eOp qak (eOp qu (eOp qu (eVar 2) (eVar 3)) (eC (.int 0))) (eVar 1)) (eVar 4)) lNil))) (ts.map tmD) [o1,o2,some (.lst S),some (.int g),some (.int M)]=some ((ts.map λt=>(t.1,x*t.2%M)).map tmD)
 | [],_,_,_=>rfl
 | t::ts,o1,o2,h=>by
  have ih:=qbX Mp es hx ts (some (tupI t.1)) (some (.int t.2)) λu hu=>h u (zaz _ hu)
  have m:=h t (zay ..)
  rw[zak,qau]
  simp[-zac,-zad,qb,qg,tmD,es,se_0,hx,m,qD Mp]at ih ⊢
  simp_all[ih]
theorem qgx{M many g:Int}{ss:List Se}{tk so:List Int}(h3:3<=M)(h60:M<10^60)(hl:(ss.length:Int)=many)(hs:∀s∈ss,OkS M s)(htk:(∃t,tk=[t])\/∃t u,tk=[t,u])(htb:∀t∈tk,0<=t/\t<many)(g0:0<=g)(g1:g<many)(hso:∃a b c d:Int,so=[a,b,c,d])(hsb:∀x∈so,0<=x/\x<=M) :
  ∃ts:List My.Tm,qcS [.int M,.lst (ss.map seD),tupI tk,.int g,.lst (so.map .int)]=some (.lst (ts.map tmD))/\ts.length<=6/\∀t∈ts,OkT tk.length t:=by
 have Mp:0<M:=by omega
 obtain⟨a,b,c,d,rfl⟩:=hso
 have ba:=Bd.of h60 (hsb a (by simp[-zac,-zad,qb,qg]))
 have bb:=Bd.of h60 (hsb b (by simp[-zac,-zad,qb,qg]))
 have bc:=Bd.of h60 (hsb c (by simp[-zac,-zad,qb,qg]))
 have bd:=Bd.of h60 (hsb d (by simp[-zac,-zad,qb,qg]))
 obtain⟨s,hsm,es⟩:=qib (ss:=ss) (i:=g) g0 (by omega)
 obtain⟨s1,s2,s3⟩:=hs s hsm
 have bx:=Bd.of h60 s1
 have by_:=Bd.of h60 s2
 have bz:=Bd.of h60 s3
 have two:Bd 60 2:=⟨by decide +kernel,by decide +kernel⟩
 have v3:=by_.mul bz
 have m3:=by_.mulH bz (by decide) (by decide)
 have mf:∀ {v:Int},Bd 400 v->qak (.int s.x) (.int v)=some (.int (s.x*v)):=λh=>bx.mulH h (by decide) (by decide)
 rcases htk with⟨t,rfl⟩|⟨t,u,rfl⟩
 ·have t0:=htb t (by simp[-zac,-zad,qb,qg])
  obtain⟨r,hrm,er⟩:=qib (ss:=ss) (i:=t) t0.1 (by omega)
  obtain⟨r1,r2,r3⟩:=hs r hrm
  have bi:=Bd.of h60 r2
  have bw:=Bd.of h60 r3
  have bo:=bi.neg.mul bw
  have mo:=bi.neg.mulH bw (by decide) (by decide)
  generalize hi:r.y=i at bi bo mo
  generalize ho:-i*r.z=o at bo mo
  have n1:=bb.mulH bo (by decide) (by decide)
  have n2:=bc.mulH bo (by decide) (by decide)
  have n3:=(bc.mul bo).mulH bo (by decide) (by decide)
  have n4:=bc.mulH bi (by decide) (by decide)
  have n5:=(bc.mul bi).mulH bi (by decide) (by decide)
  have n6:=bb.mulH bi (by decide) (by decide)
  have n7:=two.mulH bc (by decide) (by decide)
  have n8:=(two.mul bc).mulH bi (by decide) (by decide)
  have n9:=((two.mul bc).mul bi).mulH bo (by decide) (by decide)
  have e1:=mf ((((ba.mono (show 60<=300 by decide)).add ((bb.mul bo).mono (show 60+(60+60)<=300 by decide))).add (((bc.mul bo).mul bo).mono (show 60+(60+60)+(60+60)<=300+1 by decide))).mono (show 300+1+1<=400 by decide))
  have e2:=mf (((bc.mul bi).mul bi).mono (show 60+60+60<=400 by decide))
  have e3:=mf ((((bb.mul bi).mono (show 60+60<=350 by decide)).add ((((two.mul bc).mul bi).mul bo).mono (show 60+60+60+(60+60)<=350 by decide))).mono (show 350+1<=400 by decide))
  have e4:=mf (v3.mono (show 60+60<=400 by decide))
  refine⟨[([0],s.x*(a+b*o+c*o*o)%M),([2],s.x*(c*i*i)%M),([1],s.x*(b*i+2*c*i*o)%M),([0],s.x*(s.y*s.z)%M)],qG ?_,by simp[-zac,-zad,qb,qg],λq hq=>?_⟩
  ·unfold qbj
   rw[qe (qm (d:=.int i) (by simp_all[qd,tupI,at0,er,se_1,hi]))]
   rw[qe (qm (d:=.int o) (by simp_all[qd,tupI,at0,er,se_2,mo,ho]))]
   have z2:szOk 4=true:=rfl
   rw[qe (ρ':=[some (.int M),some (.lst (ss.map seD)),some (tupI [t]),some (.int g),some (.lst ([a,b,c,d].map .int)),some (.int i),some (.int o),some (.lst [tmD ([0],a+b*o+c*o*o),tmD ([2],c*i*i),tmD ([1],b*i+2*c*i*o),tmD ([0],s.y*s.z)]),none,none]) (by simp_all[qd,tupI,at0,at1,at2,n1,n2,n3,n4,n5,n6,n7,n8,n9,es,se_1,se_2,m3,z2,tmD])]
   have cm:=qbX Mp es rfl [([0],a+b*o+c*o*o),([2],c*i*i),([1],b*i+2*c*i*o),([0],s.y*s.z)] none none (by simp only[zaK,zaL,or_false];rintro t (rfl|rfl|rfl|rfl) <;> assumption)
   simp only[zak,zbu]at cm ⊢
   simp_all[z2,inS,cm]
  ·simp only[zaK,zaL,or_false]at hq
   rcases hq with rfl|rfl|rfl|rfl <;> exact⟨rfl,by simp[-zac,-zad,qb,qg],Bd.mod Mp h60⟩
 ·have t0:=htb t (by simp[-zac,-zad,qb,qg])
  have u0:=htb u (by simp[-zac,-zad,qb,qg])
  obtain⟨r,hrm,er⟩:=qib (ss:=ss) (i:=t) t0.1 (by omega)
  obtain⟨q,hqm,eq⟩:=qib (ss:=ss) (i:=u) u0.1 (by omega)
  obtain⟨r1,r2,r3⟩:=hs r hrm
  obtain⟨q1,q2,q3⟩:=hs q hqm
  have bi:=Bd.of h60 r2
  have bw:=Bd.of h60 r3
  have bo:=bi.neg.mul bw
  have mo:=bi.neg.mulH bw (by decide) (by decide)
  have be:=Bd.of h60 q2
  have bv:=Bd.of h60 q3
  have bp:=be.neg.mul bv
  have mp:=be.neg.mulH bv (by decide) (by decide)
  generalize hi:r.y=i at bi bo mo
  generalize ho:-i*r.z=o at bo mo
  generalize he:q.y=e at be bp mp
  generalize hp:-e*q.z=p at bp mp
  have n1:=bd.mulH bi (by decide) (by decide)
  have n2:=(bd.mul bi).mulH be (by decide) (by decide)
  have n3:=bb.mulH bo (by decide) (by decide)
  have n4:=bc.mulH bp (by decide) (by decide)
  have n5:=bd.mulH bo (by decide) (by decide)
  have n6:=(bd.mul bo).mulH bp (by decide) (by decide)
  have n7:=bc.mulH be (by decide) (by decide)
  have n8:=(bd.mul bo).mulH be (by decide) (by decide)
  have n9:=bb.mulH bi (by decide) (by decide)
  have n10:=(bd.mul bi).mulH bp (by decide) (by decide)
  have e1:=mf (((bd.mul bi).mul be).mono (show 60+60+60<=400 by decide))
  have e2:=mf (((((ba.mono (show 60<=300 by decide)).add ((bb.mul bo).mono (show 60+(60+60)<=300 by decide))).add ((bc.mul bp).mono (show 60+(60+60)<=300+1 by decide))).add (((bd.mul bo).mul bp).mono (show 60+(60+60)+(60+60)<=300+1+1 by decide))).mono (show 300+1+1+1<=400 by decide))
  have e3:=mf ((((bc.mul be).mono (show 60+60<=350 by decide)).add (((bd.mul bo).mul be).mono (show 60+(60+60)+60<=350 by decide))).mono (show 350+1<=400 by decide))
  have e4:=mf ((((bb.mul bi).mono (show 60+60<=350 by decide)).add (((bd.mul bi).mul bp).mono (show 60+60+(60+60)<=350 by decide))).mono (show 350+1<=400 by decide))
  have e5:=mf (v3.mono (show 60+60<=400 by decide))
  refine⟨[([1,1],s.x*(d*i*e)%M),([0,0],s.x*(a+b*o+c*p+d*o*p)%M),([0,1],s.x*(c*e+d*o*e)%M),([1,0],s.x*(b*i+d*i*p)%M),([0,0],s.x*(s.y*s.z)%M)],qG ?_,by simp[-zac,-zad,qb,qg],λx hx=>?_⟩
  ·unfold qbj
   rw[qe (qm (d:=.int i) (by simp_all[qd,tupI,at0,er,se_1,hi]))]
   rw[qe (qm (d:=.int o) (by simp_all[qd,tupI,at0,er,se_2,mo,ho]))]
   have z4:szOk 4=true:=rfl
   have z5:szOk 5=true:=rfl
   rw[qe (ρ':=[some (.int M),some (.lst (ss.map seD)),some (tupI [t,u]),some (.int g),some (.lst ([a,b,c,d].map .int)),some (.int i),some (.int o),some (.lst [tmD ([1,1],d*i*e),tmD ([0,0],a+b*o+c*p+d*o*p),tmD ([0,1],c*e+d*o*e),tmD ([1,0],b*i+d*i*p),tmD ([0,0],s.y*s.z)]),some (.int e),some (.int p)]) (by simp_all[qd,tupI,at0,at1,at2,at3,eq,se_1,se_2,he,mp,hp,n1,n2,n3,n4,n5,n6,n7,n8,n9,n10,es,m3,z4,z5,tmD])]
   have cm:=qbX Mp es rfl [([1,1],d*i*e),([0,0],a+b*o+c*p+d*o*p),([0,1],c*e+d*o*e),([1,0],b*i+d*i*p),([0,0],s.y*s.z)] none none (by simp only[zaK,zaL,or_false];rintro t (rfl|rfl|rfl|rfl|rfl) <;> assumption)
   simp only[zak,zbu]at cm ⊢
   simp_all[z5,inS,cm]
  ·simp only[zaK,zaL,or_false]at hx
   rcases hx with rfl|rfl|rfl|rfl|rfl <;> exact⟨rfl,by simp[-zac,-zad,qb,qg],Bd.mod Mp h60⟩
theorem qnC{ss:List Str}(h:∀s∈ss,∃n,s=⟨#[n]⟩):(ss.map (·.length)).sum=ss.length:=by
 induction ss with
 | nil=>rfl
 | cons s ss ih=>
  obtain⟨n,rfl⟩:=h s (zay ..)
  rw[zak,List.sum_cons,ih λt ht=>h t (zaz _ ht),zaT]
  show 1+ss.length=ss.length+1
  omega
noncomputable def sg(S:Str)(i:Int):Nat:=S.cps.toList.getD i.toNat 0
theorem qn9{z:Str}(hz:z.length<=1000){i:Int}(h0:0<=i)(h:i<(z.length:Int)):qu (.str z) (.int i)=some (.str ⟨#[sg z i]⟩):=by
 obtain⟨j,rfl⟩:∃j:Nat,i=(j:Int):=⟨i.toNat,by omega⟩
 have hj:j<z.cps.toList.length:=by rw[za7];show j<z.length;omega
 have e:atI z.cps.toList (j:Int)=some z.cps.toList[j]:=qaf (by simp_all[hj])
 have e2:sg z (j:Int)=z.cps.toList[j]:=by
  unfold sg
  rw[zbz,List.getD_eq_getElem?_getD,zaO hj];rfl
 rw[e2]
 show(if szOk z.length then(atI z.cps.toList (j:Int)).map (λc=>D.str ⟨#[c]⟩)else none)=_
 rw[if_pos (show szOk z.length=true from decide_eq_true (by omega)),e]
 rfl
theorem join_ones:∀l:List Nat,(Str.join "" (l.map λg=>(⟨#[g]⟩:Str))).cps.toList=l
 | []=>rfl
 | [g]=>rfl
 | g::g'::l=>by
  have ih:=join_ones (g'::l)
  show((⟨#[g]⟩:Str) ++ "" ++ Str.join "" ((g'::l).map λg=>(⟨#[g]⟩:Str))).cps.toList=_
  have e:∀a b:Str,(a++b).cps=a.cps++b.cps:=λ_ _=>rfl
  rw[e,e,Array.toList_append,Array.toList_append,ih]
  rfl
theorem qku{sep:Str}{ys:List Str}:Txt.join sep ys=Str.join sep ys:=by
 have:=join_closes (sep:=sep) (sep':=sep) (ys:=ys) rfl
 simpa using this
theorem qkE(l:List Nat):((l.map λg=>(⟨#[g]⟩:Str)).map (·.length)).sum=l.length:=by
 rw[qnC (ss:=l.map λg=>(⟨#[g]⟩:Str)) λs hs=>by obtain⟨g,_,rfl⟩:=List.mem_map.mp hs;exact⟨g,rfl⟩,zan]
noncomputable def low(c:Nat):Bool:=decide (97<=c) && decide (c<=122)
noncomputable def qfc(x:Str):Bool:=decide (1<=x.length) && decide (x.length<=8) && (x.cps.toList.all low) && !((["let", "in", "pick", "again"]:List Str).contains x)
theorem qqa(c:Nat):(!decide ((⟨#[c]⟩:Str).cps.toList<("a" : Str).cps.toList))=decide (97<=c)/\(!decide (("z" : Str).cps.toList<(⟨#[c]⟩:Str).cps.toList))=decide (c<=122):=by
 have ea:("a" : Str).cps.toList=[97]:=by decide
 have ez:("z" : Str).cps.toList=[122]:=by decide
 have ec:(⟨#[c]⟩:Str).cps.toList=[c]:=rfl
 rw[ea,ez,ec]
 have h1:([c]<[97])↔c<97:=by simp_all[List.cons_lt_cons_iff]
 have h2:([122]<[c])↔122<c:=by simp_all[List.cons_lt_cons_iff]
 constructor
 ·by_cases h:c<97
  ·rw[decide_eq_true (h1.mpr h),decide_eq_false (by omega)];rfl
  ·rw[decide_eq_false (λz=>h (h1.mp z)),decide_eq_true (by omega)];rfl
 ·by_cases h:122<c
  ·rw[decide_eq_true (h2.mpr h),decide_eq_false (by omega)];rfl
  ·rw[decide_eq_false (λz=>h (h2.mp z)),decide_eq_true (by omega)];rfl
theorem qgY:∀(cs:List Nat) (o:Option D),qau (qx 0) bYes (qbB dLeA dLeA (eC (.str "a")) (eVar 0) (eC (.str "z"))) (cs.map λc=>.str ⟨#[c]⟩) [o]=some ((cs.map low).map .bl)
 | [],o=>rfl
 | c::cs,o=>by
  have ih:=qgY cs (some (.str ⟨#[c]⟩))
  obtain⟨l1,l2⟩:=qqa c
  have e1:dLeA (.str "a") (.str ⟨#[c]⟩)=some (.bl (decide (97<=c))):=by rw[q_leAS,l1]
  have e2:dLeA (.str ⟨#[c]⟩) (.str "z")=some (.bl (decide (c<=122))):=by rw[q_leAS,l2]
  by_cases h:97<=c
  ·simp_all[-zaB,-q_leAS,qau,qbB,e1,e2,h,ih,low]
  ·simp_all[-zaB,-q_leAS,qau,qbB,e1,h,ih,low]
theorem qe1{x:Str}(hl:x.length<=1000):qcO [.str x]=some (.bl (qfc x)):=by
 refine qG ?_
 have hz:szOk x.length=true:=decide_eq_true (by omega)
 have le:dLen [.str x]=some (.int (x.length:Int)):=if_pos hz
 have cm:=qgY x.cps.toList none
 have hz2:szOk (P.signs x).length=true:=by
  have:(P.signs x).length=x.length:=by unfold P.signs;rw[zan,za7];rfl
  rw[this];exact hz
 have al:(List.map low x.cps.toList).all id=x.cps.toList.all low:=by rw[List.all_map];rfl
 unfold qe7 qfc
 by_cases h1:x.length<1
 ·have h1':(x.length:Int)<1:=by omega
  have h2:decide (1<=x.length)=false:=decide_eq_false (by omega)
  rw[h2]
  simp_all[qd,le,h1']
 ·have h1':¬ (x.length:Int)<1:=by omega
  have h2:decide (1<=x.length)=true:=decide_eq_true (by omega)
  rw[h2]
  by_cases h8:8<x.length
  ·have h8':(8:Int)<(x.length:Int):=by omega
   have h3:decide (x.length<=8)=false:=decide_eq_false (by omega)
   rw[h3]
   simp_all[qd,le,h1',h8']
  ·have h8':¬ (8:Int)<(x.length:Int):=by omega
   have h3:decide (x.length<=8)=true:=decide_eq_true (by omega)
   rw[h3]
   unfold P.signs at hz2
   by_cases hc:x = "let" \/ x = "in" \/ x = "pick" \/ x = "again"
   ·have hb:(["let", "in", "pick", "again"]:List Str).contains x=true:=by simpa using hc
    rw[hb]
    simp_all[-zaB,qd,le,h1',h8',hc]
   ·have hb:(["let", "in", "pick", "again"]:List Str).contains x=false:=by simpa using hc
    rw[hb]
    have sg:P.signs x=x.cps.toList.map λc=>D.str ⟨#[c]⟩:=rfl
    have dl:dAll [.lst ((x.cps.toList.map low).map .bl)]=some (.bl (x.cps.toList.all low)):=by rw[q_all,al]
    have hz3:szOk x.cps.size=true:=hz
    simp[-zac,-zad,qb,qg,-zaB,-q_all,qd,le,h1',h8',hc,sg,hz3,inS,cm]at dl ⊢
    simp_all[-zaB,-q_all,dl]
theorem qow{i:Int}(h0:0<=i)(h:i<26):qu (.str "abcdefghijklmnopqrstuvwxyz") (.int i)=some (.str ⟨#[97+i.toNat]⟩):=by
 have l:("abcdefghijklmnopqrstuvwxyz" : Str).length=26:=by decide +kernel
 rw[qn9 (by rw[l];decide) h0 (by rw[l];exact h)]
 have:∀j:Fin 26,sg "abcdefghijklmnopqrstuvwxyz" (j.val:Int)=97+j.val:=by decide +kernel
 have e:=this ⟨i.toNat,by omega⟩
 have e2:((i.toNat:Nat):Int)=i:=by omega
 rw[e2]at e
 rw[e]
noncomputable def nmZ(c:Int):Int:=if c/26%8=0 then 1 else if c/26%8=7 then 8 else c/26%8+2
noncomputable def nmL(c k:Int):List Nat:=if c/1664%3=0 then zaG (1+(c+k)%8).toNat (97+(c%26).toNat)else(zaG (nmZ c).toNat (97+(c%26).toNat)).set (c/208%nmZ c).toNat (97+((c+1+k)%26).toNat)
noncomputable def nmS(c k:Int):Str:=⟨(nmL c k).toArray⟩
theorem qkT(c:Int):1<=nmZ c/\nmZ c<=8/\nmZ c≠2:=by
 unfold nmZ
 have:=zar (c/26) (show(8:Int)≠0 by decide)
 have:=zas (c/26) (show(0:Int)<8 by decide)
 split
 ·omega
 ·split <;> omega
theorem qcU(c k:Int):(nmL c k).length=(if c/1664%3=0 then(1+(c+k)%8).toNat else(nmZ c).toNat):=by
 unfold nmL
 split <;> simp[-zac,-zad,qb,qg]
theorem qi6(c k:Int):1<=(nmS c k).length/\(nmS c k).length<=8:=by
 have e:(nmS c k).length=(nmL c k).length:=by show(nmL c k).toArray.size=_;simp[-zac,-zad,qb,qg]
 have z:=qkT c
 rw[e,qcU]
 split <;> omega
theorem qoB(c k:Int):(nmS c k).cps.toList.all low=true:=by
 show(nmL c k).toArray.toList.all low=true
 rw[zbW]
 intro x hx
 have hx:x∈nmL c k:=by simpa using hx
 have a:x=97+(c%26).toNat\/x=97+((c+1+k)%26).toNat:=by
  unfold nmL at hx
  split at hx
  ·exact .inl (zb3 hx)
  ·rcases List.mem_or_eq_of_mem_set hx with z|z
   ·exact .inl (zb3 z)
   ·exact .inr z
 unfold low
 have:97<=x/\x<=122:=by omega
 simp_all[this]
theorem qnh(c k:Int):∃(a s:Nat),∀i x,i≠s->(nmL c k)[i]?=some x->x=a:=by
 unfold nmL
 split
 ·exact⟨97+(c%26).toNat,100,λi x _ h=>zb3 (zaH h)⟩
 ·refine⟨97+(c%26).toNat,(c/208%nmZ c).toNat,λi x hi h=>?_⟩
  rw[List.getElem?_set_ne (zaJ hi)]at h
  exact zb3 (zaH h)
theorem three{a s i j k x y z:Nat}{w:List Nat}(h:∀i x,i≠s->w[i]?=some x->x=a)(hx:w[i]?=some x)(hy:w[j]?=some y)(hz:w[k]?=some z)(n:i≠j/\i≠k/\j≠k)(m:x≠y/\x≠z/\y≠z):False:=by
 by_cases e:i=s
 ·have p:=h j y (λq=>n.1 (e.trans q.symm)) hy
  have q:=h k z (λq=>n.2.1 (e.trans q.symm)) hz
  exact m.2.2 (p.trans q.symm)
 ·have p:=h i x e hx
  by_cases e2:j=s
  ·exact m.2.1 (p.trans (h k z (λq=>n.2.2 (e2.trans q.symm)) hz).symm)
  ·exact m.1 (p.trans (h j y e2 hy).symm)
theorem qfP{c k:Int}{w:List Nat}(hw:w=[108,101,116]\/w=[112,105,99,107]\/w=[97,103,97,105,110]):nmL c k≠w:=by
 rintro rfl
 obtain⟨a,s,h⟩:=qnh c k
 rcases hw with e|e|e <;> rw[e]at h
 ·exact three (i:=0) (j:=1) (k:=2) h rfl rfl rfl (by decide) (by decide)
 ·exact three (i:=0) (j:=1) (k:=2) h rfl rfl rfl (by decide) (by decide)
 ·exact three (i:=0) (j:=1) (k:=3) h rfl rfl rfl (by decide) (by decide)
theorem qp5{c k:Int}:nmL c k≠[105,110]:=by
 intro e
 have l:=congrArg zbr e
 rw[qcU]at l
 have z:=qkT c
 unfold nmL at e
 split at e
 ·have h0:(105:Nat)∈[105,110]:=by decide
  have h1:(110:Nat)∈[105,110]:=by decide
  rw[<- e]at h0 h1
  have:=(zb3 h0).trans (zb3 h1).symm
  omega
 ·rw[if_neg (by assumption)]at l
  have l:(nmZ c).toNat=2:=l
  omega
theorem qp8{c k:Int}(h0:0<=k)(h:k<25):qfc (nmS c k)=true:=by
 obtain⟨l1,l2⟩:=qi6 c k
 have hw:(["let", "in", "pick", "again"]:List Str).contains (nmS c k)=false:=by
  have e:∀s:Str,nmS c k=s->nmL c k=s.cps.toList:=λs z=>by rw[<- z];simp_all[nmS]
  have e1:("let" : Str).cps.toList=[108,101,116]:=by decide
  have e2:("in" : Str).cps.toList=[105,110]:=by decide
  have e3:("pick" : Str).cps.toList=[112,105,99,107]:=by decide
  have e4:("again" : Str).cps.toList=[97,103,97,105,110]:=by decide
  have:¬ (nmS c k = "let" \/ nmS c k = "in" \/ nmS c k = "pick" \/ nmS c k = "again"):=by
   rintro(z|z|z|z)
   ·exact qfP (.inl e1) (e _ z)
   ·exact qp5 ((e _ z).trans e2)
   ·exact qfP (.inr (.inl e3)) (e _ z)
   ·exact qfP (.inr (.inr e4)) (e _ z)
  simpa using this
 unfold qfc
 rw[hw,qoB,decide_eq_true l1,decide_eq_true l2]
 rfl
theorem qp7{c k m:Int}(h0:0<=k)(h:k<8)(h2:0<=m)(h3:m<8)(e:nmS c k=nmS c m):k=m:=by
 have e:nmL c k=nmL c m:=by
  have:=congrArg (λs:Str=>s.cps.toList) e
  simpa[nmS]using this
 have z:=qkT c
 by_cases hc:c/1664%3=0
 ·have l:=congrArg zbr e
  rw[qcU,qcU,if_pos hc,if_pos hc]at l
  omega
 ·unfold nmL at e
  rw[if_neg hc,if_neg hc]at e
  have sp0:=zar (c/208) (show nmZ c≠0 by omega)
  have sp1:=zas (c/208) (show 0<nmZ c by omega)
  have e2:=congrArg (λl:List Nat=>l[(c/208%nmZ c).toNat]?) e
  simp[-zac,-zad,qb,qg,List.getElem?_set,show(c/208%nmZ c).toNat<(nmZ c).toNat by omega]at e2
  omega
theorem qeS{x:D}:∀n:Nat,(zaG n [x]).flatten=zaG n x
 | 0=>rfl
 | n+1=>by rw[zbN,zbU,qeS n];rfl
theorem qpP(l:List Nat)(h:l.length<=100):qhC (.str "") (.lst (l.map λg=>.str ⟨#[g]⟩))=some (.str ⟨l.toArray⟩):=by
 have j:=qo3 (sep := "") (ss:=l.map λg=>(⟨#[g]⟩:Str)) (by
  rw[qkE]
  show l.length+_*0<=_
  omega)
 rw[zaB]at j
 refine Eq.trans j ?_
 congr 2
 rw[qku]
 have:=join_ones l
 cases hs:Str.join "" (l.map λg=>(⟨#[g]⟩:Str))with
 | mk cps=>
  rw[hs]at this
  simp only at this
  rw[<- this]
theorem qkd{i:Int}(h0:0<=i)(h:i<8):atI [D.int 1,.int 3,.int 4,.int 5,.int 6,.int 7,.int 8,.int 8] i=some (.int (if i=0 then 1 else if i=7 then 8 else i+2)):=by
 have:i=0\/i=1\/i=2\/i=3\/i=4\/i=5\/i=6\/i=7:=by omega
 rcases this with rfl|rfl|rfl|rfl|rfl|rfl|rfl|rfl <;> rfl
theorem qc0{c many:Int}(h0:0<=many)(h:many<=6):qbe [.int c,.int many]=some (.lst ((zav many.toNat).map λ(k:Nat)=>.str (nmS c (k:Int)))):=by
 obtain⟨z1,z2,_⟩:=qkT c
 have i0:=zar (c/26) (show(8:Int)≠0 by decide)
 have i1:=zas (c/26) (show(0:Int)<8 by decide)
 have es:=qkd i0 i1
 have s0:=zar (c/208) (show nmZ c≠0 by omega)
 have s1:=zas (c/208) (show 0<nmZ c by omega)
 have a0:=zar c (show(26:Int)≠0 by decide)
 have a1:=zas c (show(0:Int)<26 by decide)
 have z8:szOk 8=true:=rfl
 refine qG ?_
 unfold qcF
 rw[qe (qm (d:=.str "abcdefghijklmnopqrstuvwxyz") (by simp[-zac,-zad,qb,qg]))]
 rw[qe (qm (d:=.int (nmZ c)) (by simp_all[qd,qae,qD,es,nmZ,z8]))]
 rw[qe (qm (d:=.int (c/208%nmZ c)) (by simp_all[qd,qae,qD (show 0<nmZ c by omega)]))]
 rw[qe (qm (d:=.lst []) (by simp[-zac,-zad,qb,qg]))]
 refine qar (items:=qF 0 1 many.toNat) (by simp_all[qd,qa2 h0 (show many<=1000000 by omega)]) (λi ρ=>∃o6 o7,ρ=[some (.int c),some (.int many),some (.str "abcdefghijklmnopqrstuvwxyz"),some (.int (nmZ c)),some (.int (c/208%nmZ c)),some (.lst ((zav i).map λ(k:Nat)=>.str (nmS c (k:Int)))),o6,o7]) ⟨none,none,by simp_all[qd]⟩ ?_ ?_
 ·rintro i x ρ hx ⟨o6,o7,rfl⟩
  obtain⟨hlt,rfl⟩:=qK hx
  have hI:(0:Int)+(i:Int)*1=(i:Int):=by omega
  rw[hI]
  have b0:=zar (c+1+(i:Int)) (show(26:Int)≠0 by decide)
  have b1:=zas (c+1+(i:Int)) (show(0:Int)<26 by decide)
  have n0:=zar (c+(i:Int)) (show(8:Int)≠0 by decide)
  have n1:=zas (c+(i:Int)) (show(0:Int)<8 by decide)
  have hz:szOk i=true:=decide_eq_true (by omega)
  have sz1:szOk (nmZ c).toNat=true:=decide_eq_true (by omega)
  have sz2:szOk (1+(c+(i:Int))%8).toNat=true:=decide_eq_true (by omega)
  have rg1:qaw (nmZ c)=true:=by simp only[qaw,zaC,decide_eq_true_eq];omega
  have rg2:qaw (1+(c+(i:Int))%8)=true:=by simp only[qaw,zaC,decide_eq_true_eq];omega
  have e1:=qow a0 a1
  have e2:=qow b0 b1
  have nl:(nmL c (i:Int)).length<=100:=by rw[qcU];split <;> omega
  have jn:=qpP (nmL c (i:Int)) nl
  have pt:=qpl (l:=zaG (nmZ c).toNat (D.str ⟨#[97+(c%26).toNat]⟩)) (k:=c/208%nmZ c) (e:=.str ⟨#[97+((c+1+(i:Int))%26).toNat]⟩) s0 (by rw[List.length_replicate];omega)
  refine⟨[some (.int c),some (.int many),some (.str "abcdefghijklmnopqrstuvwxyz"),some (.int (nmZ c)),some (.int (c/208%nmZ c)),some (.lst ((zav (i+1)).map λ(k:Nat)=>.str (nmS c (k:Int)))),some (.int (i:Int)),some (.lst ((nmL c (i:Int)).map λg=>.str ⟨#[g]⟩))],?_,_,_,rfl⟩
  have rs:(zav (i+1)).map (λ(k:Nat)=>D.str (nmS c (k:Int)))=(zav i).map (λ(k:Nat)=>D.str (nmS c (k:Int)))++[.str (nmS c (i:Int))]:=by rw[List.range_succ,zbm];rfl
  rw[rs]
  by_cases hc:c/1664%3=0
  ·have hl:nmL c (i:Int)=zaG (1+(c+(i:Int))%8).toNat (97+(c%26).toNat):=by unfold nmL;rw[if_pos hc]
   rw[hl,List.map_replicate]at jn ⊢
   have hs:nmS c (i:Int)=⟨(zaG (1+(c+(i:Int))%8).toNat (97+(c%26).toNat)).toArray⟩:=by unfold nmS;rw[hl]
   simp_all[turn,qD,qae,e1,e2,qeS,sz1,sz2,rg1,rg2,pt,hc,jn,hz,hs]
  ·have hl:nmL c (i:Int)=(zaG (nmZ c).toNat (97+(c%26).toNat)).set (c/208%nmZ c).toNat (97+((c+1+(i:Int))%26).toNat):=by unfold nmL;rw[if_neg hc]
   rw[hl,List.map_set,List.map_replicate]at jn ⊢
   have hs:nmS c (i:Int)=⟨((zaG (nmZ c).toNat (97+(c%26).toNat)).set (c/208%nmZ c).toNat (97+((c+1+(i:Int))%26).toNat)).toArray⟩:=by unfold nmS;rw[hl]
   simp_all[turn,qD,qae,e1,e2,qeS,sz1,rg1,pt,hc,jn,hz,hs]
 ·rintro ρ ⟨o6,o7,rfl⟩
  rw[qJ]
  simp[-zac,-zad,qb,qg]
structure Mk where
 nm:Str
 tk:List Int
 gv:Int
 ts:List My.Tm
 p:Int
noncomputable def mkD(m:Mk):D:=.tup [.str m.nm,tupI m.tk,.int m.gv,.lst (m.ts.map tmD),.int m.p]
structure OkM(many:Int)(n:Nat)(m:Mk):Prop where
 nm:qfc m.nm=true
 nl:m.nm.length<=8
 tk:(∃t,m.tk=[t])\/∃t u,m.tk=[t,u]
 tb:∀t∈m.tk,0<=t/\t<many
 gv:0<=m.gv/\m.gv<many
 tl:m.ts.length<=n
 tt:∀t∈m.ts,OkT m.tk.length t
 pr:0<=m.p/\m.p<=10^30
theorem cut2{x y:D}:cutD [x,y] none (some 1)=[x]/\cutD [x,y] none (some 2)=[x,y]:=⟨rfl,rfl⟩
theorem app1{α:Type}{P:α->Prop}{l:List α}{x:α}(h:∀y∈l,P y)(k:P x):∀y∈l++[x],P y:=λy hy=>by
 rcases List.mem_append.mp hy with z|z
 ·exact h y z
 ·rw[List.mem_singleton.mp z];exact k
theorem qf3{ns:List Int}{M many:Int}{ss:List Se}(h3:3<=M)(h60:M<10^60)(hm:1<=many/\many<=6)(hl:(ss.length:Int)=many)(hs:∀s∈ss,OkS M s):∃ms:List Mk,qbc [.int M,.lst (ss.map seD),.lst (ns.map .int)]=some (.lst (ms.map mkD))/\ms.length<=5/\∀m∈ms,OkM many 6 m:=by
 suffices h:∃d,qbc [.int M,.lst (ss.map seD),.lst (ns.map .int)]=some d/\∃ms:List Mk,d=.lst (ms.map mkD)/\ms.length<=5/\∀m∈ms,OkM many 6 m by
  obtain⟨d,e,ms,rfl,h⟩:=h;exact⟨ms,e,h⟩
 have Mp:0<M:=by omega
 have mp:0<many:=by omega
 obtain⟨f,hf⟩:=qbt ns
 have f3:=hf 3 (by decide) (by decide)
 have f28:=hf 28 (by decide) (by decide)
 have f24:=hf 24 (by decide) (by decide)
 have f25:=hf 25 (by decide) (by decide)
 have f26:=hf 26 (by decide) (by decide)
 have f27:=hf 27 (by decide) (by decide)
 have mb:∀x:Int,0<=x%M/\x%M<=M:=λx=>by
  have:=zar x (zaP Mp)
  have:=zas x Mp
  omega
 have mm:∀x:Int,0<=x%many/\x%many<many:=λx=>⟨zar x (zaP mp),zas x mp⟩
 have r24:qaN [.int 24,.int 28]=some (qF 24 1 4):=qaT (by decide) (by decide) (by decide) (by decide)
 have e24:qF 24 1 4=[.int 24,.int 25,.int 26,.int 27]:=rfl
 have z4:szOk 4=true:=rfl
 obtain⟨a,ha,ab⟩:∃a,f 24%M=a/\0<=a/\a<=M:=⟨_,rfl,mb _⟩
 obtain⟨b,hb,bb⟩:∃a,f 25%M=a/\0<=a/\a<=M:=⟨_,rfl,mb _⟩
 obtain⟨c,hc,cb⟩:∃a,f 26%M=a/\0<=a/\a<=M:=⟨_,rfl,mb _⟩
 obtain⟨d,hd,db⟩:∃a,f 27%M=a/\0<=a/\a<=M:=⟨_,rfl,mb _⟩
 refine qaF ?_
 unfold qc8
 rw[qe (qm (d:=.int many) (by simp_all[qd,hl]))]
 rw[qe (qm (d:=.lst ([a,b,c,d].map .int)) (by simp_all[qd,r24,e24,z4,inS,qau,f24,f25,f26,f27,qD Mp,ha,hb,hc,hd]))]
 have nn:=qc0 (c:=f 28) (many:=3) (by decide) (by decide)
 have e3:(zav (3:Int).toNat).map (λ(k:Nat)=>D.str (nmS (f 28) (k:Int)))=[.str (nmS (f 28) 0),.str (nmS (f 28) 1),.str (nmS (f 28) 2)]:=rfl
 rw[e3]at nn
 rw[qe (qm (d:=.lst [.str (nmS (f 28) 0),.str (nmS (f 28) 1),.str (nmS (f 28) 2)]) (by simp_all[qd,f28,nn]))]
 rw[qe (qm (d:=.bl (decide (0<f 28/5000%3))) (by simp_all[qd,f28,qae,qD]))]
 generalize decide (0<f 28/5000%3)=al
 rw[qe (qm (d:=.int (f 3/30%6)) (by simp_all[qd,f3,qae,qD]))]
 have s0:=zar (f 3/30) (show(6:Int)≠0 by decide)
 have s1:=zas (f 3/30) (show(0:Int)<6 by decide)
 generalize f 3/30%6=sz at s0 s1
 generalize hN:nmS (f 28)=N at nn
 have hsz:∃sz2:Int,0<=sz2/\sz2<=5/\sIf (bOf (eOp dGtI (eVar 3) (eC (.int 4)))) (sSet 7 (eOp dMod (eVar 7) (eC (.int 3)))) sNx [some (.int M),some (.lst (ss.map seD)),some (.lst (ns.map .int)),some (.int many),some (.lst ([a,b,c,d].map .int)),some (.lst [.str (N 0),.str (N 1),.str (N 2)]),some (.bl al),some (.int sz),none,none,none,none,none,none,none]=some (.nx [some (.int M),some (.lst (ss.map seD)),some (.lst (ns.map .int)),some (.int many),some (.lst ([a,b,c,d].map .int)),some (.lst [.str (N 0),.str (N 1),.str (N 2)]),some (.bl al),some (.int sz2),none,none,none,none,none,none,none]):=by
  by_cases h:4<many
  ·exact⟨sz%3,by omega,by omega,by simp_all[h,qD]⟩
  ·exact⟨sz,s0,by omega,by simp_all[h]⟩
 obtain⟨sz2,y0,y1,ey⟩:=hsz
 rw[qe (by exact ey)]
 rw[qe (qm (d:=.lst []) (by simp[-zac,-zad,qb,qg]))]
 have r19:qaN [.int 19,.int (19+sz2)]=some (qF 19 1 (19+sz2-19).toNat):=qaT (by decide) (by decide) (by omega) (by omega)
 refine qaZ (items:=qF 19 1 (19+sz2-19).toNat) (by simp_all[r19]) (λi ρ=>∃(ms:List Mk) (o7 o9 o10 o11 o12 o13 o14:Option D),ρ=[some (.int M),some (.lst (ss.map seD)),some (.lst (ns.map .int)),some (.int many),some (.lst ([a,b,c,d].map .int)),some (.lst [.str (N 0),.str (N 1),.str (N 2)]),some (.bl al),o7,some (.lst (ms.map mkD)),o9,o10,o11,o12,o13,o14]/\ms.length=i/\∀m∈ms,OkM many 6 m) ⟨[],some (.int sz2),none,none,none,none,none,none,by simp[-zac,-zad,qb,qg],rfl,λ_ h=>nomatch h⟩ ?_ ?_
 ·rintro i x ρ hx ⟨ms,o7,o9,o10,o11,o12,o13,o14,rfl,hi,hms⟩
  obtain⟨hlt,rfl⟩:=qK hx
  have hI:19<=(19:Int)+(i:Int)*1/\(19:Int)+(i:Int)*1<=24:=by omega
  generalize (19:Int)+(i:Int)*1=I at hI
  have fI:=hf I (by omega) (by omega)
  generalize f I=x at fI
  have hz:szOk ms.length=true:=decide_eq_true (by omega)
  have tk:∃tk:List Int,((∃t,tk=[t])\/∃t u,tk=[t,u])/\(∀t∈tk,0<=t/\t<many)/\∀ {ρ:Rho},eVar 10 ρ=some (.int x)->eVar 3 ρ=some (.int many)->(eSl dSlA (eTup (qz (eOp dMod (eOp dDiv (eVar 10) (eC (.int 3))) (eVar 3)) (qz (eOp dMod (eOp dDiv (eVar 10) (eC (.int 18))) (eVar 3)) lNil))) qli (qly (eOp qav (eC (.int 1)) (qT dInt (qz (eOp dGtI (eOp dMod (eVar 10) (eC (.int 3))) (eC (.int 0))) lNil))))) ρ=some (tupI tk):=by
   by_cases h:0<x%3
   ·refine⟨[x/3%many,x/18%many],.inr ⟨_,_,rfl⟩,λt ht=>?_,λh1 h2=>by simp_all[-q_var,h1,h2,qae,qD mp,qD (show(0:Int)<3 by decide),h,cut2,tupI]⟩
    simp only[zaK,zaL,or_false]at ht
    rcases ht with rfl|rfl <;> exact mm _
   ·refine⟨[x/3%many],.inl ⟨_,rfl⟩,λt ht=>?_,λh1 h2=>by simp_all[-q_var,h1,h2,qae,qD mp,qD (show(0:Int)<3 by decide),h,cut2,tupI]⟩
    rw[List.mem_singleton.mp ht];exact mm _
  obtain⟨tk,htk,htb,etk⟩:=tk
  have gb:=mm (x/108)
  have eg:dMod (.int (x/108)) (.int many)=some (.int (x/108%many)):=qD mp
  generalize x/108%many=g at gb eg
  have hn:∃n:Int,(n=0\/n=1)/\∀ {o7 o8 o9 o11 o12 o13 o14:Option D},sSeq (sSet 13 (eOp dDiv (eOp dMod (eOp dDiv (eVar 10) (eC (.int 648))) (eC (.int 4))) (eC (.int 3)))) (sIf (bOf (eVar 6)) (sSet 13 (eC (.int 0))) sNx) [some (.int M),some (.lst (ss.map seD)),some (.lst (ns.map .int)),some (.int many),some (.lst ([a,b,c,d].map .int)),some (.lst [.str (N 0),.str (N 1),.str (N 2)]),some (.bl al),o7,o8,o9,some (.int x),o11,o12,o13,o14]=some (.nx [some (.int M),some (.lst (ss.map seD)),some (.lst (ns.map .int)),some (.int many),some (.lst ([a,b,c,d].map .int)),some (.lst [.str (N 0),.str (N 1),.str (N 2)]),some (.bl al),o7,o8,o9,some (.int x),o11,o12,some (.int n),o14]):=by
   cases al with
   | true=>exact⟨0,.inl rfl,by simp_all[qae,qD]⟩
   | false=>
    have:=zar (x/648) (show(4:Int)≠0 by decide)
    have:=zas (x/648) (show(0:Int)<4 by decide)
    exact⟨x/648%4/3,by omega,by simp_all[qae,qD]⟩
  obtain⟨n,hn,en⟩:=hn
  have es:∀ {g h k:Sv} {ρ:Rho},sSeq g (sSeq h k) ρ=sSeq (sSeq g h) k ρ:=by
   intro g h k ρ
   unfold sSeq
   cases g ρ with
   | none=>rfl
   | some o=>cases o <;> rfl
  have w0:=zar (x/2592) (show(1000000000000000000000000000000:Int)≠0 by decide)
  have w1:=zas (x/2592) (show(0:Int)<1000000000000000000000000000000 by decide)
  have pw:dPow (.int 10) (.int 30)=some (.int 1000000000000000000000000000000):=qit (by decide) (by decide) (by decide)
  have dm:dMod (.int (x/2592)) (.int 1000000000000000000000000000000)=some (.int (x/2592%1000000000000000000000000000000)):=qD (by decide)
  generalize x/2592%1000000000000000000000000000000=p at w0 w1 dm
  have so:∃(so:List Int) (u v:List D),(∃a b c d:Int,so=[a,b,c,d])/\(∀x∈so,0<=x/\x<=M)/\cutD [D.int a,.int b,.int c,.int d] (some n) none=u/\cutD [D.int a,.int b,.int c,.int d] none (some n)=v/\u++v=so.map .int/\szOk (u.length+v.length)=true:=by
   rcases hn with rfl|rfl
   ·refine⟨[a,b,c,d],_,_,⟨_,_,_,_,rfl⟩,λy hy=>?_,rfl,rfl,rfl,rfl⟩
    simp only[zaK,zaL,or_false]at hy
    rcases hy with rfl|rfl|rfl|rfl <;> assumption
   ·refine⟨[b,c,d,a],_,_,⟨_,_,_,_,rfl⟩,λy hy=>?_,rfl,rfl,rfl,rfl⟩
    simp only[zaK,zaL,or_false]at hy
    rcases hy with rfl|rfl|rfl|rfl <;> assumption
  obtain⟨so,u,v,hso,hsb,cu,cv,euv,zuv⟩:=so
  obtain⟨ts,ets,tl,tt⟩:=qgx (g:=g) h3 h60 hl hs htk htb gb.1 gb.2 hso hsb
  refine⟨[some (.int M),some (.lst (ss.map seD)),some (.lst (ns.map .int)),some (.int many),some (.lst ([a,b,c,d].map .int)),some (.lst [.str (N 0),.str (N 1),.str (N 2)]),some (.bl al),o7,some (.lst ((ms++[(⟨N n,tk,g,ts,p⟩:Mk)]).map mkD)),some (.int I),some (.int x),some (tupI tk),some (.int g),some (.int n),some (.lst (ts.map tmD))],?_,_,_,_,_,_,_,_,_,rfl,by simp_all[hi],app1 hms ⟨?_,?_,htk,htb,gb,tl,tt,w0,by show p<=_;omega⟩⟩
  ·show(qx 9 _ _).bind _=_
   rw[q_name,qb,qe (qm (d:=.int x) (by simp_all[fI]))]
   rw[qe (qm (d:=tupI tk) (etk rfl rfl))]
   rw[qe (qm (d:=.int g) (by simp_all[qae,eg]))]
   rw[es,qe (by exact en)]
   rw[qe (qm (d:=.lst (ts.map tmD)) (by simp_all[cu,cv,euv,zuv,ets]))]
   have an:atI [D.str (N 0),.str (N 1),.str (N 2)] n=some (.str (N n)):=by rcases hn with rfl|rfl <;> rfl
   simp_all[an,qae,pw,dm,hz,mkD]
  ·rw[<- hN];exact qp8 (by omega) (by omega)
  ·rw[<- hN];exact(qi6 _ _).2
 ·rintro ρ ⟨ms,o7,o9,o10,o11,o12,o13,o14,rfl,hi,hms⟩
  rw[qJ]at hi
  exact⟨_,by simp[-zac,-zad,qb,qg],ms,rfl,by omega,hms⟩
theorem OkM.mono{many:Int}{n k:Nat}{m:Mk}(h:OkM many n m)(l:n<=k):OkM many k m:=⟨h.nm,h.nl,h.tk,h.tb,h.gv,zaY h.tl l,h.tt,h.pr⟩
theorem spl{α:Type}{P:α->Prop}{l:List α}{x:α}{n m:Nat}(h:∀y∈l,P y)(k:P x):∀y∈l.take n++x::l.drop m,P y:=λy hy=>by
 rcases List.mem_append.mp hy with z|z
 ·exact h y (List.mem_of_mem_take z)
 ·rcases List.mem_cons.mp z with z|z
  ·rw[z];exact k
  ·exact h y (List.mem_of_mem_drop z)
theorem qej{M many cell:Int}{rs:List Ro}{ms:List Mk}(h3:3<=M)(h60:M<10^60)(hr:rs.length<=12)(hro:∀r∈rs,OkR many r)(hm:ms.length<=5)(hmo:∀m∈ms,OkM many 6 m) :
  ∃(rs':List Ro) (ms':List Mk),qbN [.int M,.int cell,.lst (rs.map rdD),.lst (ms.map mkD)]=some (.tup [.lst (rs'.map rdD),.lst (ms'.map mkD)])/\(rs'.length<=12/\∀r∈rs',OkR many r)/\ms'.length<=5/\∀m∈ms',OkM many 7 m:=by
 have hmo':∀m∈ms,OkM many 7 m:=λm h=>(hmo m h).mono (by decide)
 have Mp:0<M:=by omega
 have Mq:0<M-1:=by omega
 have d4:dMod (.int cell) (.int 4)=some (.int (cell%4)):=qD (by decide)
 have ct:∀ {w:List D} {c:Int},0<=c->c<=(w.length:Int)->cutD w none (some c)=w.take c.toNat:=λa b=>(qgZ a b).1
 have cd:∀ {w:List D} {c:Int},0<=c->c<=(w.length:Int)->cutD w (some c) none=w.drop c.toNat:=λa b=>(qgZ a b).2
 by_cases h1:cell%4=1/\0<rs.length
 ·have lp:(0:Int)<(rs.length:Int):=by omega
  have a0:=zar (cell/4) (zaP lp)
  have a1:=zas (cell/4) lp
  have da:dMod (.int (cell/4)) (.int (rs.length:Int))=some (.int (cell/4%(rs.length:Int))):=qD lp
  generalize cell/4%(rs.length:Int)=at_ at a0 a1 da
  have hat:∃r∈rs,atI (rs.map rdD) at_=some (rdD r):=by
   obtain⟨d,hd,_,e⟩:=qn2 (l:=rs.map rdD) (k:=at_) a0 (by rw[zan];exact a1)
   obtain⟨s,hs,rfl⟩:=List.mem_map.mp hd
   exact⟨s,hs,e⟩
  obtain⟨r,hrm,er⟩:=hat
  have ok:=hro r hrm
  have c1:=ct (w:=rs.map rdD) (c:=at_) a0 (by rw[zan];omega)
  have c2:=cd (w:=rs.map rdD) (c:=at_+1) (by omega) (by rw[zan];omega)
  have ln:(rs.take at_.toNat).length=at_.toNat:=by rw[zbM];omega
  have ld:(rs.drop (at_+1).toNat).length=rs.length-(at_+1).toNat:=List.length_drop ..
  have z1:szOk (at_.toNat+1)=true:=decide_eq_true (by omega)
  have z2:szOk (at_.toNat+1+(rs.length-(at_+1).toNat))=true:=decide_eq_true (by omega)
  have mn:min at_.toNat rs.length=at_.toNat:=by omega
  have len:∀x:Ro,(rs.take at_.toNat++x::rs.drop (at_+1).toNat).length<=12:=λx=>by
   rw[za8,zaT,ln,ld];omega
  by_cases h2:cell/40%2=1
  ·refine⟨rs.take at_.toNat++(⟨r.j,r.k,r.a,(r.b+1+cell/80%(M-1))%M,r.p⟩:Ro)::rs.drop (at_+1).toNat,ms,qG ?_,⟨len _,spl hro ⟨ok.1,ok.2.1,ok.2.2.1,ok.2.2.2.1,Bd.mod Mp h60⟩⟩,hm,hmo'⟩
   simp_all[qO,qd,d4,h1,qae,da,er,rdD,qb9,qD (show(0:Int)<2 by decide),h2,qD Mp,qD Mq,c1,c2,z1,z2,mn]
  ·refine⟨rs.take at_.toNat++(⟨r.j,r.k,(r.a+1+cell/80%(M-1))%M,r.b,r.p⟩:Ro)::rs.drop (at_+1).toNat,ms,qG ?_,⟨len _,spl hro ⟨ok.1,ok.2.1,ok.2.2.1,Bd.mod Mp h60,ok.2.2.2.2⟩⟩,hm,hmo'⟩
   simp_all[qO,qd,d4,h1,qae,da,er,rdD,qb9,qD (show(0:Int)<2 by decide),h2,qD Mp,qD Mq,c1,c2,z1,z2,mn]
 ·by_cases h2:cell%4=3/\0<ms.length
  ·have lp:(0:Int)<(ms.length:Int):=by omega
   have a0:=zar (cell/4) (zaP lp)
   have a1:=zas (cell/4) lp
   have da:dMod (.int (cell/4)) (.int (ms.length:Int))=some (.int (cell/4%(ms.length:Int))):=qD lp
   generalize cell/4%(ms.length:Int)=at_ at a0 a1 da
   have hat:∃r∈ms,atI (ms.map mkD) at_=some (mkD r):=by
    obtain⟨d,hd,_,e⟩:=qn2 (l:=ms.map mkD) (k:=at_) a0 (by rw[zan];exact a1)
    obtain⟨s,hs,rfl⟩:=List.mem_map.mp hd
    exact⟨s,hs,e⟩
   obtain⟨m,hmm,em⟩:=hat
   have ok:=hmo m hmm
   have c1:=ct (w:=ms.map mkD) (c:=at_) a0 (by rw[zan];omega)
   have c2:=cd (w:=ms.map mkD) (c:=at_+1) (by omega) (by rw[zan];omega)
   have ln:(ms.take at_.toNat).length=at_.toNat:=by rw[zbM];omega
   have ld:(ms.drop (at_+1).toNat).length=ms.length-(at_+1).toNat:=List.length_drop ..
   have z1:szOk (at_.toNat+1)=true:=decide_eq_true (by omega)
   have z2:szOk (at_.toNat+1+(ms.length-(at_+1).toNat))=true:=decide_eq_true (by omega)
   have z3:szOk (m.ts.length+1)=true:=decide_eq_true (by have:=ok.tl;omega)
   have mn:min at_.toNat ms.length=at_.toNat:=by omega
   have len:∀x:Mk,(ms.take at_.toNat++x::ms.drop (at_+1).toNat).length<=5:=λx=>by
    rw[za8,zaT,ln,ld];omega
   have x0:=zar (cell/40) (show(3:Int)≠0 by decide)
   have x1:=zas (cell/40) (show(0:Int)<3 by decide)
   have y0:=zar (cell/120) (show(3:Int)≠0 by decide)
   have y1:=zas (cell/120) (show(0:Int)<3 by decide)
   have m3:∀ {x:Int},dMod (.int x) (.int 3)=some (.int (x%3)):=qD (by decide)
   have n1:¬ cell%4=1:=by omega
   have bd1:Bd 61 (1+cell/360%(M-1)):=by
    have u0:=zar (cell/360) (zaP Mq)
    have u1:=zas (cell/360) Mq
    exact(Bd.of h60 ⟨by omega,by omega⟩).mono (by decide)
   rcases ok.tk with⟨t,et⟩|⟨t,u,et⟩
   ·have okT:OkT m.tk.length ([cell/40%3],1+cell/360%(M-1)):=⟨by rw[et];rfl,λe he=>by
     rw[List.mem_singleton.mp he];omega,bd1⟩
    refine⟨rs,ms.take at_.toNat++(⟨m.nm,m.tk,m.gv,m.ts++[([cell/40%3],1+cell/360%(M-1))],m.p⟩:Mk)::ms.drop (at_+1).toNat,qG ?_,⟨hr,hro⟩,len _,spl hmo' ⟨ok.nm,ok.nl,ok.tk,ok.tb,ok.gv,?_,app1 ok.tt okT,ok.pr⟩⟩
    ·simp_all[qO,qd,d4,h2,n1,qae,da,em,mkD,tmD,tupI,qb9,et,m3,qD Mp,qD Mq,c1,c2,z1,z2,z3,mn]
    ·show(m.ts++[_]).length<=7
     rw[za8];have:=ok.tl;simp[-zac,-zad,qb,qg];omega
   ·have okT:OkT m.tk.length ([cell/40%3,cell/120%3],1+cell/360%(M-1)):=⟨by rw[et];rfl,λe he=>by
     simp only[zaK,zaL,or_false]at he
     rcases he with rfl|rfl <;> omega,bd1⟩
    refine⟨rs,ms.take at_.toNat++(⟨m.nm,m.tk,m.gv,m.ts++[([cell/40%3,cell/120%3],1+cell/360%(M-1))],m.p⟩:Mk)::ms.drop (at_+1).toNat,qG ?_,⟨hr,hro⟩,len _,spl hmo' ⟨ok.nm,ok.nl,ok.tk,ok.tb,ok.gv,?_,app1 ok.tt okT,ok.pr⟩⟩
    ·simp_all[qO,qd,d4,h2,n1,qae,da,em,mkD,tmD,tupI,qb9,et,m3,qD Mp,qD Mq,c1,c2,z1,z2,z3,mn]
    ·show(m.ts++[_]).length<=7
     rw[za8];have:=ok.tl;simp[-zac,-zad,qb,qg];omega
  ·refine⟨rs,ms,qG ?_,⟨hr,hro⟩,hm,hmo'⟩
   have g1:∀ {k n:Int} {b:Prop} [Decidable b],True:=trivial
   by_cases e1:cell%4=1
   ·have l0:¬ 0<rs.length:=λz=>h1 ⟨e1,z⟩
    simp_all[qO,qd,d4,e1,l0]
   ·by_cases e3:cell%4=3
    ·have l0:¬ 0<ms.length:=λz=>h2 ⟨e3,z⟩
     simp_all[qO,qd,d4,e3,l0]
    ·simp_all[qO,qd,d4,e1,e3]
noncomputable def nmsD(c:Int)(n:Nat):List D:=(zav n).map λ(k:Nat)=>.str (nmS c (k:Int))
theorem qa0(c:Int)(n:Nat):(nmsD c n).length=n:=by simp_all[nmsD]
theorem qhF(ns:List Int):∃(M c:Int) (n:Nat) (rs:List Ro) (ms:List Mk),qb8 [.lst (ns.map .int)]=some (.tup [.int M,.lst (nmsD c n),.lst (rs.map rdD),.lst (ms.map mkD)])/\(3<=M/\M<10^60/\M%2=1)/\(1<=n/\n<=6)/\(rs.length<=12/\∀r∈rs,OkR (n:Int) r)/\ms.length<=5/\∀m∈ms,OkM (n:Int) 7 m:=by
 obtain⟨f,hf⟩:=qbt ns
 have f0:=hf 0 (by decide) (by decide)
 have f1:=hf 1 (by decide) (by decide)
 have f2:=hf 2 (by decide) (by decide)
 have f29:=hf 29 (by decide) (by decide)
 have f30:=hf 30 (by decide) (by decide)
 have p60:(10:Int)^60=1000000000000000000000000000000000000000000000000000000000000:=by decide +kernel
 have pw:dPow (.int 10) (.int 59)=some (.int 100000000000000000000000000000000000000000000000000000000000):=qit (by decide) (by decide) (by decide +kernel)
 have x0:=zar (f 1) (show(100000000000000000000000000000000000000000000000000000000000:Int)≠0 by decide)
 have x1:=zas (f 1) (show(0:Int)<100000000000000000000000000000000000000000000000000000000000 by decide)
 have dx:dMod (.int (f 1)) (.int 100000000000000000000000000000000000000000000000000000000000)=some (.int (f 1%100000000000000000000000000000000000000000000000000000000000)):=qD (by decide)
 generalize f 1%100000000000000000000000000000000000000000000000000000000000=x at x0 x1 dx
 have y0:=zar (f 1) (show(4:Int)≠0 by decide)
 have y1:=zas (f 1) (show(0:Int)<4 by decide)
 have dy:dMod (.int (f 1)) (.int 4)=some (.int (f 1%4)):=qD (by decide)
 generalize f 1%4=y at y0 y1 dy
 have m1:qak (.int 2) (.int x)=some (.int (2*x)):=qax (by decide +kernel) (by decide +kernel) (by omega) (by omega)
 have m2:qak (.int 2) (.int y)=some (.int (2*y)):=qax (by decide +kernel) (by decide +kernel) (by omega) (by omega)
 suffices h:∃d,qb8 [.lst (ns.map .int)]=some d/\∃(M c:Int) (n:Nat) (rs:List Ro) (ms:List Mk),d=.tup [.int M,.lst (nmsD c n),.lst (rs.map rdD),.lst (ms.map mkD)]/\(3<=M/\M<10^60/\M%2=1)/\(1<=n/\n<=6)/\(rs.length<=12/\∀r∈rs,OkR (n:Int) r)/\ms.length<=5/\∀m∈ms,OkM (n:Int) 7 m by
  obtain⟨d,e,M,c,n,rs,ms,rfl,h⟩:=h;exact⟨M,c,n,rs,ms,e,h⟩
 refine qaF ?_
 unfold qd9
 rw[qe (qm (d:=.int (3+2*x)) (by simp_all[qd,f1,pw,dx,m1]))]
 refine qfM (λρ=>∃M:Int,ρ=[some (.lst (ns.map .int)),some (.int M),none,none,none,none]/\3<=M/\M<10^60/\M%2=1) ?_ ?_
 ·by_cases h:f 0%4=0
  ·exact⟨_,by simp_all[qd,f0,f1,qD (i:=f 0),h,dy,m2],3+2*y,rfl,by omega,by omega,by omega⟩
  ·exact⟨_,by simp_all[qd,f0,qD (i:=f 0),h],3+2*x,rfl,by omega,by omega,by omega⟩
 rintro ρ ⟨M,rfl,h3,h60,hodd⟩
 have v0:=zar (f 2) (show(4:Int)≠0 by decide)
 have v1:=zas (f 2) (show(0:Int)<4 by decide)
 rw[qe (qm (d:=.int (1+f 2%4)) (by simp_all[f2,qD]))]
 refine qfM (λρ=>∃many:Int,ρ=[some (.lst (ns.map .int)),some (.int M),some (.int many),none,none,none]/\1<=many/\many<=6) ?_ ?_
 ·by_cases h:f 2/4%8=1
  ·exact⟨_,by simp_all[f2,qae,qD,h],6,rfl,by decide,by decide⟩
  ·exact⟨_,by simp_all[f2,qae,qD,h],1+f 2%4,rfl,by omega,by omega⟩
 rintro ρ ⟨many,rfl,hm1,hm6⟩
 obtain⟨ss,es,hl,hs⟩:=qfZ (ns:=ns) h3 h60 ⟨hm1,hm6⟩
 obtain⟨rs,er,hr,hro⟩:=qgn (ns:=ns) h3 h60 ⟨hm1,hm6⟩ hl hs
 obtain⟨ms,em,hm,hmo⟩:=qf3 (ns:=ns) h3 h60 ⟨hm1,hm6⟩ hl hs
 obtain⟨rs',ms',e2,hr',hm',hmo'⟩:=qej (cell:=f 29) h3 h60 hr hro hm hmo
 rw[qe (qm (d:=.lst (ss.map seD)) (by simp_all[es]))]
 rw[qe (qm (d:=.lst (rs.map rdD)) (by simp_all[er]))]
 have en:=qc0 (c:=f 30) (many:=many) (by omega) hm6
 have ec:((many.toNat:Nat):Int)=many:=by omega
 refine⟨_,?_,M,f 30,many.toNat,rs',ms',rfl,⟨h3,h60,hodd⟩,by omega,by rw[ec];exact hr',hm',by rw[ec];exact hmo'⟩
 rw[qe (ρ':=[some (.lst (ns.map .int)),some (.int M),some (.int many),some (.lst (ss.map seD)),some (.lst (rs'.map rdD)),some (.lst (ms'.map mkD))]) (by simp_all[f29,em,e2,qb9])]
 simp_all[f30,en,nmsD]
theorem qeC{n:Nat}{f:Sv}{ds:List D}(h:∃ρ,f (qd n ds)=some (.nx ρ)):runD n f ds=some .non:=by
 obtain⟨ρ,e⟩:=h;exact qpe e
theorem qjH{f:Lv}{g:Gv}{b:Sv}{ρ:Rho}{items:List D}(hf:f ρ=some items)(I:Nat->Rho->Prop)(h0:I 0 ρ)(hs:∀i x ρ,items[i]?=some x->I i ρ->∃ρ',turn g b x ρ=some (.nx ρ')/\I (i+1) ρ'):∃ρ',sFor f g b ρ=some (.nx ρ'):=by
 obtain⟨ρ',e,_⟩:=qbb (g:=g) (b:=b) I h0 hs
 exact⟨ρ',by rw[q_for,hf,qb];exact e⟩
theorem qjP{f:Lv}{g:Gv}{b rest:Sv}{ρ:Rho}{items:List D}(hf:f ρ=some items)(I:Nat->Rho->Prop)(h0:I 0 ρ)(hs:∀i x ρ,items[i]?=some x->I i ρ->∃ρ',turn g b x ρ=some (.nx ρ')/\I (i+1) ρ')(k:∀ρ',I items.length ρ'->∃ρ'',rest ρ'=some (.nx ρ'')):∃ρ',sSeq (sFor f g b) rest ρ=some (.nx ρ'):=by
 obtain⟨ρ',e,i⟩:=qbb (g:=g) (b:=b) I h0 hs
 obtain⟨ρ'',e2⟩:=k ρ' i
 exact⟨ρ'',by rw[qe (ρ':=ρ') (by rw[q_for,hf,qb];exact e)];exact e2⟩
theorem qhE{c:Int}:qdU [.int c]=some (.bl true):=by
 refine qG ?_
 simp_all[qdZ,qd]
theorem qnH{M:Int}(h3:3<=M)(h60:M<10^60)(ho:M%2=1):qi9 [.int M]=some (.int M):=by
 refine qG ?_
 have pw:dPow (.int 10) (.int 60)=some (.int (10^60)):=qit (by decide) (by decide) (by decide +kernel)
 have a:¬ M<3:=by omega
 have b:¬ 10^60<M:=by omega
 unfold qjg
 simp only[Int.reducePow]at pw b
 simp_all[qd,qhE,a,pw,b,qD,ho]
theorem qdt{p:Int}(h0:0<=p)(h:p<=10^30):qcb [.int p]=some (.bl true):=by
 refine qG ?_
 have pw:dPow (.int 10) (.int 30)=some (.int (10^30)):=qit (by decide) (by decide) (by decide +kernel)
 simp only[Int.reducePow]at pw h
 simp_all[qdR,qd,qbB,pw,h0,h]
theorem V_on{M n:Int}(h:0<M):B_on [.int M,.int n]=some (.int (n%M)):=by
 refine qG ?_
 simp_all[b_on,qd,qD h]
open Classical in
theorem qgE(x:Str):∀l:List Str,(l.map D.str).any (λd=>decide (d=.str x))=l.contains x
 | []=>rfl
 | y::l=>by
  rw[zak,zbe,qgE x l,List.contains_cons]
  congr 1
  by_cases h:y=x
  ·subst h;simp[-zac,-zad,qb,qg]
  ·have h2:¬ x=y:=λz=>h z.symm
   have h3:¬ D.str y=D.str x:=λz=>h (by injection z)
   rw[decide_eq_false h3]
   simp_all[h2]
theorem all_strs:∀l:List Str,(l.map D.str).all eqOk=true
 | []=>rfl
 | _::l=>by rw[zak,List.all_cons,all_strs l];rfl
theorem qnS(x:Str)(l:List Str):dInA (.str x) (.lst (l.map D.str))=some (.bl (l.contains x)):=by
 show dIn (.str x) (.lst (l.map D.str))=_
 unfold dIn dInB
 dsimp only
 rw[if_pos ⟨rfl,all_strs l⟩,qgE]
 rfl
noncomputable def nmsS(c:Int)(n:Nat):List Str:=(zav n).map λ(k:Nat)=>nmS c (k:Int)
theorem qol(c:Int)(n:Nat):nmsD c n=(nmsS c n).map D.str:=by unfold nmsD nmsS;rw[zaB];rfl
theorem qec{c:Int}{n:Nat}(h1:1<=n)(h6:n<=6):qby [.lst (nmsD c n)]=some .non:=by
 refine qeC ?_
 unfold qbq
 have hz:szOk n=true:=decide_eq_true (by omega)
 have a:¬ (n:Int)<1:=by omega
 have b:¬ 6<(n:Int):=by omega
 rw[qe (ρ':=qd 3 [.lst (nmsD c n)]) (by simp_all[qd,qa0,a,b])]
 refine qjH (items:=qb4 0 (nmsD c n)) (by simp_all[qd]) (λi ρ=>∃o1 o2,ρ=[some (.lst (nmsD c n)),o1,o2]) ⟨none,none,rfl⟩ ?_
 rintro i x ρ hx ⟨o1,o2,rfl⟩
 obtain⟨y,hy,rfl⟩:=qbF hx
 have hi:i<n:=by have:=(List.getElem?_eq_some_iff.mp hy).1;rw[qa0]at this;exact this
 have ey:y=.str (nmS c (i:Int)):=by
  unfold nmsD at hy
  rw[zax,List.getElem?_range hi]at hy
  exact(zaA hy).symm
 subst ey
 have vn:=qe1 (x:=nmS c (i:Int)) (by have:=(qi6 c (i:Int)).2;omega)
 rw[qp8 (by omega) (by omega)]at vn
 have ct:=(qgZ (w:=nmsD c n) (c:=(i:Int)) (by omega) (by rw[qa0];omega)).1
 have tk:(nmsD c n).take i=(nmsS c i).map D.str:=by
  rw[<- qol]
  unfold nmsD
  rw[<- List.map_take,List.take_range,Nat.min_eq_left (by omega)]
 have ni:(nmsS c i).contains (nmS c (i:Int))=false:=by
  rw[<- Bool.not_eq_true,List.contains_iff_mem]
  intro hm
  obtain⟨k,hk,e⟩:=List.mem_map.mp hm
  have hk:=List.mem_range.mp hk
  have:=qp7 (c:=c) (k:=(k:Int)) (m:=(i:Int)) (by omega) (by omega) (by omega) (by omega) e
  omega
 have inn:=qnS (nmS c (i:Int)) (nmsS c i)
 rw[ni]at inn
 rw[Nat.zero_add]
 refine⟨[some (.lst (nmsD c n)),some (.int (i:Int)),some (.str (nmS c (i:Int)))],?_,_,_,rfl⟩
 simp_all[turn,vn,ct,tk,inn]
noncomputable def red(M:Int)(r:Ro):Ro:=⟨r.j,r.k,r.a%M,r.b%M,r.p⟩
theorem qhS{M:Int}{n:Nat}{rs:List Ro}(h3:3<=M)(hl:rs.length<=12)(hr:∀r∈rs,OkR (n:Int) r):qdu [.int M,.int (n:Int),.lst (rs.map rdD)]=some (.tup ((rs.map (red M)).map rdD)):=by
 have Mp:0<M:=by omega
 have hz:szOk rs.length=true:=decide_eq_true (by omega)
 have b:(rs.length:Int)<=12:=by omega
 refine qG ?_
 unfold qdK
 rw[qe (ρ':=qd 9 [.int M,.int (n:Int),.lst (rs.map rdD)]) (by simp_all[qd,b])]
 rw[qe (qm (d:=.lst []) (by simp[-zac,-zad,qb,qg]))]
 refine qar (items:=rs.map rdD) (by simp_all[qd]) (λi ρ=>∃o4 o5 o6 o7 o8,ρ=[some (.int M),some (.int (n:Int)),some (.lst (rs.map rdD)),some (.lst (((rs.take i).map (red M)).map rdD)),o4,o5,o6,o7,o8]) ⟨none,none,none,none,none,by simp_all[qd]⟩ ?_ ?_
 ·rintro i x ρ hx ⟨o4,o5,o6,o7,o8,rfl⟩
  rw[zax]at hx
  obtain⟨r,hri,rfl⟩:=map_some hx
  obtain⟨⟨j0,jk,kn⟩,p0,p1,_⟩:=hr r (zaH hri)
  have vp:=qdt p0 p1
  have hi:i<rs.length:=(List.getElem?_eq_some_iff.mp hri).1
  have hz2:szOk (min i rs.length)=true:=decide_eq_true (by omega)
  refine⟨[some (.int M),some (.int (n:Int)),some (.lst (rs.map rdD)),some (.lst (((rs.take (i+1)).map (red M)).map rdD)),some (.int r.j),some (.int r.k),some (.int r.a),some (.int r.b),some (.int r.p)],?_,_,_,_,_,_,rfl⟩
  rw[zbs,hri]
  simp_all[turn,rdD,red,j0,jk,kn,vp,V_on Mp,hz2,qef]
 ·rintro ρ ⟨o4,o5,o6,o7,o8,rfl⟩
  rw[zan,zbS]
  simp_all[qch]
theorem qcc{n:Nat}{k:List Int}(h:k.length=n)(h2:∀e∈k,0<=e/\e<=2):qaE [.int (n:Int),tupI k]=some .non:=by
 refine qeC ?_
 unfold qaI
 rw[qe (ρ':=qd 3 [.int (n:Int),tupI k]) (by simp_all[qd,tupI,h])]
 refine qjH (items:=k.map .int) (by simp_all[qd,tupI]) (λi ρ=>∃o,ρ=[some (.int (n:Int)),some (tupI k),o]) ⟨none,rfl⟩ ?_
 rintro i x ρ hx ⟨o,rfl⟩
 rw[zax]at hx
 obtain⟨e,he,rfl⟩:=map_some hx
 have:=h2 e (zaH he)
 exact⟨[some (.int (n:Int)),some (tupI k),some (.int e)],by simp_all[turn,show ¬ e<0 by omega,show ¬ 8<e by omega],_,rfl⟩
theorem qe0{M:Int}(h0:0<M){ρ1 ρ2:Option D}:∀(qs:List My.Tm) (o1 o2:Option D),qau (qaQ 2 (qL (qx 0) (qL (qx 1) qa8))) (bOf (eOp dNe (qT B_on (qz (eVar 2) (qz (eVar 1) lNil))) (eC (.int 0)))) (eTup (qz (eVar 0) (qz (qT B_on (qz (eVar 2) (qz (eVar 1) lNil))) lNil))) (qs.map tmD) [o1,o2,some (.int M)]=some ((My.qU M qs).map tmD)
 | [],o1,o2=>rfl
 | t::qs,o1,o2=>by
  have ih:=qe0 h0 (ρ1:=ρ1) (ρ2:=ρ2) qs (some (tupI t.1)) (some (.int t.2))
  rw[zak,qau]
  by_cases e:t.2%M=0
  ·simp[-zac,-zad,qb,qg,tmD,V_on h0,e,My.qU]at ih ⊢
   exact ih
  ·simp[-zac,-zad,qb,qg,tmD,V_on h0,e,My.qU]at ih ⊢
   rw[ih]
   simp_all[tmD]
theorem qfg{α:Type}(l:List (List Int×α)):(qQ l).length=l.length:=(qY l).length_eq
theorem qbE{M:Int}{cs:List My.Tm}(h0:0<M)(h:cs.length<64):qaD [.int M,.dT (cs.map kD)]=some (.tup ((My.qU M (qQ cs)).map tmD)):=by
 refine qG ?_
 have e:=qe0 h0 (ρ1:=none) (ρ2:=none) (qQ cs) none none
 have hz:szOk (qQ cs).length=true:=decide_eq_true (by rw[qfg];omega)
 simp_all[qe3,qd,qhD h,inS,e,hz]
theorem V_form{M:Int}{n:Nat}{ts:List My.Tm}(h0:0<M)(hn:n=1\/n=2)(hl:ts.length<=7)(hg:∀t∈ts,OkT n t):qe5 [.int M,.int (n:Int),.lst (ts.map tmD)]=some (.tup ((My.qU M (qQ (My.qZ ts))).map tmD)):=by
 refine qG ?_
 unfold qlI
 rw[qe (ρ':=qd 6 [.int M,.int (n:Int),.lst (ts.map tmD)]) (by rcases hn with rfl|rfl <;> simp_all[qd])]
 rw[qe (ρ':=[some (.int M),some (.int (n:Int)),some (.lst (ts.map tmD)),some (.dT []),none,none]) (by simp_all[qd])]
 refine qar (items:=ts.map tmD) (by simp[-zac,-zad,qb,qg]) (λi ρ=>∃o4 o5,ρ=[some (.int M),some (.int (n:Int)),some (.lst (ts.map tmD)),some (.dT ((My.qZ (ts.take i)).map kD)),o4,o5]) ⟨none,none,rfl⟩ ?_ ?_
 ·rintro i x ρ hx ⟨o4,o5,rfl⟩
  rw[zax]at hx
  obtain⟨t,ht,rfl⟩:=map_some hx
  obtain⟨g1,g2,_⟩:=hg t (zaH ht)
  have es:My.qZ (ts.take (i+1))=My.add1 (My.qZ (ts.take i)) t:=by rw[zbs,ht];exact My.qid _ _
  have hlen:(My.qZ (ts.take i)).length<=1000000:=by
   have:=(My.qca (ts.take i)).1
   rw[zbM]at this
   omega
  have vc:=qcc g1 g2
  refine⟨[some (.int M),some (.int (n:Int)),some (.lst (ts.map tmD)),some (.dT ((My.qZ (ts.take (i+1))).map kD)),some (tupI t.1),some (.int t.2)],?_,_,_,rfl⟩
  have hp:=qjU (cs:=My.qZ (ts.take i)) t.1 ((My.look (My.qZ (ts.take i)) t.1).getD 0+t.2) hlen
  cases e:My.look (My.qZ (ts.take i)) t.1 with
  | none=>simp[-zac,-zad,qb,qg,turn,tmD,vc,e,es,My.add1]at hp ⊢;simp_all[hp]
  | some v=>simp[-zac,-zad,qb,qg,turn,tmD,vc,e,es,My.add1]at hp ⊢;simp_all[hp]
 ·rintro ρ ⟨o4,o5,rfl⟩
  have hs:(My.qZ ts).length<64:=by have:=(My.qca ts).1;omega
  rw[zan,zbS]
  simp_all[qbE h0 hs]
theorem qjw:∀(k:List Int) (m:Int),(∀e∈k,0<=e/\e<=2)->m<=2->k.foldl (λm y=>if y>m then y else m) m<=2
 | [],m,_,h=>h
 | e::k,m,h,hm=>by
  rw[zbV]
  refine qjw k _ (λx hx=>h x (zaz _ hx)) ?_
  have:=(h e (zay ..)).2
  split <;> omega
theorem qmY{k:List Int}(h:∀e∈k,0<=e/\e<=2){d:Int}(hd:d<=2):My.maxL d k<=2:=by
 cases k with
 | nil=>exact hd
 | cons e k=>exact qjw k e (λx hx=>h x (zaz _ hx)) (h e (zay ..)).2
noncomputable def fmD(M:Int)(ts:List My.Tm):D:=.tup ((My.qU M (qQ (My.qZ ts))).map tmD)
theorem qgp{M:Int}{n:Nat}{ts:List My.Tm}(h0:0<M)(hn:n=1\/n=2)(hl:ts.length<=7)(hg:∀t∈ts,OkT n t):qc3 [.int M,.int (n:Int),.lst (ts.map tmD)]=some (fmD M ts):=by
 have vf:=V_form h0 hn hl hg
 refine qG ?_
 unfold qcN
 rw[qe (qm (d:=fmD M ts) (by simp_all[qd,vf,fmD]))]
 refine qar (items:=ts.map tmD) (by simp_all[qd]) (λi ρ=>∃o4 o5 o6,ρ=[some (.int M),some (.int (n:Int)),some (.lst (ts.map tmD)),some (fmD M ts),o4,o5,o6]) ⟨none,none,none,rfl⟩ ?_ ?_
 ·rintro i x ρ hx ⟨o4,o5,o6,rfl⟩
  rw[zax]at hx
  obtain⟨t,ht,rfl⟩:=map_some hx
  obtain⟨g1,g2,_⟩:=hg t (zaH ht)
  refine⟨[some (.int M),some (.int (n:Int)),some (.lst (ts.map tmD)),some (fmD M ts),o4,some (tupI t.1),some (.int t.2)],?_,_,_,_,rfl⟩
  have mx:qhw [tupI t.1]=some (.int (My.maxL 0 t.1)):=by
   cases hk:t.1 with
   | nil=>rw[hk]at g1;simp[-zac,-zad,qb,qg]at g1;omega
   | cons e k=>exact q_max1
  have ml:=qmY g2 (d:=0) (by decide)
  simp_all[-q_max1,turn,tmD,mx,show ¬ 2<My.maxL 0 t.1 by omega]
 ·rintro ρ ⟨o4,o5,o6,rfl⟩
  simp[-zac,-zad,qb,qg]
theorem qnM{κ:Type}[DecidableEq κ](l:List (κ×D))(k:κ)(e:D):valD (putD l k e) k=some e:=by
 unfold valD putD
 split
 ·rename_i h
  induction l with
  | nil=>simp[-zac,-zad,qb,qg]at h
  | cons p l ih=>
   by_cases hp:p.1=k
   ·simp_all[hp]
   ·rw[zbe,decide_eq_false hp,Bool.false_or]at h
    rw[zak,if_neg hp,List.find?_cons_of_neg (by simpa using hp)]
    exact ih h
 ·rename_i h
  rw[List.find?_append]
  have:l.find? (λp=>decide (p.1=k))=none:=by
   rw[List.find?_eq_none]
   intro p hp z
   exact h (List.any_eq_true.mpr ⟨p,hp,z⟩)
  rw[this]
  simp[-zac,-zad,qb,qg]
theorem qfL{κ:Type}[DecidableEq κ]{l:List (κ×D)}{k:κ}{e:D}{P:D->Prop}(h:∀p∈l,P p.2)(he:P e):∀p∈putD l k e,P p.2:=by
 intro p hp
 unfold putD at hp
 split at hp
 ·obtain⟨q,hq,rfl⟩:=List.mem_map.mp hp
  split
  ·exact he
  ·exact h q hq
 ·rcases List.mem_append.mp hp with z|z
  ·exact h p z
  ·rw[List.mem_singleton.mp z];exact he
theorem qfU{κ:Type}[DecidableEq κ](l:List (κ×D))(k:κ)(e:D):(putD l k e).length<=l.length+1:=by
 unfold putD
 split
 ·rw[zan];omega
 ·rw[za8];simp[-zac,-zad,qb,qg]
theorem qnx{κ:Type}[DecidableEq κ]{l:List (κ×D)}{k:κ}{d:D}(h:valD l k=some d):∃p∈l,p.2=d:=by
 obtain⟨p,hp,e⟩:=map_some h
 exact⟨p,List.mem_of_find?_eq_some hp,e⟩
noncomputable def bmD(M:Int)(m:Mk):D:=.tup [.str m.nm,tupI m.tk,.int m.gv,fmD M m.ts,.int m.p]
theorem qeH{M:Int}{ms:List Mk}(hl:ms.length<=5):qbR [.lst (ms.map (bmD M))]=some .non:=by
 refine qeC ?_
 unfold qbK
 rw[qe (qm (d:=.dT []) (by simp[-zac,-zad,qb,qg]))]
 refine qjH (items:=ms.map (bmD M)) (by simp_all[qd]) (λi ρ=>∃(ys:List (List Key×D)) (o2 o3 o4 o5 o6 o7:Option D),ρ=[some (.lst (ms.map (bmD M))),some (.dT ys),o2,o3,o4,o5,o6,o7]/\ys.length<=i/\∀p∈ys,∃c:Int,p.2=.int c/\c<=(i:Int)) ⟨[],none,none,none,none,none,none,by simp_all[qd],zam _,λ_ h=>nomatch h⟩ ?_
 rintro i x ρ hx ⟨ys,o2,o3,o4,o5,o6,o7,rfl,hy,hc⟩
 rw[zax]at hx
 obtain⟨m,hm,rfl⟩:=map_some hx
 have hi:i<ms.length:=(List.getElem?_eq_some_iff.mp hm).1
 have hz:szOk ys.length=true:=decide_eq_true (by omega)
 have ka:asT (.tup [.str m.nm,.int (m.tk.length:Int)])=some [.inr m.nm,.inl (m.tk.length:Int)]:=rfl
 generalize hk:([.inr m.nm,.inl (m.tk.length:Int)]:List Key)=k at ka
 have lk:qal (.dT ys) (.tup [.str m.nm,.int (m.tk.length:Int)])=some (valD ys k):=by
  show(asT (.tup [.str m.nm,.int (m.tk.length:Int)])).map _=_
  rw[ka];rfl
 have key:∃c:Int,((valD ys k).getD (.int 0))=.int c/\c<=(i:Int):=by
  cases hv:valD ys k with
  | none=>exact⟨0,rfl,by omega⟩
  | some d=>
   obtain⟨p,hp,rfl⟩:=qnx hv
   exact hc p hp
 obtain⟨c,ec,hci⟩:=key
 have pt:dPut (.dT ys) (.tup [.str m.nm,.int (m.tk.length:Int)]) (.int (c+1))=some (.dT (putD ys k (.int (c+1)))):=by
  unfold _root_.P.dPut
  dsimp only
  rw[ka,qb,if_pos hz]
 have lk2:qal (.dT (putD ys k (.int (c+1)))) (.tup [.str m.nm,.int (m.tk.length:Int)])=some (some (.int (c+1))):=by
  show(asT (.tup [.str m.nm,.int (m.tk.length:Int)])).map _=_
  rw[ka,qg,qnM]
 refine⟨[some (.lst (ms.map (bmD M))),some (.dT (putD ys k (.int (c+1)))),some (.str m.nm),some (tupI m.tk),some (.int m.gv),some (fmD M m.ts),some (.int m.p),some (.tup [.str m.nm,.int (m.tk.length:Int)])],?_,_,_,_,_,_,_,_,rfl,zaY (qfU _ _ _) (by omega),qfL (P:=λd=>∃c:Int,d=.int c/\c<=((i+1:Nat):Int)) (λp hp=>by obtain⟨c,e,h⟩:=hc p hp;exact⟨c,e,by omega⟩) ⟨c+1,rfl,by omega⟩⟩
 simp_all[turn,bmD,tupI,lk,ec,pt,lk2,show ¬ 6<c+1 by omega]
theorem qfj{n:Nat}{m:Mk}(ok:OkM (n:Int) 7 m):qcl [.int (n:Int),.str m.nm,tupI m.tk,.int m.gv,.int m.p]=some .non:=by
 have vn:=qe1 (x:=m.nm) (by have:=ok.nl;omega)
 rw[ok.nm]at vn
 have vp:=qdt ok.pr.1 ok.pr.2
 have hz:szOk (m.tk.length+1)=true:=by rcases ok.tk with⟨t,e⟩|⟨t,u,e⟩ <;> rw[e] <;> rfl
 have h12:(m.tk.length:Int)=1\/(m.tk.length:Int)=2:=by rcases ok.tk with⟨t,e⟩|⟨t,u,e⟩ <;> rw[e] <;> simp[-zac,-zad,qb,qg]
 refine qeC ?_
 unfold qci
 rw[qe (ρ':=qd 6 [.int (n:Int),.str m.nm,tupI m.tk,.int m.gv,.int m.p]) (by simp_all[qd,vn])]
 rw[qe (ρ':=qd 6 [.int (n:Int),.str m.nm,tupI m.tk,.int m.gv,.int m.p]) (by rcases h12 with e|e <;> simp_all[qd,tupI,e])]
 have li:qhU (eOp qav (qT qfS (qz (eVar 2) lNil)) (eLst (qz (eVar 3) lNil))) (qd 6 [.int (n:Int),.str m.nm,tupI m.tk,.int m.gv,.int m.p])=some ((m.tk++[m.gv]).map .int):=by simp_all[qd,tupI,qfS,hz]
 refine qjP (items:=(m.tk++[m.gv]).map .int) li (λi ρ=>∃o,ρ=[some (.int (n:Int)),some (.str m.nm),some (tupI m.tk),some (.int m.gv),some (.int m.p),o]) ⟨none,rfl⟩ ?_ ?_
 ·rintro i x ρ hx ⟨o,rfl⟩
  rw[zax]at hx
  obtain⟨e,he,rfl⟩:=map_some hx
  have b:0<=e/\e<(n:Int):=app1 (P:=λe=>0<=e/\e<(n:Int)) ok.tb ok.gv e (zaH he)
  exact⟨[some (.int (n:Int)),some (.str m.nm),some (tupI m.tk),some (.int m.gv),some (.int m.p),some (.int e)],by simp_all[turn,qbB,b.1,b.2],_,rfl⟩
 ·rintro ρ ⟨o,rfl⟩
  exact⟨[some (.int (n:Int)),some (.str m.nm),some (tupI m.tk),some (.int m.gv),some (.int m.p),o],by simp_all[vp]⟩
theorem qhA{M:Int}{n:Nat}{ms:List Mk}(h3:3<=M)(hl:ms.length<=5)(ho:∀m∈ms,OkM (n:Int) 7 m):qdI [.int M,.int (n:Int),.lst (ms.map mkD)]=some (.tup (ms.map (bmD M))):=by
 have Mp:0<M:=by omega
 have b:(ms.length:Int)<=16:=by omega
 refine qG ?_
 unfold qd6
 rw[qe (ρ':=qd 9 [.int M,.int (n:Int),.lst (ms.map mkD)]) (by simp_all[qd,b])]
 rw[qe (qm (d:=.lst []) (by simp[-zac,-zad,qb,qg]))]
 refine qar (items:=ms.map mkD) (by simp_all[qd]) (λi ρ=>∃o4 o5 o6 o7 o8,ρ=[some (.int M),some (.int (n:Int)),some (.lst (ms.map mkD)),some (.lst ((ms.take i).map (bmD M))),o4,o5,o6,o7,o8]) ⟨none,none,none,none,none,by simp_all[qd]⟩ ?_ ?_
 ·rintro i x ρ hx ⟨o4,o5,o6,o7,o8,rfl⟩
  rw[zax]at hx
  obtain⟨m,hm,rfl⟩:=map_some hx
  have ok:=ho m (zaH hm)
  have hi:i<ms.length:=(List.getElem?_eq_some_iff.mp hm).1
  have hz2:szOk (min i ms.length)=true:=decide_eq_true (by omega)
  have vc:=qfj ok
  have vf:=qgp (M:=M) (n:=m.tk.length) (ts:=m.ts) Mp (by rcases ok.tk with⟨t,e⟩|⟨t,u,e⟩ <;> rw[e] <;> simp[-zac,-zad,qb,qg]) ok.tl ok.tt
  refine⟨[some (.int M),some (.int (n:Int)),some (.lst (ms.map mkD)),some (.lst ((ms.take (i+1)).map (bmD M))),some (.str m.nm),some (tupI m.tk),some (.int m.gv),some (.lst (m.ts.map tmD)),some (.int m.p)],?_,_,_,_,_,_,rfl⟩
  rw[zbs,hm]
  simp only[tupI]at vc
  simp_all[turn,mkD,bmD,tupI,vc,vf,hz2,qch]
 ·rintro ρ ⟨o4,o5,o6,o7,o8,rfl⟩
  rw[zan,zbS]
  simp_all[qch,qeH hl]
noncomputable def bkD(M c:Int)(n:Nat)(rs:List Ro)(ms:List Mk):D:=.tup [.int M,.tup (nmsD c n),.tup ((rs.map (red M)).map rdD),.tup (ms.map (bmD M))]
theorem qoC{M c:Int}{n:Nat}{rs:List Ro}{ms:List Mk}(hM:3<=M/\M<10^60/\M%2=1)(hn:1<=n/\n<=6)(hr:rs.length<=12/\∀r∈rs,OkR (n:Int) r)(hl:ms.length<=5)(ho:∀m∈ms,OkM (n:Int) 7 m):qlL [.int M,.lst (nmsD c n),.lst (rs.map rdD),.lst (ms.map mkD)]=some (bkD M c n rs ms):=by
 have v1:=qnH hM.1 hM.2.1 hM.2.2
 have v2:=qec (c:=c) hn.1 hn.2
 have v3:=qhS hM.1 hr.1 hr.2
 have v4:=qhA hM.1 hl ho
 refine qG ?_
 simp[-zac,-zad,qb,qg,ql9,qd,v1,v2,v3,v4,qa0,qch,bkD]at v3 ⊢
theorem qfO{rs:List Ro}{M many j k:Int}{bk:D}(hB:qu bk (.int 2)=some (.tup (rs.map rdD)))(g:GR M many rs)(hj:0<=j/\j<=100)(hk:0<=k/\k<=100):∃d,qas [bk,.int j,.int k]=some d/\((d=.non/\¬ Rch rs j k)\/∃w,d=tupI w/\IsF rs k j w):=by
 refine qaF ?_
 unfold qdl
 have e0:(qfY (eVar 2) (eTup lNil)) (qd 7 [bk,.int j,.int k])=some (.dK ([(k,[])].map fK)):=by simp_all[qd,fK,tupI,asK]
 rw[qe (qm e0)]
 have rd:=qd2 (a:=k-1) (b:=j-1) (by omega) (by omega) (by omega) (by omega)
 have hlen:k-1-(j-1)=k-j:=by omega
 rw[hlen]at rd
 refine qaZ (items:=qF (k-1) (-1) (k-j).toNat) (by simp_all[qd,rd]) (λi ρ=>∃ds o4 o5 o6,ρ=[some (bk),some (.int j),some (.int k),some (.dK (ds.map fK)),o4,o5,o6]/\FI rs k (k-(i:Int)) ds/\ds.length<=1+i*13) ⟨[(k,[])],none,none,none,by simp_all[qd],by simpa using FI.start rs k,by simp[-zac,-zad,qb,qg]⟩ ?_ ?_
 ·rintro i x ρ hx ⟨ds,o4,o5,o6,rfl,fi,hz⟩
  obtain⟨hlt,rfl⟩:=qK hx
  generalize hc:k-1+(i:Int) * -1=c
  have ec:k-(i:Int)=c+1:=by omega
  rw[ec]at fi
  have inner:=qbb (g:=qaQ 2 (qL (qx 5) (qL (qx 6) qa8))) (b:=(sIf (bAnd (bOf (eOp dEq (eOp qu (eVar 6) (eC (.int 0))) (eVar 4))) (bAnd (bOf (eOp dInA (eOp qu (eVar 6) (eC (.int 1))) (eVar 3))) (bOf (eOp qdg (eVar 4) (eVar 3))))) (sPut 3 (eVar 4) (eOp qav (eTup (qz (eVar 5) lNil)) (eOp qu (eVar 3) (eOp qu (eVar 6) (eC (.int 1)))))) sNx))
   (items:=qb4 0 (rs.map rdD)) (ρ:=[some (bk),some (.int j),some (.int k),some (.dK (ds.map fK)),some (.int c),o5,o6])
   (λt ρ => ∃ds2 p5 p6, ρ = [some (bk), some (.int j), some (.int k), some (.dK (ds2.map fK)), some (.int c), p5, p6] /\ FJ rs k c t ds2 /\ ds2.length <= ds.length+t) ⟨ds, o5, o6, rfl, fi.go, zam _⟩ (by
    rintro t x ρ hx ⟨ds2,p5,p6,rfl,fj,hz2⟩
    obtain⟨y,hy,rfl⟩:=qbF hx
    rw[zax]at hy
    obtain⟨r,hr',rfl⟩:=map_some hy
    have ht:t<rs.length:=(List.getElem?_eq_some_iff.mp hr').1
    have hr:rAt rs (t:Int)=some r:=by unfold rAt;rw[if_pos (by omega)];simpa using hr'
    rw[Nat.zero_add]
    have lk:=qge ds2 r.k
    have lc:=qge ds2 c
    have i1:dInA (.int r.k) (.dK (ds2.map fK))=some (.bl (qab ds2 r.k).isSome):=by
     show((qal (.dK (ds2.map fK)) (.int r.k)).map (·.isSome)).map D.bl=_
     rw[lk];cases qab ds2 r.k <;> rfl
    have i2:qdg (.int c) (.dK (ds2.map fK))=some (.bl (!(qab ds2 c).isSome)):=by
     show((qal (.dK (ds2.map fK)) (.int c)).map (·.isSome)).map (λb=>D.bl (!b))=_
     rw[lc];cases qab ds2 c <;> rfl
    by_cases hn:r.j=c/\(qab ds2 r.k).isSome=true/\qab ds2 c=none
    ·obtain⟨h1,h2,h3⟩:=hn
     obtain⟨w,hw⟩:=Option.isSome_iff_exists.mp h2
     have gl:=qjJ g (fj.it _ _ hw).2.2.way
     have it:qu (.dK (ds2.map fK)) (.int r.k)=some (tupI w):=by
      show(qal (.dK (ds2.map fK)) (.int r.k)).join=_
      rw[lk,hw];rfl
     have ad:=qkD (v:=[(t:Int)]) (w:=w) (by simp[-zac,-zad,qb,qg];have:=(fj.it _ _ hw).1;have:=(g.jk r (qaM hr));omega)
     have pt:=qof (ds:=ds2) (x:=c) (w:=(t:Int)::w) h3 (by have:=g.len;omega)
     refine⟨[some (bk),some (.int j),some (.int k),some (.dK ((ds2++[(c,(t:Int)::w)]).map fK)),some (.int c),some (.int (t:Int)),some (rdD r)],?_,_,_,_,rfl,fj.put (by omega) hr h1 hw h3,by simp[-zac,-zad,qb,qg];omega⟩
     have tt:D.tup [.int (t:Int)]=tupI [(t:Int)]:=rfl
     simp only[List.singleton_append]at ad
     simp_all[-zbm,turn,rd_j,rd_k,h1,i1,h2,i2,h3,it,tt,ad,pt]
    ·refine⟨[some (bk),some (.int j),some (.int k),some (.dK (ds2.map fK)),some (.int c),some (.int (t:Int)),some (rdD r)],?_,_,_,_,rfl,fj.skip g hr hn,by omega⟩
     by_cases h1:r.j=c
     ·by_cases h2:(qab ds2 r.k).isSome=true
      ·have h3:(qab ds2 c).isSome=true:=by
        cases e:qab ds2 c with
        | none=>exact absurd ⟨h1,h2,e⟩ hn
        | some v=>rfl
       simp_all[turn,rd_j,rd_k,h1,i1,h2,i2,h3]
      ·simp_all[turn,rd_j,rd_k,h1,i1,h2]
     ·simp_all[turn,rd_j,rd_k,h1])
  obtain⟨ρ2,ef,ds2,p5,p6,rfl,fj,hz2⟩:=inner
  rw[qcM,zan]at fj hz2
  refine⟨[some (bk),some (.int j),some (.int k),some (.dK (ds2.map fK)),some (.int c),p5,p6],?_,_,_,_,_,rfl,?_,by have:=g.len;omega⟩
  ·simp_all[turn,hB,ef]
  ·have:=fj.done (by omega)
   have e2:k-((i+1:Nat):Int)=c:=by omega
   rw[e2];exact this
 ·rintro ρ' ⟨ds,o4,o5,o6,rfl,fi,hz⟩
  rw[qJ]at fi
  obtain⟨z1,z2⟩:=fi.end g (j:=j) (by omega)
  have lj:=qge ds j
  cases e:qab ds j with
  | none=>exact⟨.non,by simp_all[lj,e],.inl ⟨rfl,z2 e⟩⟩
  | some w=>exact⟨tupI w,by simp_all[lj,e],.inr ⟨w,rfl,z1 w e⟩⟩
theorem qkJ{rs:List Ro}{j x:Int}(h:Rch rs j x):x=j\/∃m r,rAt rs m=some r/\r.k=x/\Rch rs j r.j:=by
 obtain⟨w,hw⟩:=h
 rcases List.eq_nil_or_concat w with rfl|⟨v,m,rfl⟩
 ·exact .inl (zaA hw).symm
 ·rw[List.concat_eq_append,qcB]at hw
  obtain⟨e,he,hw⟩:=bind_some hw
  obtain⟨r,hr,hw⟩:=bind_some (show(rAt rs m).bind (λr=>if r.j=e then gw rs r.k []else none)=some x from hw)
  split at hw
  ·rename_i hj
   exact .inr ⟨m,r,hr,zaA hw,v,by rw[hj];exact he⟩
  ·cases hw
theorem qkr{rs:List Ro}{j m:Int}{r:Ro}(h:Rch rs j r.j)(hr:rAt rs m=some r):Rch rs j r.k:=by
 obtain⟨w,hw⟩:=h
 exact⟨w++[m],qmy hw hr rfl⟩
theorem qoY{M:Int}{rs:List Ro}{i:Nat}{r:Ro}(h:rs[i]?=some r):rAt (rs.map (red M)) (i:Int)=some (red M r):=by
 unfold rAt
 rw[if_pos (by omega),zbz,zax,h]
 rfl
theorem qoN{M:Int}{n:Nat}{rs:List Ro}(h3:3<=M)(hl:rs.length<=12)(hr:∀r∈rs,OkR (n:Int) r):GR M (n:Int) (rs.map (red M)):=by
 have Mp:0<M:=by omega
 refine⟨by rw[zan];exact hl,λr h=>?_,λr h=>?_,λr h=>?_⟩ <;> obtain⟨q,hq,rfl⟩:=List.mem_map.mp h
 ·exact(hr q hq).1
 ·exact⟨⟨zar _ (zaP Mp),zas _ Mp⟩,zar _ (zaP Mp),zas _ Mp⟩
 ·exact⟨(hr q hq).2.1,(hr q hq).2.2.1⟩
theorem qnt{K:Nat}{p:Int->Bool}{c:Int}{b:Bool}(h0:0<=c)(h:c<(K:Int)):dPut (rowT K p) (.int c) (.bl b)=some (rowT K λx=>if x=c then b else p x):=by
 have:=qnV (K:=K) (f:=λx=>D.bl (p x)) (c:=c) (d:=.bl b) h0 h
 refine Eq.trans this ?_
 show some (D.lst _)=some (D.lst _)
 congr 2
 refine List.map_congr_left λx _=>?_
 show(if(x:Int)=c then D.bl b else D.bl (p x))=D.bl (if(x:Int)=c then b else p x)
 split <;> rfl
theorem qi3{K:Nat}{p q:Int->Bool}(h:∀x:Int,0<=x->x<(K:Int)->p x=q x):rowT K p=rowT K q:=by
 unfold rowT
 congr 1
 exact List.map_congr_left λx hx=>by rw[h (x:Int) (by omega) (by have:=List.mem_range.mp hx;omega)]
open Classical in
noncomputable def RT(rs:List Ro)(j x:Int):Bool:=decide (Rch rs j x)
theorem qd4{rs:List Ro}{j x:Int}:RT rs j x=true↔Rch rs j x:=by unfold RT;simp[-zac,-zad,qb,qg]
theorem qfR{M:Int}{n:Nat}{rs:List Ro}(g:GR M (n:Int) (rs.map (red M)))(hn:n<=6):qcA [.int (n:Int),.lst (rs.map rdD)]=some (matT n (RT (rs.map (red M)))):=by
 have r1:=qcz (show n<=1000000 by omega)
 have hz:szOk n=true:=decide_eq_true (by omega)
 generalize hR:rs.map (red M)=R at g
 have hj':∀r∈rs,0<=r.j/\r.j<r.k/\r.k<(n:Int):=λr h=>g.jk (red M r) (by rw[<- hR];exact List.mem_map.mpr ⟨r,h,rfl⟩)
 refine qG ?_
 unfold qcL
 rw[qe (qm (d:=.lst []) (by simp[-zac,-zad,qb,qg]))]
 refine qar (items:=qF 0 1 n) (by simp_all[qd,r1]) (λi ρ=>∃o3 o4 o5 o6,ρ=[some (.int (n:Int)),some (.lst (rs.map rdD)),some (.lst ((zav i).map λ(j:Nat)=>rowT n (RT R (j:Int)))),o3,o4,o5,o6]) ⟨none,none,none,none,by simp_all[qd]⟩ ?_ ?_
 ·rintro i x ρ hx ⟨o3,o4,o5,o6,rfl⟩
  obtain⟨hlt,rfl⟩:=qK hx
  have hI:(0:Int)+(i:Int)*1=(i:Int):=by omega
  rw[hI]
  have row:qau (qx 0) bYes (eOp dEq (eVar 0) (eVar 1)) (qF 0 1 n) [none,some (.int (i:Int))]=some ((zav n).map λ(k:Nat)=>D.bl (decide ((k:Int)=(i:Int)))):=by
   rw[qgX]
   exact qgT (K:=n) (F:=λk=>D.bl (decide (k=(i:Int)))) (λk _ _=>by simp[-zac,-zad,qb,qg]) (zav n) none λk hk=>List.mem_range.mp hk
  have r2:qaN [.int ((i:Int)+1),.int (n:Int)]=some (qF ((i:Int)+1) 1 ((n:Int)-((i:Int)+1)).toNat):=qaT (by omega) (by omega) (by omega) (by omega)
  obtain⟨ρ',e,p,o5',o6',rfl,hp,hq⟩:=qbb (g:=qx 5) (b:=sFor (qhU (eVar 1)) (qx 6) (sIf (bAnd (bOf (eOp dEq (eOp qu (eVar 6) (eC (.int 1))) (eVar 5))) (bOf (eOp qu (eVar 4) (eOp qu (eVar 6) (eC (.int 0)))))) (sPut 4 (eVar 5) (eC (.bl true))) sNx)) (items:=qF ((i:Int)+1) 1 ((n:Int)-((i:Int)+1)).toNat)
   (ρ:=[some (.int (n:Int)),some (.lst (rs.map rdD)),some (.lst ((zav i).map λ(j:Nat)=>rowT n (RT R (j:Int)))),some (.int (i:Int)),some (rowT n λx=>decide (x=(i:Int))),o5,o6])
   (λt ρ => ∃(p:Int -> Bool) (o5 o6:Option D), ρ = [some (.int (n:Int)), some (.lst (rs.map rdD)), some (.lst ((zav i).map λ(j:Nat) => rowT n (RT R (j:Int)))), some (.int (i:Int)), some (rowT n p), o5, o6] /\ (∀x:Int, x<(i:Int)+1+(t:Int) -> (p x = true ↔ Rch R (i:Int) x)) /\ ∀x:Int, (i:Int)+1+(t:Int) <= x -> p x = false) ⟨_, o5, o6, rfl, λx hx => by
    rw[decide_eq_true_eq]
    refine⟨λz=>by rw[z];exact Rch.refl R _,λz=>by have:=z.le g;omega⟩,λx hx=>decide_eq_false (by omega)⟩ (by
   rintro t x ρ hx ⟨p,o5,o6,rfl,hp,hq⟩
   obtain⟨hlt2,rfl⟩:=qK hx
   generalize hk:(i:Int)+1+(t:Int)*1=kk
   have ek:(i:Int)+1+(t:Int)=kk:=by omega
   rw[ek]at hp hq
   have kn:kk<(n:Int):=by omega
   obtain⟨ρ',e,p',o6',rfl,hp',hq',hr'⟩:=qbb (g:=qx 6) (b:=(sIf (bAnd (bOf (eOp dEq (eOp qu (eVar 6) (eC (.int 1))) (eVar 5))) (bOf (eOp qu (eVar 4) (eOp qu (eVar 6) (eC (.int 0)))))) (sPut 4 (eVar 5) (eC (.bl true))) sNx)) (items:=rs.map rdD)
    (ρ:=[some (.int (n:Int)),some (.lst (rs.map rdD)),some (.lst ((zav i).map λ(j:Nat)=>rowT n (RT R (j:Int)))),some (.int (i:Int)),some (rowT n p),some (.int kk),o6])
    (λu ρ => ∃(p:Int -> Bool) (o6:Option D), ρ = [some (.int (n:Int)), some (.lst (rs.map rdD)), some (.lst ((zav i).map λ(j:Nat) => rowT n (RT R (j:Int)))), some (.int (i:Int)), some (rowT n p), some (.int kk), o6] /\ (∀x:Int, x<kk -> (p x = true ↔ Rch R (i:Int) x)) /\ (∀x:Int, kk<x -> p x = false) /\ (p kk = true ↔ ∃(m:Int) (r:Ro), m<(u:Int) /\ rAt R m = some r /\ r.k = kk /\ Rch R (i:Int) r.j)) ⟨p, o6, rfl, hp, λx hx => hq x (by omega), by
     rw[hq kk (by omega)]
     refine⟨λz=>(nomatch z),λ⟨m,r,hm,hr,_⟩=>?_⟩
     have:=(qdG hr).1
     omega⟩ (by
    rintro u x ρ hx ⟨p,o6,rfl,hp,hq,hr⟩
    rw[zax]at hx
    obtain⟨r,hru,rfl⟩:=map_some hx
    have ra:rAt R (u:Int)=some (red M r):=by rw[<- hR];exact qoY hru
    have b:=hj' r (zaH hru)
    have skip:¬ (r.k=kk/\p r.j=true)->(p kk=true↔∃(m:Int) (r:Ro),m<((u+1:Nat):Int)/\rAt R m=some r/\r.k=kk/\Rch R (i:Int) r.j):=λhn=>by
     rw[hr]
     refine⟨λ⟨m,q,a,z⟩=>⟨m,q,by omega,z⟩,λ⟨m,q,a,hq1,hq2,hq3⟩=>?_⟩
     by_cases em:m=(u:Int)
     ·subst em
      rw[ra]at hq1
      cases hq1
      exact absurd ⟨hq2,(hp r.j (by have:r.k=kk:=hq2;omega)).mpr hq3⟩ hn
     ·exact⟨m,q,by omega,hq1,hq2,hq3⟩
    by_cases h1:r.k=kk
    ·have rj:=qjb (p:=p) b.1 (show r.j<(n:Int) by omega)
     by_cases h2:p r.j=true
     ·have rp:=qnt (p:=p) (c:=kk) (b:=true) (by omega) kn
      refine⟨[some (.int (n:Int)),some (.lst (rs.map rdD)),some (.lst ((zav i).map λ(j:Nat)=>rowT n (RT R (j:Int)))),some (.int (i:Int)),some (rowT n λx=>if x=kk then true else p x),some (.int kk),some (rdD r)],?_,_,_,rfl,λx hx=>?_,λx hx=>?_,?_⟩
      ·simp_all[turn,rd_k,rd_j,h1,rj,h2,rp]
      ·rw[if_neg (by omega)];exact hp x hx
      ·rw[if_neg (by omega)];exact hq x hx
      ·rw[if_pos rfl]
       exact⟨λ_=>⟨u,red M r,by omega,ra,h1,(hp r.j (by omega)).mp h2⟩,λ_=>rfl⟩
     ·refine⟨[some (.int (n:Int)),some (.lst (rs.map rdD)),some (.lst ((zav i).map λ(j:Nat)=>rowT n (RT R (j:Int)))),some (.int (i:Int)),some (rowT n p),some (.int kk),some (rdD r)],?_,_,_,rfl,hp,hq,skip λz=>h2 z.2⟩
      have h2':p r.j=false:=by simpa using h2
      simp_all[turn,rd_k,rd_j,h1,rj,h2']
    ·refine⟨[some (.int (n:Int)),some (.lst (rs.map rdD)),some (.lst ((zav i).map λ(j:Nat)=>rowT n (RT R (j:Int)))),some (.int (i:Int)),some (rowT n p),some (.int kk),some (rdD r)],?_,_,_,rfl,hp,hq,skip λz=>h1 z.1⟩
     simp_all[turn,rd_k,h1])
   rw[zan]at hr'
   refine⟨[some (.int (n:Int)),some (.lst (rs.map rdD)),some (.lst ((zav i).map λ(j:Nat)=>rowT n (RT R (j:Int)))),some (.int (i:Int)),some (rowT n p'),some (.int kk),o6'],?_,p',_,_,rfl,λx hx=>?_,λx hx=>hq' x (by omega)⟩
   ·simp_all[turn,e]
   ·by_cases ex:x=kk
    ·subst ex
     rw[hr']
     refine⟨λ⟨m,r,_,hr,hk,z⟩=>by rw[<- hk];exact qkr z hr,λz=>?_⟩
     rcases qkJ z with z|⟨m,r,hr,hk,z⟩
     ·omega
     ·refine⟨m,r,?_,hr,hk,z⟩
      have:=(qdG hr).2
      rw[<- hR,zan]at this
      exact this
    ·exact hp' x (by omega))
  rw[qJ]at hp hq
  have er:rowT n p=rowT n (RT R (i:Int)):=qi3 λx h0 h1=>by
   rw[Bool.eq_iff_iff,qd4]
   exact hp x (by omega)
  refine⟨[some (.int (n:Int)),some (.lst (rs.map rdD)),some (.lst ((zav (i+1)).map λ(j:Nat)=>rowT n (RT R (j:Int)))),some (.int (i:Int)),some (rowT n p),o5',o6'],?_,_,_,_,_,rfl⟩
  have hz2:szOk i=true:=decide_eq_true (by omega)
  have row':(D.lst ((zav n).map λ(k:Nat)=>D.bl (decide ((k:Int)=(i:Int)))))=rowT n λx=>decide (x=(i:Int)):=rfl
  rw[List.range_succ,zbm]
  simp only[zak,zbu]
  simp_all[-zbm,turn,r1,qJ,hz,inS,row,row',r2,e,er,hz2]
 ·rintro ρ ⟨o3,o4,o5,o6,rfl⟩
  rw[qJ]
  simp_all[matT]
noncomputable def zipI:List Int->List Int->List (Int×Int)
 | x::xs,y::ys=>(x,y)::zipI xs ys
 | _,_=>[]
noncomputable def fitB(R:List Ro)(ks tk:List Int):Bool:=decide (ks.length=tk.length) && (zipI ks tk).all λp=>RT R p.1 p.2
theorem qqt{M:Int}{ms:List Mk}{i:Int}(h0:0<=i)(h:i<(ms.length:Int)):∃m∈ms,atI (ms.map mkD) i=some (mkD m)/\atI (ms.map (bmD M)) i=some (bmD M m):=by
 obtain⟨j,rfl⟩:∃j:Nat,i=(j:Int):=⟨i.toNat,by omega⟩
 have hj:j<ms.length:=by omega
 exact⟨ms[j],List.getElem_mem hj,qaf (by simp_all[hj]),qaf (by simp_all[hj])⟩
theorem bk_2{M c:Int}{n:Nat}{rs:List Ro}{ms:List Mk}:qu (bkD M c n rs ms) (.int 2)=some (.tup ((rs.map (red M)).map rdD)):=by unfold bkD;rw[q_itT];exact at2
theorem bk_3{M c:Int}{n:Nat}{rs:List Ro}{ms:List Mk}:qu (bkD M c n rs ms) (.int 3)=some (.tup (ms.map (bmD M))):=by unfold bkD;rw[q_itT];exact at3
theorem mk_1{m:Mk}:qu (mkD m) (.int 1)=some (tupI m.tk):=by unfold mkD;rw[q_itT];exact at1
theorem bm_1{M:Int}{m:Mk}:qu (bmD M m) (.int 1)=some (tupI m.tk):=by unfold bmD;rw[q_itT];exact at1
theorem qfW{M:Int}(h0:0<M){cs:List My.Tm}(hnd:(cs.map (·.1)).Nodup):qaP (My.qU M (qQ cs))/\(∀q∈My.qU M (qQ cs),1<=q.2/\q.2<M/\∃v,My.look cs q.1=some v/\(v-q.2)%M=0)/\(∀k v,My.look cs k=some v->k∉(My.qU M (qQ cs)).map (·.1)->v%M=0)/\(My.qU M (qQ cs)).length<=cs.length/\∀q∈My.qU M (qQ cs),∃t∈cs,t.1=q.1:=by
 have mem:∀q∈My.qU M (qQ cs),∃t∈cs,q=(t.1,t.2%M)/\t.2%M≠0:=λq hq=>by
  unfold My.qU at hq
  obtain⟨t,ht,rfl⟩:=List.mem_map.mp hq
  obtain⟨h1,h2⟩:=List.mem_filter.mp ht
  exact⟨t,(qY cs).subset h1,rfl,of_decide_eq_true h2⟩
 refine⟨?_,λq hq=>?_,λk v hk hn=>?_,?_,λq hq=>?_⟩
 ·unfold My.qU qaP
  refine List.pairwise_map.mpr ?_
  exact(qaY cs hnd).filter _
 ·obtain⟨t,ht,rfl,hne⟩:=mem q hq
  have a:=zar t.2 (show M≠0 by omega)
  have b:=zas t.2 h0
  refine⟨by show 1<=t.2%M;omega,b,t.2,My.qlq hnd ht,?_⟩
  show(t.2-t.2%M)%M=0
  exact Int.emod_eq_zero_of_dvd (Int.dvd_self_sub_emod)
 ·refine Classical.byContradiction λhne=>hn ?_
  have hm:=My.qll hk
  unfold My.qU
  rw[zaB]
  exact List.mem_map.mpr ⟨(k,v),List.mem_filter.mpr ⟨(qY cs).symm.subset hm,decide_eq_true hne⟩,rfl⟩
 ·unfold My.qU
  rw[zan]
  exact zaY (List.length_filter_le _ _) (Nat.le_of_eq (qfg cs))
 ·obtain⟨t,ht,rfl,_⟩:=mem q hq
  exact⟨t,ht,rfl⟩
structure Nf(M:Int)(d:List Int)(F:List My.Tm):Prop where
 fo:Fo M d F
 srt:qaP F
 pos:∀t∈F,1<=t.2
theorem Nf.nil(M:Int)(d:List Int):Nf M d []:=⟨Fo.nil M d,.nil,λ_ h=>nomatch h⟩
theorem Nf.mono{M:Int}{d e:List Int}{F:List My.Tm}(h:Nf M d F)(b:Bx e d):Nf M e F:=⟨h.fo.mono b,h.srt,h.pos⟩
theorem qm6{M:Int}(h0:0<M){d:List Int}{T:List My.Tm}(h:Fk d T):Nf M d (My.qU M (qQ T)):=by
 obtain⟨a,b,_⟩:=qfW (M:=M) h0 h.nd
 exact⟨h.form h0,a,λt ht=>(b t ht).1⟩
theorem qm3:∀ {d e k j:List Int},Bx d k->Bx e j->d.length=e.length->qgd [tupI k,tupI j]=some (tupI (addE k j))
 | [_],[_],[x],[y],_,_,_=>qG (by simp_all[qf9,qd,tupI,at0,addE])
 | [_,_],[_,_],[x,a],[y,b],_,_,_=>qG (by simp_all[qf9,qd,tupI,at0,at1,addE])
theorem qgt{M:Int}(h0:0<M)(h1:M<10^60){d e:List Int}{F G:List My.Tm}(f:Fo M d F)(g:Fo M e G)(hl:d.length=e.length)(lw:Low (addE d e)):∃H,qc9 [.int M,fD F,fD G]=some (fD H)/\Fo M (addE d e) H/\∀vs:List Int,vs.length=d.length->M∣ev vs H-ev vs F*ev vs G:=by
 suffices h:∃r,qc9 [.int M,fD F,fD G]=some r/\∃H,r=fD H/\Fo M (addE d e) H/\∀vs:List Int,vs.length=d.length->M∣ev vs H-ev vs F*ev vs G by
  obtain⟨r,e1,H,rfl,x⟩:=h;exact⟨H,e1,x⟩
 have p60:(10:Int)^60=1000000000000000000000000000000000000000000000000000000000000:=by decide +kernel
 refine qaF ?_
 unfold qiF fD
 rw[qe (qm (d:=.dT []) (by simp[-zac,-zad,qb,qg]))]
 refine qaZ (items:=F.map tmD) (by simp_all[qd]) (λi ρ=>∃(T:List My.Tm) (o4 o5 o6 o7 o8:Option D),ρ=[some (.int M),some (.tup (F.map tmD)),some (.tup (G.map tmD)),some (.dT (T.map kD)),o4,o5,o6,o7,o8]/\Fk (addE d e) T/\∀vs:List Int,vs.length=d.length->ev vs T=ev vs (F.take i)*ev vs G) ⟨[],none,none,none,none,none,by simp_all[qd],Fk.nil _,λvs _=>by simp_all[ev]⟩ ?_ ?_
 ·rintro i x ρ hx ⟨T,o4,o5,o6,o7,o8,rfl,tk,te⟩
  rw[zax]at hx
  obtain⟨t,ht,rfl⟩:=map_some hx
  have htm:=zaH ht
  have bt:=f.k.bx t htm
  have ct:=f.cb t htm
  have ht1:F.take (i+1)=F.take i++[t]:=by rw[zbs,ht];rfl
  obtain⟨ρ',er,T',p6,p7,p8,rfl,tk',te'⟩:=qbb (g:=qaQ 2 (qL (qx 6) (qL (qx 7) qa8))) (b:=(sSeq (sSet 8 (qT qgd (qz (eVar 4) (qz (eVar 6) lNil))))
   (sPut 3 (eVar 8) (eOp qav (qfQ (eVar 3) (eVar 8) (eC (.int 0))) (eOp qak (eVar 5) (eVar 7)))))) (items:=G.map tmD) (ρ:=[some (.int M),some (.tup (F.map tmD)),some (.tup (G.map tmD)),some (.dT (T.map kD)),some (tupI t.1),some (.int t.2),o6,o7,o8])
   (λj ρ=>∃(T':List My.Tm) (o6 o7 o8:Option D),ρ=[some (.int M),some (.tup (F.map tmD)),some (.tup (G.map tmD)),some (.dT (T'.map kD)),some (tupI t.1),some (.int t.2),o6,o7,o8]/\Fk (addE d e) T'/\∀vs:List Int,vs.length=d.length->ev vs T'=ev vs T+t.2*mon t.1 vs*ev vs (G.take j)) ⟨T,o6,o7,o8,rfl,tk,λvs _=>by simp_all[ev]⟩ (by
   rintro j y ρ hy ⟨T',o6,o7,o8,rfl,tk',te'⟩
   rw[zax]at hy
   obtain⟨u,hu,rfl⟩:=map_some hy
   have hum:=zaH hu
   have bu:=g.k.bx u hum
   have cu:=g.cb u hum
   have hu1:G.take (j+1)=G.take j++[u]:=by rw[zbs,hu];rfl
   have va:=qm3 bt bu hl
   have mu:qak (.int t.2) (.int u.2)=some (.int (t.2*u.2)):=qax (by omega) (by omega) (by omega) (by omega)
   have ap:=qiB (i:=8) (X:=eOp qak (eVar 5) (eVar 7)) (ρ:=[some (.int M),some (.tup (F.map tmD)),some (.tup (G.map tmD)),some (.dT (T'.map kD)),some (tupI t.1),some (.int t.2),some (tupI u.1),some (.int u.2),some (tupI (addE t.1 u.1))]) (T:=T') (k:=addE t.1 u.1) (x:=t.2*u.2) rfl rfl (by simp_all[mu]) (by have:=tk'.len lw;omega)
   refine⟨_,?_,My.put T' (addE t.1 u.1) (cf T' (addE t.1 u.1)+t.2*u.2),some (tupI u.1),some (.int u.2),some (tupI (addE t.1 u.1)),rfl,tk'.put (bt.add bu hl),λvs hv=>?_⟩
   ·show(qaQ 2 (qL (qx 6) (qL (qx 7) qa8)) (tmD u) _).bind _=_
    have e1:qaQ 2 (qL (qx 6) (qL (qx 7) qa8)) (tmD u) [some (.int M),some (.tup (F.map tmD)),some (.tup (G.map tmD)),some (.dT (T'.map kD)),some (tupI t.1),some (.int t.2),o6,o7,o8]=some [some (.int M),some (.tup (F.map tmD)),some (.tup (G.map tmD)),some (.dT (T'.map kD)),some (tupI t.1),some (.int t.2),some (tupI u.1),some (.int u.2),o8]:=by simp_all[tmD]
    rw[e1,qb,qe (qm (d:=tupI (addE t.1 u.1)) (by simp_all[va]))]
    exact ap
   ·rw[qj1 tk'.nd rfl,te' vs hv,hu1,qc2,qmn bt bu hl hv,Int.mul_add]
    generalize mon t.1 vs=a
    generalize mon u.1 vs=b
    grind)
  refine⟨_,?_,T',some (tupI t.1),some (.int t.2),p6,p7,p8,rfl,tk',λvs hv=>?_⟩
  ·show(qaQ 2 (qL (qx 4) (qL (qx 5) qa8)) (tmD t) _).bind _=_
   have e1:qaQ 2 (qL (qx 4) (qL (qx 5) qa8)) (tmD t) [some (.int M),some (.tup (F.map tmD)),some (.tup (G.map tmD)),some (.dT (T.map kD)),o4,o5,o6,o7,o8]=some [some (.int M),some (.tup (F.map tmD)),some (.tup (G.map tmD)),some (.dT (T.map kD)),some (tupI t.1),some (.int t.2),o6,o7,o8]:=by simp_all[tmD]
   rw[e1,qb,q_for]
   have e2:qhU (eVar 2) [some (.int M),some (.tup (F.map tmD)),some (.tup (G.map tmD)),some (.dT (T.map kD)),some (tupI t.1),some (.int t.2),o6,o7,o8]=some (G.map tmD):=by simp[-zac,-zad,qb,qg]
   rw[e2,qb]
   exact er
  ·rw[te' vs hv,te vs hv,ht1,qc2,zan,zbS,Int.add_mul]
 ·rintro ρ ⟨T,o4,o5,o6,o7,o8,rfl,tk,te⟩
  rw[zan,zbS]at te
  have vf:=qbE (M:=M) (cs:=T) h0 (by have:=tk.len lw;omega)
  refine⟨_,by simp_all[vf] <;> rfl,My.qU M (qQ T),rfl,tk.form h0,λvs hv=>?_⟩
  rw[<- te vs hv];exact qev T
theorem qiD{M:Int}(h0:0<M){d:List Int}{F G:List My.Tm}(f:Fo M d F)(g:Fo M d G)(lw:Low d):∃H,qdF [.int M,fD F,fD G]=some (fD H)/\Nf M d H/\∀vs:List Int,M∣ev vs H-(ev vs F+ev vs G):=by
 suffices h:∃r,qdF [.int M,fD F,fD G]=some r/\∃H,r=fD H/\Nf M d H/\∀vs:List Int,M∣ev vs H-(ev vs F+ev vs G) by
  obtain⟨r,e1,H,rfl,x⟩:=h;exact⟨H,e1,x⟩
 have dt:=qiM f.k.nd (by have:=f.k.len lw;omega)
 refine qaF ?_
 unfold qlM fD
 rw[qe (qm (d:=.dT (F.map kD)) (by simp_all[qd,dt]))]
 refine qaZ (items:=G.map tmD) (by simp_all[qd]) (λi ρ=>∃(T:List My.Tm) (o4 o5:Option D),ρ=[some (.int M),some (.tup (F.map tmD)),some (.tup (G.map tmD)),some (.dT (T.map kD)),o4,o5]/\Fk d T/\∀vs:List Int,ev vs T=ev vs F+ev vs (G.take i)) ⟨F,none,none,by simp_all[qd],f.k,λvs=>by simp_all[ev]⟩ ?_ ?_
 ·rintro i x ρ hx ⟨T,o4,o5,rfl,tk,te⟩
  rw[zax]at hx
  obtain⟨t,ht,rfl⟩:=map_some hx
  have htm:=zaH ht
  have ht1:G.take (i+1)=G.take i++[t]:=by rw[zbs,ht];rfl
  have ap:=qiB (i:=4) (X:=eVar 5) (ρ:=[some (.int M),some (.tup (F.map tmD)),some (.tup (G.map tmD)),some (.dT (T.map kD)),some (tupI t.1),some (.int t.2)]) (T:=T) (k:=t.1) (x:=t.2) rfl rfl rfl (by have:=tk.len lw;omega)
  refine⟨_,?_,My.put T t.1 (cf T t.1+t.2),some (tupI t.1),some (.int t.2),rfl,tk.put (g.k.bx t htm),λvs=>?_⟩
  ·show(qaQ 2 (qL (qx 4) (qL (qx 5) qa8)) (tmD t) _).bind _=_
   have e1:qaQ 2 (qL (qx 4) (qL (qx 5) qa8)) (tmD t) [some (.int M),some (.tup (F.map tmD)),some (.tup (G.map tmD)),some (.dT (T.map kD)),o4,o5]=some [some (.int M),some (.tup (F.map tmD)),some (.tup (G.map tmD)),some (.dT (T.map kD)),some (tupI t.1),some (.int t.2)]:=by simp_all[tmD]
   rw[e1,qb]
   exact ap
  ·rw[qj1 tk.nd rfl,te vs,ht1,qc2];omega
 ·rintro ρ ⟨T,o4,o5,rfl,tk,te⟩
  rw[zan,zbS]at te
  have vf:=qbE (M:=M) (cs:=T) h0 (by have:=tk.len lw;omega)
  refine⟨_,by simp_all[vf] <;> rfl,My.qU M (qQ T),rfl,qm6 h0 tk,λvs=>?_⟩
  rw[<- te vs];exact qev T
noncomputable def zN(n:Int):List Int:=if n=1 then [0]else [0,0]
theorem qce{M n c:Int}(h0:0<M)(hn:n=1\/n=2):∃H,qb7 [.int M,.int n,.int c]=some (fD H)/\Fo M (zN n) H/\∀vs:List Int,(vs.length:Int)=n->M∣ev vs H-c:=by
 have hf:=qbE (M:=M) (cs:=[(zN n,c)]) h0 (by simp[-zac,-zad,qb,qg])
 have k:Fk (zN n) [(zN n,c)]:=⟨by simp[-zac,-zad,qb,qg],λt ht=>by
  rw[List.mem_singleton.mp ht]
  rcases hn with rfl|rfl
  ·exact⟨by decide,by decide⟩
  ·exact⟨⟨by decide,by decide⟩,by decide,by decide⟩⟩
 refine⟨My.qU M (qQ [(zN n,c)]),qG ?_,k.form h0,λvs hv=>?_⟩
 ·rcases hn with rfl|rfl
  ·have ek:asT (.tup [.int 0])=some [zao 0]:=rfl
   have e2:([(zN 1,c)]:List My.Tm).map kD=[([zao 0],.int c)]:=rfl
   rw[e2]at hf
   simp_all[qbV,qd,ek,hf,fD]
  ·have ek:asT (.tup [.int 0,.int 0])=some [zao 0,zao 0]:=rfl
   have e2:([(zN 2,c)]:List My.Tm).map kD=[([zao 0,zao 0],.int c)]:=rfl
   rw[e2]at hf
   simp_all[qbV,qd,ek,hf,fD]
 ·have h:=qev (M:=M) (vs:=vs) [(zN n,c)]
  have e:ev vs [(zN n,c)]=c:=by
   rw[qR,qdX]
   rcases hn with rfl|rfl
   ·obtain⟨v,rfl⟩:=List.length_eq_one_iff.mp (show vs.length=1 by omega)
    simp_all[zN,mon]
   ·obtain⟨v,u,rfl⟩:=len2 (show vs.length=2 by omega)
    simp_all[zN,mon]
  rw[e]at h
  exact h
theorem qpQ{n:Int}(hn:n=1\/n=2){d:List Int}(hd:(d.length:Int)=n):addE (zN n) d=d:=by
 rcases hn with rfl|rfl
 ·obtain⟨v,rfl⟩:=List.length_eq_one_iff.mp (show d.length=1 by omega)
  simp_all[zN,addE]
 ·obtain⟨v,u,rfl⟩:=len2 (show d.length=2 by omega)
  simp_all[zN,addE]
theorem qpz{n:Int}(hn:n=1\/n=2):((zN n).length:Int)=n:=by rcases hn with rfl|rfl <;> rfl
theorem qbC{M n a b:Int}(h0:0<M)(h1:M<10^60)(hn:n=1\/n=2){d:List Int}(hd:(d.length:Int)=n)(hz:Bx d (zN n))(lw:Low d){F:List My.Tm}(f:Fo M d F):∃H,qP [.int M,.int n,.tup [.int a,.int b],fD F]=some (fD H)/\Fo M d H/\∀vs:List Int,vs.length=d.length->M∣ev vs H-(a*ev vs F+b):=by
 obtain⟨A,ea,fa,va⟩:=qce (M:=M) (n:=n) (c:=a) h0 hn
 obtain⟨Bc,eb,fb,vb⟩:=qce (M:=M) (n:=n) (c:=b) h0 hn
 have zl:=qpz hn
 have za:=qpQ hn hd
 obtain⟨T,et,ft,vt⟩:=qgt h0 h1 fa f (by omega) (by rw[za];exact lw)
 rw[za]at ft
 obtain⟨H,eh,fh,vh⟩:=qiD h0 ft (fb.mono hz) lw
 refine⟨H,qG ?_,fh.fo,λvs hv=>?_⟩
 ·simp_all[qbP,qd,at0,at1,ea,eb,et,eh]
 ·have x1:=vh vs
  have x2:=vt vs (by omega)
  have x3:=qN (va vs (by omega)) (qw M (ev vs F))
  have x4:=vb vs (by omega)
  have:ev vs H-(a*ev vs F+b)=(ev vs H-(ev vs T+ev vs Bc))+(ev vs T-ev vs A*ev vs F)+(ev vs A*ev vs F-a*ev vs F)+(ev vs Bc-b):=by omega
  rw[this]
  exact zaQ (zaQ (zaQ x1 x2) x3) x4
noncomputable def exA(p:Nat)(k:List Int):Int:=k.getD p 0
theorem qgS{p:Nat}:∀(F:List My.Tm) (o1 o2:Option D),(∀t∈F,p<t.1.length)->qau (qaQ 2 (qL (qx 0) (qL (qx 1) qa8))) bYes (eOp qu (eVar 0) (eVar 2)) (F.map tmD) [o1,o2,some (.int (p:Int))]=some ((F.map λt=>exA p t.1).map .int)
 | [],_,_,_=>rfl
 | t::F,o1,o2,h=>by
  have ih:=qgS F (some (tupI t.1)) (some (.int t.2)) λu hu=>h u (zaz _ hu)
  have hp:=h t (zay ..)
  have e:atI (t.1.map D.int) (p:Int)=some (.int (exA p t.1)):=qaf (by
   unfold exA
   rw[zax,zaO hp,List.getD_eq_getElem?_getD,zaO hp];rfl)
  rw[zak,qau]
  simp[-zac,-zad,qb,qg,-zaB,tmD,tupI,e]at ih ⊢
  simp_all[-zaB,tmD,tupI,ih]
theorem qdW:∀(l:List Int) (a:Int),a<=l.foldl (λm x=>if x>m then x else m) a/\∀x∈l,x<=l.foldl (λm x=>if x>m then x else m) a
 | [],a=>⟨Int.le_refl _,λ_ h=>nomatch h⟩
 | y::l,a=>by
  obtain⟨h1,h2⟩:=qdW l (if y>a then y else a)
  rw[zbV]
  have h3:a<=(if y>a then y else a)/\y<=(if y>a then y else a):=by split <;> omega
  exact⟨by omega,λx hx=>by
   rcases List.mem_cons.mp hx with z|z
   ·subst z;omega
   ·exact h2 x z⟩
theorem qb3{b:Int}:∀(l:List Int) (a:Int),a<=b->(∀x∈l,x<=b)->l.foldl (λm x=>if x>m then x else m) a<=b
 | [],a,h,_=>h
 | y::l,a,h,g=>by
  rw[zbV]
  exact qb3 l _ (by have:=g y (zay ..);split <;> omega) λx hx=>g x (zaz _ hx)
theorem qnO{l:List Int}(h:∀x∈l,0<=x/\x<=2):∃m:Nat,My.maxL 0 l=(m:Int)/\m<=2/\∀x∈l,x<=(m:Int):=by
 cases l with
 | nil=>exact⟨0,rfl,by decide,λ_ h=>nomatch h⟩
 | cons y l=>
  have hy:=h y (zay ..)
  obtain⟨h1,h2⟩:=qdW l y
  have h3:=qb3 (b:=2) l y hy.2 λx hx=>(h x (zaz _ hx)).2
  have e:My.maxL 0 (y::l)=l.foldl (λm x=>if x>m then x else m) y:=rfl
  generalize l.foldl (λm x=>if x>m then x else m) y=m at h1 h2 h3 e
  refine⟨m.toNat,by omega,by omega,λx hx=>?_⟩
  rcases List.mem_cons.mp hx with z|z
  ·subst z;omega
  ·have:=h2 x z;omega
theorem qbW{p:Nat}{F:List My.Tm}(hl:F.length<=1000)(h:∀t∈F,p<t.1.length/\0<=exA p t.1/\exA p t.1<=2):∃m:Nat,qaH [fD F,.int (p:Int)]=some (.int (m:Int))/\m<=2/\∀t∈F,exA p t.1<=(m:Int):=by
 have ce:=qgS F none none λt ht=>(h t ht).1
 obtain⟨m,em,m2,hm⟩:=qnO (l:=F.map λt=>exA p t.1) λx hx=>by
  obtain⟨t,ht,rfl⟩:=List.mem_map.mp hx
  exact(h t ht).2
 have hz:szOk F.length=true:=decide_eq_true (by omega)
 refine⟨m,qG ?_,m2,λt ht=>hm _ (List.mem_map_of_mem (f:=λt=>exA p t.1) ht)⟩
 have q:=q_maxD (ns:=F.map λt=>exA p t.1) (d:=0)
 rw[em]at q
 simp_all[-zaB,-q_maxD,qdJ,qd,fD,hz,inS,ce,q]
noncomputable def sc(i:Nat)(u:List Int):List Int:=u.map λx=>(i:Int)*x
theorem sc_add{i:Nat}{u:List Int}(hu:u=[1]\/u=[0,1]):addE (sc i u) u=sc (i+1) u:=by
 rcases hu with rfl|rfl
 ·show [(i:Int)*1+1]=[((i+1:Nat):Int)*1]
  have e1:(i:Int)*1+1=((i+1:Nat):Int)*1:=by omega
  rw[e1]
 ·show [(i:Int)*0+0,(i:Int)*1+1]=[((i+1:Nat):Int)*0,((i+1:Nat):Int)*1]
  have e1:(i:Int)*1+1=((i+1:Nat):Int)*1:=by omega
  have e2:(i:Int)*0+0=((i+1:Nat):Int)*0:=by omega
  rw[e1,e2]
theorem sc_low{i:Nat}{u:List Int}(hu:u=[1]\/u=[0,1])(h:i<=6):Low (sc i u):=by
 rcases hu with rfl|rfl
 ·show(i:Int)*1<=6;omega
 ·show(i:Int)*0<=6/\(i:Int)*1<=6;omega
theorem qcT{M n:Int}(h0:0<M)(h1:M<10^60)(hn:n=1\/n=2){u:List Int}(hu:u=[1]\/u=[0,1])(hl:(u.length:Int)=n){F:List My.Tm}(f:Fo M u F){m:Nat}(hm:m<=2):∃Ps:List (List My.Tm),qbi [.int M,.int n,fD F,.int (m:Int)]=some (.lst (Ps.map fD))/\Ps.length=m+1/\∀(i:Nat) (P:List My.Tm),Ps[i]?=some P->Fo M (sc i u) P/\∀vs:List Int,vs.length=u.length->M∣ev vs P-ev vs F^i:=by
 suffices h:∃r,qbi [.int M,.int n,fD F,.int (m:Int)]=some r/\∃Ps:List (List My.Tm),r=.lst (Ps.map fD)/\Ps.length=m+1/\∀(i:Nat) (P:List My.Tm),Ps[i]?=some P->Fo M (sc i u) P/\∀vs:List Int,vs.length=u.length->M∣ev vs P-ev vs F^i by
  obtain⟨r,e1,H,rfl,x⟩:=h;exact⟨H,e1,x⟩
 obtain⟨O,eo,fo,vo⟩:=qce (M:=M) (n:=n) (c:=1) h0 hn
 have z0:sc 0 u=zN n:=by
  rcases hu with rfl|rfl
  ·have:n=1:=by simpa using hl.symm
   subst this;rfl
  ·have:n=2:=by simpa using hl.symm
   subst this;rfl
 refine qaF ?_
 unfold qcE
 rw[qe (qm (d:=.lst [fD O]) (by simp_all[qd,eo]))]
 refine qaZ (items:=qF 0 1 m) (by simp_all[qd,qcz (n:=m) (by omega)]) (λi ρ=>∃(Ps:List (List My.Tm)) (o:Option D),ρ=[some (.int M),some (.int n),some (fD F),some (.int (m:Int)),some (.lst (Ps.map fD)),o]/\Ps.length=i+1/\∀(i:Nat) (P:List My.Tm),Ps[i]?=some P->Fo M (sc i u) P/\∀vs:List Int,vs.length=u.length->M∣ev vs P-ev vs F^i) ⟨[O],none,by simp_all[qd],rfl,λi P hP=>?_⟩ ?_ ?_
 ·cases i with
  | zero=>
   have:O=P:=by simpa using hP
   subst this
   exact⟨by rw[z0];exact fo,λvs hv=>by rw[Int.pow_zero];exact vo vs (by omega)⟩
  | succ i=>simp[-zac,-zad,qb,qg]at hP
 ·rintro i x ρ hx ⟨Ps,o,rfl,hlen,hP⟩
  obtain⟨hlt,rfl⟩:=qK hx
  have hI:(0:Int)+(i:Int)*1=(i:Int):=by omega
  rw[hI]
  have hi:i<Ps.length:=by omega
  obtain⟨fp,vp⟩:=hP i Ps[i] (zaO hi)
  have hat:atI (Ps.map fD) (i:Int)=some (fD Ps[i]):=qaf (by rw[zax,zaO hi];rfl)
  have sl:(sc i u).length=u.length:=by simp_all[sc]
  obtain⟨Q,eq,fq,vq⟩:=qgt h0 h1 fp f sl (by rw[sc_add hu];exact sc_low hu (by omega))
  rw[sc_add hu]at fq
  have hz:szOk Ps.length=true:=decide_eq_true (by omega)
  refine⟨_,?_,Ps++[Q],some (.int (i:Int)),rfl,by simp_all[hlen],λj P hj=>?_⟩
  ·simp_all[turn,hat,eq,hz]
  ·by_cases hjl:j<Ps.length
   ·rw[zb4 hjl]at hj;exact hP j P hj
   ·have hj2:j=Ps.length:=by
     have:=(List.getElem?_eq_some_iff.mp hj).1
     simp[-zac,-zad,qb,qg]at this;omega
    subst hj2
    have:Q=P:=by simpa using hj
    subst this
    rw[hlen]
    refine⟨fq,λvs hv=>?_⟩
    have x1:=vq vs (by omega)
    have x2:=qN (vp vs hv) (qw M (ev vs F))
    rw[zbJ]
    have:ev vs Q-ev vs F^i*ev vs F=(ev vs Q-ev vs Ps[i]*ev vs F)+(ev vs Ps[i]*ev vs F-ev vs F^i*ev vs F):=by omega
    rw[this];exact zaQ x1 x2
 ·rintro ρ ⟨Ps,o,rfl,hlen,hP⟩
  rw[qJ]at hlen
  exact⟨_,by simp[-zac,-zad,qb,qg] <;> rfl,Ps,rfl,hlen,hP⟩
structure Fac(M:Int)(d:List Int)(w:List Int->Int)(l:List (List Key×D))(done:List My.Tm):Prop where
 at_:∀a:List Int,∃F,(valD l (a.map zao)).getD (.tup [])=fD F/\Nf M d F/\∀vs:List Int,vs.length=d.length->M∣ev vs F-grp a (w vs) done
theorem Fac.nil(M:Int)(d:List Int)(w:List Int->Int):Fac M d w [] []:=⟨λa=>⟨[],rfl,Nf.nil M d,λvs _=>⟨0,by simp_all[ev,grp]⟩⟩⟩
theorem qlg{a b:List Int}(h:(a.map zao:List Key)=b.map zao):a=b:=My.qb5.mp h
theorem Fac.put{M:Int}{d:List Int}{w:List Int->Int}{l:List (List Key×D)}{done:List My.Tm}(h:Fac M d w l done){t:My.Tm}{H:List My.Tm}(fh:Nf M d H)(vh:∀vs:List Int,vs.length=d.length->M∣ev vs H-(grp t.1.dropLast (w vs) done+t.2*w vs^(la t.1).toNat)):Fac M d w (putD l (t.1.dropLast.map zao) (fD H)) (done++[t]):=⟨λa=>by
 by_cases e:a=t.1.dropLast
 ·subst e
  refine⟨H,?_,fh,λvs hv=>?_⟩
  ·rw[qg5,if_pos rfl];rfl
  ·rw[qhc,if_pos rfl];exact vh vs hv
 ·obtain⟨F,e1,f1,v1⟩:=h.at_ a
  refine⟨F,?_,f1,λvs hv=>?_⟩
  ·rw[qg5,if_neg (λz=>e (qlg z))];exact e1
  ·rw[qhc,if_neg (λz=>e z.symm),Int.add_zero];exact v1 vs hv⟩
theorem qgo{M:Int}(h0:0<M)(h1:M<10^60){I:List My.Tm}(fi:Fo M [1,0] I){m:Nat}(hm:m<=2){w:List Int->Int}{l:List (List Key×D)}{outer:List My.Tm}(h:Fac M [0,2] w l outer):∃H,qbk [.int M,fD I,.int (m:Int),.dT l]=some (fD H)/\Nf M [2,2] H/\∀vs:List Int,vs.length=2->M∣ev vs H-pw (λj=>grp [(j:Int)] (w vs) outer) (ev vs I) (m+1):=by
 suffices h:∃r,qbk [.int M,fD I,.int (m:Int),.dT l]=some r/\∃H,r=fD H/\Nf M [2,2] H/\∀vs:List Int,vs.length=2->M∣ev vs H-pw (λj=>grp [(j:Int)] (w vs) outer) (ev vs I) (m+1) by
  obtain⟨r,e1,H,rfl,x⟩:=h;exact⟨H,e1,x⟩
 have hr:qaV [.int (m:Int),.int (-1),.int (-1)]=some (qF (m:Int) (-1) (m+1)):=by
  rw[qd2 (by omega) (by omega) (by decide) (by decide)]
  have e:((m:Int)-(-1)).toNat=m+1:=by omega
  rw[e]
 refine qaF ?_
 unfold qc1
 rw[qe (qm (d:=fD []) (by simp_all[fD]))]
 refine qaZ (items:=qF (m:Int) (-1) (m+1)) (by simp_all[qd,hr]) (λi ρ=>∃(T:List My.Tm) (o:Option D),ρ=[some (.int M),some (fD I),some (.int (m:Int)),some (.dT l),some (fD T),o]/\Nf M [(i:Int)-1,2] T/\i<=m+1/\∀vs:List Int,vs.length=2->M∣(ev vs T*ev vs I^(m+1-i)+pw (λj=>grp [(j:Int)] (w vs) outer) (ev vs I) (m+1-i))-pw (λj=>grp [(j:Int)] (w vs) outer) (ev vs I) (m+1)) ⟨[],none,by simp_all[qd],Nf.nil M _,by omega,λvs _=>?_⟩ ?_ ?_
 ·rw[qdX,Int.zero_mul,Int.zero_add,Nat.sub_zero];exact qw _ _
 ·rintro i x ρ hx ⟨T,o,rfl,ft,hi,vt⟩
  obtain⟨hlt,rfl⟩:=qK hx
  obtain⟨r,hr⟩:∃r,m+1-i=r+1:=⟨m-i,by omega⟩
  have hI:(m:Int)+(i:Int)*(-1)=(r:Int):=by omega
  rw[hI]
  obtain⟨F,eF,fF,vF⟩:=h.at_ [(r:Int)]
  have lk:=qen l [(r:Int)]
  obtain⟨Q,eq,fq,vq⟩:=qgt h0 h1 ft.fo fi rfl ⟨by omega,by decide⟩
  have fq:Fo M [((i+1:Nat):Int)-1,2] Q:=fq.mono ⟨⟨by omega,by omega⟩,by decide,by decide⟩
  obtain⟨T',et,ft',vt'⟩:=qiD h0 fq (fF.fo.mono ⟨⟨by omega,by omega⟩,by decide,by decide⟩) ⟨by omega,by decide⟩
  refine⟨_,?_,T',some (.int (r:Int)),rfl,ft',by omega,λvs hv=>?_⟩
  ·have lk2:qal (.dT l) (.tup [.int (r:Int)])=some (valD l [zao (r:Int)]):=lk
   have eF2:(valD l [zao (r:Int)]).getD (.tup [])=fD F:=eF
   simp_all[turn,eq,lk2,eF2,et]
  ·have hr2:m+1-(i+1)=r:=by omega
   have v:=vt vs hv
   rw[hr]at v
   rw[hr2]
   have a1:=vt' vs
   have a2:=vq vs hv
   have a3:=vF vs hv
   have e1:pw (λj=>grp [(j:Int)] (w vs) outer) (ev vs I) (r+1)=pw (λj=>grp [(j:Int)] (w vs) outer) (ev vs I) r+ev vs I^r*grp [(r:Int)] (w vs) outer:=rfl
   rw[e1,zbJ]at v
   have a4:M∣ev vs T'-(ev vs T*ev vs I+grp [(r:Int)] (w vs) outer):=by
    have:ev vs T'-(ev vs T*ev vs I+grp [(r:Int)] (w vs) outer)=(ev vs T'-(ev vs Q+ev vs F))+(ev vs Q-ev vs T*ev vs I)+(ev vs F-grp [(r:Int)] (w vs) outer):=by omega
    rw[this];exact zaQ (zaQ a1 a2) a3
   have a5:=qN a4 (qw M (ev vs I^r))
   generalize pw (λj=>grp [(j:Int)] (w vs) outer) (ev vs I) (m+1)=W at v ⊢
   generalize pw (λj=>grp [(j:Int)] (w vs) outer) (ev vs I) r=V at v ⊢
   generalize grp [(r:Int)] (w vs) outer=S at v a5
   generalize ev vs I^r=p at v a5 ⊢
   have:ev vs T'*p+V-W=(ev vs T'*p-(ev vs T*ev vs I+S)*p)+(ev vs T*(p*ev vs I)+(V+p*S)-W):=by grind
   rw[this];exact zaQ a5 v
 ·rintro ρ ⟨T,o,rfl,ft,hi,vt⟩
  rw[qJ]at ft vt
  refine⟨_,by simp[-zac,-zad,qb,qg] <;> rfl,T,rfl,ft.mono ⟨⟨by omega,by omega⟩,by decide,by decide⟩,λvs hv=>?_⟩
  have:=vt vs hv
  rw[Nat.sub_self,Int.pow_zero,Int.mul_one]at this
  have e:pw (λj=>grp [(j:Int)] (w vs) outer) (ev vs I) 0=0:=rfl
  rw[e,Int.add_zero]at this
  exact this
theorem qhh{M n:Int}(h0:0<M)(h1:M<10^60)(hn:n=1\/n=2){last:Nat}{u dd:List Int}(hd:(dd.length:Int)=n)(hz:Bx dd (zN n))(lw:Low dd)(hul:u.length=dd.length){I:List My.Tm}{Ps:List (List My.Tm)}(hP:∀(i:Nat) (P:List My.Tm),Ps[i]?=some P->Fo M dd P/\∀vs:List Int,vs.length=u.length->M∣ev vs P-ev vs I^i){outer:List My.Tm}(ho:∀t∈outer,cutD (t.1.map D.int) none (some (last:Int))=t.1.dropLast.map D.int/\atI (t.1.map D.int) (last:Int)=some (D.int (la t.1))/\0<=la t.1/\la t.1<(Ps.length:Int))(hlen:outer.length<=1000){inn:D}{rest:Sv}{R:D->Prop}
  (k:∀(l:List (List Key×D)) (o7 o8 o9 o10:Option D),Fac M dd (λvs=>ev vs I) l outer->∃r,rest [some (.int M),some (.int n),some (fD outer),some inn,some (.int (last:Int)),some (.lst (Ps.map fD)),some (.dT l),o7,o8,o9,o10]=some (.rt r)/\R r) :
  ∃r,sSeq (sFor (qhU (eVar 2)) (qaQ 2 (qL (qx 7) (qL (qx 8) qa8))) (sSeq (sSet 9 (eSl dSlA (eVar 7) qli (qly (eVar 4))))
   (sSeq (sSet 10 (qT qP (qz (eVar 0) (qz (eVar 1) (qz (eTup (qz (eVar 8) (qz (eC (.int 0)) lNil))) (qz (eOp qu (eVar 5) (eOp qu (eVar 7) (eVar 4))) lNil))))))
   (sPut 6 (eVar 9) (qT qdF (qz (eVar 0) (qz (qfQ (eVar 6) (eVar 9) (eTup lNil)) (qz (eVar 10) lNil)))))))) rest [some (.int M),some (.int n),some (fD outer),some inn,some (.int (last:Int)),some (.lst (Ps.map fD)),some (.dT []),none,none,none,none]=some (.rt r)/\R r:=by
 refine qaZ (items:=outer.map tmD) (by simp_all[fD]) (λi ρ=>∃(l:List (List Key×D)) (o7 o8 o9 o10:Option D),ρ=[some (.int M),some (.int n),some (fD outer),some inn,some (.int (last:Int)),some (.lst (Ps.map fD)),some (.dT l),o7,o8,o9,o10]/\Fac M dd (λvs=>ev vs I) l (outer.take i)/\l.length<=i) ⟨[],none,none,none,none,rfl,by rw[List.take_zero];exact Fac.nil M dd _,zam _⟩ ?_ ?_
 ·rintro i x ρ hx ⟨l,o7,o8,o9,o10,rfl,fc,hl⟩
  rw[zax]at hx
  obtain⟨t,ht,rfl⟩:=map_some hx
  have hi:=(List.getElem?_eq_some_iff.mp ht).1
  obtain⟨c1,c2,c3,c4⟩:=ho t (zaH ht)
  have ht1:outer.take (i+1)=outer.take i++[t]:=by rw[zbs,ht];rfl
  obtain⟨e,he⟩:∃e:Nat,la t.1=(e:Int):=⟨(la t.1).toNat,by omega⟩
  have hel:e<Ps.length:=by omega
  obtain⟨fp,vp⟩:=hP e Ps[e] (zaO hel)
  have hat:atI (Ps.map fD) (e:Int)=some (fD Ps[e]):=qaf (by rw[zax,zaO hel];rfl)
  obtain⟨H,eh,fh,vh⟩:=qbC (a:=t.2) (b:=0) h0 h1 hn hd hz lw fp
  obtain⟨F,eF,fF,vF⟩:=fc.at_ t.1.dropLast
  obtain⟨Q,eq,fq,vq⟩:=qiD h0 fF.fo fh lw
  have lk:=qen l t.1.dropLast
  have pt:=qnk (l:=l) t.1.dropLast (fD Q) (by omega)
  have pl:=qki l (t.1.dropLast.map zao:List Key) (fD Q)
  rw[he]at c2
  refine⟨_,?_,putD l (t.1.dropLast.map zao) (fD Q),some (tupI t.1),some (.int t.2),some (tupI t.1.dropLast),some (fD H),rfl,?_,by omega⟩
  ·generalize putD l (t.1.dropLast.map zao:List Key) (fD Q)=l' at pt
   have e9:dSlA (tupI t.1) none (some (last:Int))=some (tupI t.1.dropLast):=by unfold tupI;rw[q_slT,c1]
   have e10:qu (tupI t.1) (.int (last:Int))=some (.int (e:Int)):=by unfold tupI;rw[q_itT];exact c2
   generalize tupI t.1.dropLast=ta at lk pt e9
   generalize valD l (t.1.dropLast.map zao:List Key)=vv at lk eF
   have e8:tmD t=.tup [tupI t.1,.int t.2]:=rfl
   rw[e8]
   generalize tupI t.1=tt at e9 e10
   simp_all[turn,e9,e10,hat,eh,lk,eF,eq,pt]
  ·rw[ht1]
   refine fc.put fq λvs hv=>?_
   have x1:=vq vs
   have x2:=vF vs hv
   have x3:=vh vs hv
   have x4:=qN (qw M t.2) (vp vs (by omega))
   have e2:(la t.1).toNat=e:=by omega
   rw[e2]
   have:ev vs Q-(grp t.1.dropLast (ev vs I) (outer.take i)+t.2*ev vs I^e)=(ev vs Q-(ev vs F+ev vs H))+(ev vs F-grp t.1.dropLast (ev vs I) (outer.take i))+(ev vs H-(t.2*ev vs Ps[e]+0))+(t.2*ev vs Ps[e]-t.2*ev vs I^e):=by omega
   rw[this];exact zaQ (zaQ (zaQ x1 x2) x3) x4
 ·rintro ρ ⟨l,o7,o8,o9,o10,rfl,fc,hl⟩
  rw[zan,zbS]at fc
  exact k l o7 o8 o9 o10 fc
theorem qqd{M:Int}(h0:0<M)(h1:M<10^60){outer I:List My.Tm}(fo:Fo M [2] outer)(fi:Fo M [1] I):∃H,qi0 [.int M,.int 1,fD outer,.lst [fD I]]=some (fD H)/\Nf M [2] H/\∀vs:List Int,vs.length=1->M∣ev vs H-ev [ev vs I] outer:=by
 suffices h:∃r,qi0 [.int M,.int 1,fD outer,.lst [fD I]]=some r/\∃H,r=fD H/\Nf M [2] H/\∀vs:List Int,vs.length=1->M∣ev vs H-ev [ev vs I] outer by
  obtain⟨r,e1,H,rfl,x⟩:=h;exact⟨H,e1,x⟩
 have hlen:=fo.k.len (show(2:Int)<=6 by decide)
 have one:∀t∈outer,∃x,t.1=[x]/\0<=x/\x<=2:=λt ht=>by
  rcases(fo.k.bx t ht).shape with⟨a,x,e1,e2,h⟩|⟨a,b,x,y,e1,e2,h⟩
  ·cases e1;exact⟨x,e2,h⟩
  ·cases e1
 obtain⟨m,em,m2,hm⟩:=qbW (p:=0) (F:=outer) (by omega) λt ht=>by
  obtain⟨x,e,a,b⟩:=one t ht
  rw[e];exact⟨by simp[-zac,-zad,qb,qg],a,b⟩
 obtain⟨Ps,ep,lp,hP⟩:=qcT (n:=1) h0 h1 (.inl rfl) (u:=[1]) (.inl rfl) rfl fi m2
 refine qaF ?_
 unfold qn4
 rw[qe (qm (d:=.int 0) (by simp_all[qd]))]
 have em':qaH [fD outer,.int 0]=some (.int (m:Int)):=em
 rw[qe (qm (d:=.lst (Ps.map fD)) (by simp_all[qd,at0,em',ep]))]
 rw[qe (qm (d:=.dT []) (by simp[-zac,-zad,qb,qg]))]
 refine qhh (last:=0) (u:=[1]) (dd:=[2]) h0 h1 (.inl rfl) rfl ⟨by decide,by decide⟩ (show(2:Int)<=6 by decide) rfl (I:=I) (λi P hi=>?_) (λt ht=>?_) (by omega) ?_
 ·have hil:=(List.getElem?_eq_some_iff.mp hi).1
  obtain⟨f,v⟩:=hP i P hi
  exact⟨f.mono ⟨by show 0<=(i:Int)*1;omega,by show(i:Int)*1<=2;omega⟩,v⟩
 ·obtain⟨x,e,a,b⟩:=one t ht
  have:=hm t ht
  rw[e]at this ⊢
  have z:exA 0 [x]=x:=rfl
  rw[z]at this
  exact⟨rfl,rfl,a,by show x<_;omega⟩
 ·intro l o7 o8 o9 o10 fc
  obtain⟨F,eF,fF,vF⟩:=fc.at_ []
  have lk:=qen l []
  have lk2:qal (.dT l) (.tup [])=some (valD l []):=lk
  have eF2:(valD l []).getD (.tup [])=fD F:=eF
  refine⟨fD F,by simp_all[lk2,eF2],F,rfl,fF,λvs hv=>?_⟩
  have:=vF vs hv
  rw[qjA (d:=2) fo.k.bx]at this
  exact this
theorem qoZ{M:Int}(h0:0<M)(h1:M<10^60){outer I J:List My.Tm}(fo:Fo M [2,2] outer)(fi:Fo M [1,0] I)(fj:Fo M [0,1] J):∃H,qi0 [.int M,.int 2,fD outer,.lst [fD I,fD J]]=some (fD H)/\Nf M [2,2] H/\∀vs:List Int,vs.length=2->M∣ev vs H-ev [ev vs I,ev vs J] outer:=by
 suffices h:∃r,qi0 [.int M,.int 2,fD outer,.lst [fD I,fD J]]=some r/\∃H,r=fD H/\Nf M [2,2] H/\∀vs:List Int,vs.length=2->M∣ev vs H-ev [ev vs I,ev vs J] outer by
  obtain⟨r,e1,H,rfl,x⟩:=h;exact⟨H,e1,x⟩
 have hlen:=fo.k.len (show(2:Int)<=6/\(2:Int)<=6 by decide)
 have two:∀t∈outer,∃x y,t.1=[x,y]/\(0<=x/\x<=2)/\0<=y/\y<=2:=λt ht=>by
  rcases(fo.k.bx t ht).shape with⟨a,x,e1,e2,h⟩|⟨a,b,x,y,e1,e2,h⟩
  ·cases e1
  ·cases e1;exact⟨x,y,e2,h⟩
 obtain⟨m,em,m2,hm⟩:=qbW (p:=1) (F:=outer) (by omega) λt ht=>by
  obtain⟨x,y,e,a,b⟩:=two t ht
  rw[e];exact⟨by simp[-zac,-zad,qb,qg],b.1,b.2⟩
 obtain⟨m0,em0,m02,hm0⟩:=qbW (p:=0) (F:=outer) (by omega) λt ht=>by
  obtain⟨x,y,e,a,b⟩:=two t ht
  rw[e];exact⟨by simp[-zac,-zad,qb,qg],a.1,a.2⟩
 obtain⟨Ps,ep,lp,hP⟩:=qcT (n:=2) h0 h1 (.inr rfl) (u:=[0,1]) (.inr rfl) rfl fj m2
 refine qaF ?_
 unfold qn4
 rw[qe (qm (d:=.int 1) (by simp_all[qd]))]
 have em':qaH [fD outer,.int 1]=some (.int (m:Int)):=em
 have em0':qaH [fD outer,.int 0]=some (.int (m0:Int)):=em0
 rw[qe (qm (d:=.lst (Ps.map fD)) (by simp_all[qd,at1,em',ep]))]
 rw[qe (qm (d:=.dT []) (by simp[-zac,-zad,qb,qg]))]
 refine qhh (last:=1) (u:=[0,1]) (dd:=[0,2]) h0 h1 (.inr rfl) rfl ⟨⟨by decide,by decide⟩,by decide,by decide⟩ ⟨by decide,by decide⟩ rfl (I:=J) (λi P hi=>?_) (λt ht=>?_) (by omega) ?_
 ·have hil:=(List.getElem?_eq_some_iff.mp hi).1
  obtain⟨f,v⟩:=hP i P hi
  exact⟨f.mono ⟨⟨by show 0<=(i:Int)*0;omega,by show(i:Int)*0<=0;omega⟩,by show 0<=(i:Int)*1;omega,by show(i:Int)*1<=2;omega⟩,v⟩
 ·obtain⟨x,y,e,a,b⟩:=two t ht
  have:=hm t ht
  rw[e]at this ⊢
  have z:exA 1 [x,y]=y:=rfl
  rw[z]at this
  exact⟨rfl,rfl,b.1,by show y<_;omega⟩
 ·intro l o7 o8 o9 o10 fc
  obtain⟨H,eH,fH,vH⟩:=qgo h0 h1 fi m02 fc
  refine⟨fD H,?_,H,rfl,fH,λvs hv=>?_⟩
  ·clear vH fH fc
   generalize fD H=rH at eH ⊢
   generalize (D.dT l)=dl at eH ⊢
   generalize fD outer=do_ at em0' ⊢
   generalize fD I=di at eH ⊢
   generalize fD J=dj at ⊢
   generalize D.lst (Ps.map fD)=dp at ⊢
   have e4:(bOf (eOp dEq (eVar 4) (eC (.int 0)))) [some (.int M),some (.int 2),some do_,some (.lst [di,dj]),some (.int ((1:Nat):Int)),some dp,some dl,o7,o8,o9,o10]=some false:=by simp[-zac,-zad,qb,qg]
   rw[qe ((if_f e4).trans q_nx)]
   refine rt_v ?_
   have e3:(eOp qu (eVar 3) (eC (.int 0))) [some (.int M),some (.int 2),some do_,some (.lst [di,dj]),some (.int ((1:Nat):Int)),some dp,some dl,o7,o8,o9,o10]=some di:=by simp_all[at0]
   rw[q_call,q_lcons,q_lcons,e3,q_lcons,q_call,q_lcons,q_lcons]
   simp_all[em0',eH]
  have:=vH vs hv
  rw[qja (d:=2) (e:=2) λt ht=>⟨fo.k.bx t ht,by
   obtain⟨x,y,e,a,b⟩:=two t ht
   refine⟨x,y,e,?_⟩
   have:=hm0 t ht
   rw[e]at this
   exact this⟩]at this
  exact this
theorem IsF.uniq{M many:Int}{R:List Ro}(g:GR M many R){k:Int}:∀ {x:Int} {w w':List Int},IsF R k x w->IsF R k x w'->w=w'
 | x,[],[],_,_=>rfl
 | x,[],n::w,h,h'=>by
  obtain⟨r,hr,hj,h2,_⟩:=h'
  have a:=(g.jk r (qaM hr)).2.1
  have b:=Rch.le g h2.rch
  have h:x=k:=h
  omega
 | x,n::w,[],h',h=>by
  obtain⟨r,hr,hj,h2,_⟩:=h'
  have a:=(g.jk r (qaM hr)).2.1
  have b:=Rch.le g h2.rch
  have h:x=k:=h
  omega
 | x,n::w,m::v,⟨r,hr,hj,h2,h3⟩,⟨q,hq,hi,g2,g3⟩=>by
  have nm:n=m:=by
   rcases Int.lt_trichotomy n m with z|z|z
   ·exact absurd h2.rch (g3 n r z hr hj)
   ·exact z
   ·exact absurd g2.rch (h3 m q z hq hi)
  subst nm
  rw[hr]at hq;cases hq
  rw[IsF.uniq g h2 g2]
theorem qee{M:Int}{rs:List Ro}{i:Int}:rAt (rs.map (red M)) i=(rAt rs i).map (red M):=by
 unfold rAt
 by_cases h:0<=i
 ·rw[if_pos h,if_pos h,zax]
 ·rw[if_neg h,if_neg h];rfl
theorem qkx{w:List Int}{x:Int}(h:w.length<=900):qav (tupI w) (.tup [.int x])=some (tupI (w++[x])):=by
 have zk:szOk (w.length+1)=true:=decide_eq_true (by omega)
 simp_all[tupI,zk]
theorem rd_0{r:Ro}:qu (rdD r) (.int 0)=some (.int r.j):=by unfold rdD;rw[q_itT];exact at0
theorem rd_1{r:Ro}:qu (rdD r) (.int 1)=some (.int r.k):=by unfold rdD;rw[q_itT];exact at1
theorem rd_2{r:Ro}:qu (rdD r) (.int 2)=some (.int r.a):=by unfold rdD;rw[q_itT];exact at2
theorem rd_3{r:Ro}:qu (rdD r) (.int 3)=some (.int r.b):=by unfold rdD;rw[q_itT];exact at3
theorem qhZ{M:Int}{n:Nat}{rs:List Ro}(g:GR M (n:Int) (rs.map (red M))){j k:Int}(j0:0<=j)(k0:0<=k/\k<(n:Int))(h:Rch (rs.map (red M)) j k)(ne:j≠k){d4:D}{o5:Option D}:∃(r:Nat) (q:Ro),sSeq (sSet 5 (eC (.int 0))) (qfC (bOr (bOf (eOp dNe (eOp qu (eOp qu (eVar 0) (eVar 5)) (eC (.int 0))) (eVar 2))) (bNot (bOf (eOp qu (eOp qu (eVar 1) (eOp qu (eOp qu (eVar 0) (eVar 5)) (eC (.int 1)))) (eVar 3))))) (sSet 5 (eOp qav (eVar 5) (eC (.int 1))))) [some (.lst (rs.map rdD)),some (matT n (RT (rs.map (red M)))),some (.int j),some (.int k),some d4,o5]=some (.nx [some (.lst (rs.map rdD)),some (matT n (RT (rs.map (red M)))),some (.int j),some (.int k),some d4,some (.int (r:Int))])/\rAt rs (r:Int)=some q/\q.j=j/\Rch (rs.map (red M)) q.k k/\∀m r',m<(r:Int)->rAt (rs.map (red M)) m=some r'->r'.j=j->¬ Rch (rs.map (red M)) r'.k k:=by
 rcases h.inv with z|⟨i,r0,hi,hj,hr⟩
 ·exact absurd z ne
 rw[qe (qm (d:=.int 0) (by simp[-zac,-zad,qb,qg]))]
 rw[qee]at hi
 obtain⟨q0,hq0,rfl⟩:=map_some hi
 have il:=qdG hq0
 obtain⟨ρ',e,r,q,rfl,h1,h2,h3,h4⟩:=qgh (c:=(bOr (bOf (eOp dNe (eOp qu (eOp qu (eVar 0) (eVar 5)) (eC (.int 0))) (eVar 2))) (bNot (bOf (eOp qu (eOp qu (eVar 1) (eOp qu (eOp qu (eVar 0) (eVar 5)) (eC (.int 1)))) (eVar 3)))))) (b:=(sSet 5 (eOp qav (eVar 5) (eC (.int 1))))) (λm ρ=>∃r:Nat,ρ=[some (.lst (rs.map rdD)),some (matT n (RT (rs.map (red M)))),some (.int j),some (.int k),some d4,some (.int (r:Int))]/\(r:Int)<=i/\rs.length-r=m/\∀m r',m<(r:Int)->rAt (rs.map (red M)) m=some r'->r'.j=j->¬ Rch (rs.map (red M)) r'.k k) (λρ=>∃(r:Nat) (q:Ro),ρ=[some (.lst (rs.map rdD)),some (matT n (RT (rs.map (red M)))),some (.int j),some (.int k),some d4,some (.int (r:Int))]/\rAt rs (r:Int)=some q/\q.j=j/\Rch (rs.map (red M)) q.k k/\∀m r',m<(r:Int)->rAt (rs.map (red M)) m=some r'->r'.j=j->¬ Rch (rs.map (red M)) r'.k k) (by
  rintro m ρ ⟨r,rfl,ri,rl,hno⟩
  have rlt:r<rs.length:=by omega
  have hq:rAt rs (r:Int)=some rs[r]:=by unfold rAt;rw[if_pos (by omega),zbz];exact zaO rlt
  have hqm:rs[r]∈rs:=List.getElem_mem rlt
  generalize rs[r]=q at hq hqm
  have at_:=qgM hq
  have gq:=g.jk (red M q) (List.mem_map_of_mem hqm)
  have gq:0<=q.j/\q.j<q.k/\q.k<(n:Int):=gq
  have m1:=ql6 (K:=n) (P:=RT (rs.map (red M))) (k:=q.k) (by omega) gq.2.2
  have m2:=qjb (K:=n) (p:=RT (rs.map (red M)) q.k) k0.1 k0.2
  have go:(¬ (q.j=j/\Rch (rs.map (red M)) q.k k))->∃m' ρ',m'<m/\sSet 5 (eOp qav (eVar 5) (eC (.int 1))) [some (.lst (rs.map rdD)),some (matT n (RT (rs.map (red M)))),some (.int j),some (.int k),some d4,some (.int (r:Int))]=some (.nx ρ')/\∃r:Nat,ρ'=[some (.lst (rs.map rdD)),some (matT n (RT (rs.map (red M)))),some (.int j),some (.int k),some d4,some (.int (r:Int))]/\(r:Int)<=i/\rs.length-r=m'/\∀m r',m<(r:Int)->rAt (rs.map (red M)) m=some r'->r'.j=j->¬ Rch (rs.map (red M)) r'.k k:=λno=>by
   have ne:(r:Int)≠i:=λz=>by
    rw[z,hq0]at hq;cases hq
    exact no ⟨hj,hr⟩
   refine⟨rs.length-(r+1),_,by omega,by simp[-zac,-zad,qb,qg] <;> rfl,r+1,rfl,by omega,rfl,λm' r' hm' hr' hj'=>?_⟩
   by_cases z:m'<(r:Int)
   ·exact hno m' r' z hr' hj'
   ·have:m'=(r:Int):=by omega
    subst this
    rw[qee,hq]at hr'
    cases hr'
    exact λz=>no ⟨hj',z⟩
  by_cases c1:q.j=j
  ·by_cases c2:Rch (rs.map (red M)) q.k k
   ·refine .inr ⟨?_,r,q,rfl,hq,c1,c2,hno⟩
    rw[qd4.mpr c2]at m2
    simp_all[at_,rd_0,rd_1,c1,m1,m2]
   ·have rf:RT (rs.map (red M)) q.k k=false:=by rw[Bool.eq_false_iff];exact λz=>c2 (qd4.mp z)
    rw[rf]at m2
    exact .inl ⟨by simp_all[at_,rd_0,rd_1,c1,m1,m2],go λz=>c2 z.2⟩
  ·exact .inl ⟨by simp_all[at_,rd_0,c1],go λz=>c1 z.1⟩) 100000 rs.length [some (.lst (rs.map rdD)),some (matT n (RT (rs.map (red M)))),some (.int j),some (.int k),some d4,some (.int ((0:Nat):Int))] (by
   have:=g.len;rw[zan]at this;omega) ⟨0,rfl,by omega,by omega,λm r' hm hr'=>by
   unfold rAt at hr'
   rw[if_neg (by omega)]at hr';cases hr'⟩
 exact⟨r,q,e,h1,h2,h3,h4⟩
theorem qgu{M:Int}{n:Nat}{rs:List Ro}(g:GR M (n:Int) (rs.map (red M)))(hn:n<=6){j k:Int}(j0:0<=j)(k0:0<=k/\k<(n:Int))(h:Rch (rs.map (red M)) j k):∃w,qaq [.lst (rs.map rdD),matT n (RT (rs.map (red M))),.int j,.int k]=some (tupI w)/\IsF (rs.map (red M)) k j w:=by
 suffices h:∃d,qaq [.lst (rs.map rdD),matT n (RT (rs.map (red M))),.int j,.int k]=some d/\∃w,d=tupI w/\IsF (rs.map (red M)) k j w by
  obtain⟨d,e,w,rfl,h⟩:=h;exact⟨w,e,h⟩
 refine qaF ?_
 unfold qdj
 rw[qe (qm (d:=tupI []) (by simp_all[tupI]))]
 have jk:=Rch.le g h
 refine qji (λm ρ=>∃(j':Int) (w:List Int) (o:Option D),ρ=[some (.lst (rs.map rdD)),some (matT n (RT (rs.map (red M)))),some (.int j'),some (.int k),some (tupI w),o]/\0<=j'/\Rch (rs.map (red M)) j' k/\(k-j').toNat=m/\(w.length:Int)<=j'/\∀v,IsF (rs.map (red M)) k j' v->IsF (rs.map (red M)) k j (w++v)) (λρ=>∃(w:List Int) (o:Option D),ρ=[some (.lst (rs.map rdD)),some (matT n (RT (rs.map (red M)))),some (.int k),some (.int k),some (tupI w),o]/\IsF (rs.map (red M)) k j w) (k-j).toNat (by omega) ⟨j,[],none,by simp_all[qd],j0,h,rfl,by simp[-zac,-zad,qb,qg];omega,λv hv=>hv⟩ ?_ ?_
 ·rintro m ρ ⟨j',w,o,rfl,j0',hr,hm,hw,hv⟩
  by_cases ne:j'=k
  ·subst ne
   refine .inr ⟨by simp[-zac,-zad,qb,qg],w,o,rfl,?_⟩
   have:=hv [] rfl
   rwa [List.append_nil]at this
  ·obtain⟨r,q,e,h1,h2,h3,h4⟩:=qhZ g (d4:=tupI w) (o5:=o) j0' k0 hr ne
   have at_:=qgM h1
   have gq:=g.jk (red M q) (List.mem_map_of_mem (qaM h1))
   have gq:0<=q.j/\q.j<q.k/\q.k<(n:Int):=gq
   have qk:=Rch.le g h3
   have jk':=Rch.le g hr
   have sn:=qkx (w:=w) (x:=(r:Int)) (by omega)
   have es:∀ {g h k:Sv} {ρ:Rho},sSeq g (sSeq h k) ρ=sSeq (sSeq g h) k ρ:=by
    intro g h k ρ
    unfold sSeq
    cases g ρ with
    | none=>rfl
    | some o=>cases o <;> rfl
   refine .inl ⟨by simp_all[ne],(k-q.k).toNat,[some (.lst (rs.map rdD)),some (matT n (RT (rs.map (red M)))),some (.int q.k),some (.int k),some (tupI (w++[(r:Int)])),some (.int (r:Int))],by omega,?_,q.k,w++[(r:Int)],_,rfl,by omega,h3,rfl,by simp[-zac,-zad,qb,qg];omega,λv hv'=>?_⟩
   ·rw[es,qe e]
    simp_all[sn,at_,rd_1]
   ·rw[List.append_assoc]
    exact hv _ ⟨red M q,by rw[qee,h1];rfl,h2,hv',h4⟩
 ·rintro ρ ⟨w,o,rfl,hw⟩
  exact⟨_,by simp[-zac,-zad,qb,qg] <;> rfl,w,rfl,hw⟩
theorem IsF.at_{R:List Ro}{k:Int}:∀ {x:Int} {w:List Int},IsF R k x w->∀n∈w,∃r,rAt R n=some r
 | _,[],_,_,h=>nomatch h
 | _,m::w,⟨r,hr,_,h2,_⟩,n,hn=>by
  rcases List.mem_cons.mp hn with z|z
  ·exact⟨r,z ▸ hr⟩
  ·exact IsF.at_ h2 n z
theorem IsF.len{M many:Int}{R:List Ro}(g:GR M many R){k:Int}:∀ {x:Int} {w:List Int},IsF R k x w->(w.length:Int)<=k-x
 | x,[],h=>by have h:x=k:=h;simp[-zac,-zad,qb,qg];omega
 | x,m::w,⟨r,hr,hj,h2,_⟩=>by
  have a:=IsF.len g h2
  have b:=(g.jk r (qaM hr)).2.1
  simp[-zac,-zad,qb,qg];omega
theorem qgr{M:Int}{rs:List Ro}(h0:0<M)(h60:M<10^60)(hb:∀r∈rs,Bd 61 r.a/\Bd 61 r.b){w:List Int}(hw:∀n∈w,∃r,rAt (rs.map (red M)) n=some r){x:Int}(hx:0<=x/\x<M):qbn [.int M,.lst (rs.map rdD),tupI w,.int x]=some (.int (goR (rs.map (red M)) M x w)):=by
 refine qG ?_
 unfold qc5
 refine qar (items:=w.map .int) (by simp_all[qd,tupI]) (λi ρ=>∃o,ρ=[some (.int M),some (.lst (rs.map rdD)),some (tupI w),some (.int (goR (rs.map (red M)) M x (w.take i))),o]) ⟨none,by simp_all[qd,goR]⟩ ?_ ?_
 ·rintro i y ρ hy ⟨o,rfl⟩
  rw[zax]at hy
  obtain⟨n,hn,rfl⟩:=map_some hy
  obtain⟨r,hr⟩:=hw n (zaH hn)
  have hr':=hr
  rw[qee]at hr'
  obtain⟨q,hq,rfl⟩:=map_some hr'
  have bq:=hb q (qaM hq)
  have rg:=qbD (rs:=rs.map (red M)) h0 (w.take i) x hx
  have es:goR (rs.map (red M)) M x (w.take (i+1))=((red M q).a*goR (rs.map (red M)) M x (w.take i)+(red M q).b)%M:=by
   rw[zbs,hn]
   unfold goR
   rw[List.foldl_append]
   simp_all[hr]
  have at_:=qgM hq
  generalize goR (rs.map (red M)) M x (w.take i)=y at rg es
  have mu:=bq.1.mulH (Bd.of h60 ⟨rg.1,zbB rg.2⟩) (by decide) (by decide)
  have em:(q.a*y+q.b)%M=goR (rs.map (red M)) M x (w.take (i+1)):=by
   rw[es]
   show _=(q.a%M*y+q.b%M)%M
   refine qa5 ?_
   have d1:M∣q.a-q.a%M:=Int.dvd_self_sub_emod
   have d2:M∣q.b-q.b%M:=Int.dvd_self_sub_emod
   have:q.a*y+q.b-(q.a%M*y+q.b%M)=(q.a*y-q.a%M*y)+(q.b-q.b%M):=by omega
   rw[this];exact zaQ (qN d1 (qw M y)) d2
  refine⟨_,?_,some (.int n),rfl⟩
  rw[<- em]
  simp_all[turn,at_,rd_2,rd_3,mu,qD h0]
 ·rintro ρ ⟨o,rfl⟩
  simp[-zac,-zad,qb,qg]
theorem bk_0{M c:Int}{n:Nat}{rs:List Ro}{ms:List Mk}:qu (bkD M c n rs ms) (.int 0)=some (.int M):=by unfold bkD;rw[q_itT];exact at0
theorem qkz{M a b x:Int}(h0:0<M)(h60:M<10^60)(ha:0<=a/\a<M)(hx:0<=x/\x<M):qgQ [.int M,.tup [.int a,.int b],.int x]=some (.int ((a*x+b)%M)):=by
 have mu:=(Bd.of h60 ⟨ha.1,zbB ha.2⟩).mulH (Bd.of h60 ⟨hx.1,zbB hx.2⟩) (by decide) (by decide)
 refine qG ?_
 simp_all[qhg,qd,at0,at1,mu,V_on h0]
theorem qoW{M a b c d:Int}(h0:0<M)(h60:M<10^60)(ha:0<=a/\a<M)(hb:0<=b/\b<M)(hc:0<=c/\c<M):qlH [.int M,.tup [.int a,.int b],.tup [.int c,.int d]]=some (.tup [.int (a*c%M),.int ((c*b+d)%M)]):=by
 have mu:=(Bd.of h60 ⟨ha.1,zbB ha.2⟩).mulH (Bd.of h60 ⟨hc.1,zbB hc.2⟩) (by decide) (by decide)
 refine qG ?_
 simp_all[ql5,qd,at0,at1,mu,V_on h0,qkz h0 h60 hc hb]
theorem qjc{R:List Ro}{M many:Int}{bk:D}(hk:qu bk (.int 0)=some (.int M))(hB:qu bk (.int 2)=some (.tup (R.map rdD)))(h3:3<=M)(h60:M<10^60)(g:GR M many R){w:List Int}(hw:∀n∈w,∃r,rAt R n=some r):qdk [bk,tupI w]=some (trD (twR R M (1,0) w)):=by
 have h0:0<M:=by omega
 refine qG ?_
 unfold qff
 rw[qe (qm (d:=trD (1,0)) (by simp_all[trD]))]
 refine qar (items:=w.map .int) (by simp_all[qd,tupI]) (λi ρ=>∃o3,ρ=[some bk,some (tupI w),some (trD (twR R M (1,0) (w.take i))),o3]) ⟨none,by simp_all[qd,twR]⟩ ?_ ?_
 ·rintro i x ρ hx ⟨o3,rfl⟩
  rw[zax]at hx
  obtain⟨n,hn,rfl⟩:=map_some hx
  obtain⟨r,hr⟩:=hw n (zaH hn)
  have gr:=g.ab r (qaM hr)
  have rg:=qg1 (rs:=R) h0 (w.take i) (1,0) 0 0 ⟨by decide,by show(1:Int)<M;omega⟩ ⟨by decide,by show(0:Int)<M;omega⟩ (by simp[-zac,-zad,qb,qg])
  have es:twR R M (1,0) (w.take (i+1))=((twR R M (1,0) (w.take i)).1*r.a%M,(r.a*(twR R M (1,0) (w.take i)).2+r.b)%M):=by
   rw[zbs,hn]
   unfold twR
   rw[List.foldl_append]
   simp_all[hr]
  refine⟨[some bk,some (tupI w),some (trD (twR R M (1,0) (w.take (i+1)))),some (.int n)],?_,_,rfl⟩
  rw[es]
  generalize twR R M (1,0) (w.take i)=t at rg
  have vt:=qoW (M:=M) (a:=t.1) (b:=t.2) (c:=r.a) (d:=r.b) h0 h60 rg.1 rg.2.1 gr.1
  simp_all[turn,hk,hB,qgM hr,qqY,trD,vt]
 ·rintro ρ' ⟨o3,rfl⟩
  simp[-zac,-zad,qb,qg]
open Classical in
noncomputable def fwd(R:List Ro)(j k:Int):List Int:=if h:∃w,IsF R k j w then h.choose else []
theorem qlR{M many:Int}{R:List Ro}(g:GR M many R){j k:Int}{w:List Int}(h:IsF R k j w):fwd R j k=w:=by
 have ex:∃w,IsF R k j w:=⟨w,h⟩
 unfold fwd
 rw[dif_pos ex]
 exact IsF.uniq g ex.choose_spec h
theorem qni{M:Int}{n:Nat}{R:List Ro}{bk:D}(hB:qu bk (.int 2)=some (.tup (R.map rdD)))(g:GR M (n:Int) R)(hn:n<=6){j k:Int}(hj:0<=j/\j<(n:Int))(hk:0<=k/\k<(n:Int)):(Rch R j k->qas [bk,.int j,.int k]=some (tupI (fwd R j k))/\IsF R k j (fwd R j k))/\(¬ Rch R j k->qas [bk,.int j,.int k]=some .non):=by
 obtain⟨d,e,h⟩:=qfO hB g (j:=j) (k:=k) ⟨hj.1,by omega⟩ ⟨hk.1,by omega⟩
 rcases h with⟨rfl,no⟩|⟨w,rfl,hw⟩
 ·exact⟨λz=>absurd z no,λ_=>e⟩
 ·have:=qlR g hw
  exact⟨λ_=>by rw[this];exact⟨e,hw⟩,λz=>absurd hw.rch z⟩
theorem qmZ{M:Int}{n:Nat}{rs:List Ro}(g:GR M (n:Int) (rs.map (red M)))(hn:n<=6){j k:Int}(j0:0<=j)(k0:0<=k/\k<(n:Int))(h:Rch (rs.map (red M)) j k):qaq [.lst (rs.map rdD),matT n (RT (rs.map (red M))),.int j,.int k]=some (tupI (fwd (rs.map (red M)) j k))/\IsF (rs.map (red M)) k j (fwd (rs.map (red M)) j k):=by
 obtain⟨w,e,hw⟩:=qgu g hn j0 k0 h
 rw[qlR g hw];exact⟨e,hw⟩
theorem qq3{R:List Ro}{M:Int}(h3:3<=M)(w:List Int)(v:Int):(0<=(twR R M (1,0) w).1/\(twR R M (1,0) w).1<M)/\(0<=(twR R M (1,0) w).2/\(twR R M (1,0) w).2<M)/\M∣((twR R M (1,0) w).1*v+(twR R M (1,0) w).2)-goR R M v w:=by
 obtain⟨a,b,c⟩:=qg1 (rs:=R) (M:=M) (by omega) w (1,0) v v ⟨by decide,by show(1:Int)<M;omega⟩ ⟨by decide,by show(0:Int)<M;omega⟩ (by simp[-zac,-zad,qb,qg])
 exact⟨a,b,dvdM c.symm⟩
noncomputable def un(n p:Nat):List Int:=if n=1 then [1]else if p=0 then [1,0]else [0,1]
theorem qbL{M:Int}(h0:0<M){n p:Nat}(h:(n=1/\p=0)\/(n=2/\(p=0\/p=1))):qaX [.int M,.int (n:Int),.int (p:Int)]=some (fD (fm M [(un n p,1)]))/\Fo M (un n p) (fm M [(un n p,1)])/\∀vs:List Int,vs.length=n->M∣ev vs (fm M [(un n p,1)])-vs.getD p 0:=by
 have hn:n=1\/n=2:=by omega
 have b1:Bd 61 1:=⟨by decide +kernel,by decide +kernel⟩
 have vf:=V_form (M:=M) (n:=n) (ts:=[(un n p,1)]) h0 hn (by simp[-zac,-zad,qb,qg]) (λt ht=>by
  rw[List.mem_singleton.mp ht]
  rcases h with⟨rfl,rfl⟩|⟨rfl,rfl|rfl⟩
  ·exact⟨rfl,by simp_all[un],b1⟩
  ·exact⟨rfl,by simp_all[un],b1⟩
  ·exact⟨rfl,by simp_all[un],b1⟩)
 obtain⟨f,v⟩:=qmG (M:=M) h0 (d:=un n p) (ts:=[(un n p,1)]) (λt ht=>by
  rw[List.mem_singleton.mp ht]
  rcases h with⟨rfl,rfl⟩|⟨rfl,rfl|rfl⟩
  ·exact⟨by decide,by decide⟩
  ·exact⟨⟨by decide,by decide⟩,by decide,by decide⟩
  ·exact⟨⟨by decide,by decide⟩,by decide,by decide⟩)
 refine⟨qG ?_,f,λvs hv=>?_⟩
 ·have vf':qe5 [.int M,.int (n:Int),.lst ([(un n p,1)].map tmD)]=some (fD (fm M [(un n p,1)])):=vf
  generalize fD (fm M [(un n p,1)])=r at vf' ⊢
  have z1:szOk 1=true:=by decide
  have z2:szOk 2=true:=by decide
  have r1:qaz [.int 1]=some [.int 0]:=rfl
  have r2:qaz [.int 2]=some [.int 0,.int 1]:=rfl
  rcases h with⟨rfl,rfl⟩|⟨rfl,rfl|rfl⟩
  ·simp[-zac,-zad,qb,qg,un,tmD,tupI]at vf'
   simp_all[qbI,qd,r1,z1,inS,qau,vf']
  ·simp[-zac,-zad,qb,qg,un,tmD,tupI]at vf'
   simp_all[qbI,qd,r2,z2,inS,qau,vf']
  ·simp[-zac,-zad,qb,qg,un,tmD,tupI]at vf'
   simp_all[qbI,qd,r2,z2,inS,qau,vf']
 ·have:=v vs
  have e:ev vs [(un n p,1)]=vs.getD p 0:=by
   rw[qR,qdX]
   rcases h with⟨rfl,rfl⟩|⟨rfl,rfl|rfl⟩
   ·obtain⟨x,rfl⟩:=List.length_eq_one_iff.mp hv
    simp_all[un,mon,zbJ]
   ·obtain⟨x,y,rfl⟩:=len2 hv
    simp_all[un,mon,zbJ]
   ·obtain⟨x,y,rfl⟩:=len2 hv
    simp_all[un,mon,zbJ]
  rw[e]at this;exact this
theorem qos{n p:Nat}(h:(n=1/\p=0)\/(n=2/\(p=0\/p=1))):((un n p).length:Int)=(n:Int)/\Bx (un n p) (zN (n:Int))/\Low (un n p):=by
 rcases h with⟨rfl,rfl⟩|⟨rfl,rfl|rfl⟩
 ·exact⟨rfl,⟨by decide,by decide⟩,show(1:Int)<=6 by decide⟩
 ·exact⟨rfl,⟨⟨by decide,by decide⟩,by decide,by decide⟩,⟨by decide,by decide⟩⟩
 ·exact⟨rfl,⟨⟨by decide,by decide⟩,by decide,by decide⟩,⟨by decide,by decide⟩⟩
theorem qaW{M:Int}{nk:Nat}{R:List Ro}{bk:D}(hk0:qu bk (.int 0)=some (.int M))(hB:qu bk (.int 2)=some (.tup (R.map rdD)))(h3:3<=M)(h60:M<10^60)(g:GR M (nk:Int) R)(hnk:nk<=6){n p:Nat}(h:(n=1/\p=0)\/(n=2/\(p=0\/p=1))){j k:Int}(hj:0<=j/\j<(nk:Int))(hk:0<=k/\k<(nk:Int))(hr:Rch R j k):qas [bk,.int j,.int k]=some (tupI (fwd R j k))/\qdk [bk,tupI (fwd R j k)]=some (trD (twR R M (1,0) (fwd R j k)))/\∃H,qP [.int M,.int (n:Int),trD (twR R M (1,0) (fwd R j k)),fD (fm M [(un n p,1)])]=some (fD H)/\Fo M (un n p) H/\∀vs:List Int,vs.length=n->M∣ev vs H-goR R M (vs.getD p 0) (fwd R j k):=by
 have h0:0<M:=by omega
 obtain⟨e1,f1⟩:=(qni hB g hnk hj hk).1 hr
 have e2:=qjc hk0 hB h3 h60 g (IsF.at_ f1)
 obtain⟨e3,f3,v3⟩:=qbL (M:=M) h0 h
 obtain⟨b1,b2,b3⟩:=qos h
 have hn:(n:Int)=1\/(n:Int)=2:=by omega
 obtain⟨H,eh,fh,vh⟩:=qbC (a:=(twR R M (1,0) (fwd R j k)).1) (b:=(twR R M (1,0) (fwd R j k)).2) h0 h60 hn b1 b2 b3 f3
 refine⟨e1,e2,H,eh,fh,λvs hv=>?_⟩
 obtain⟨_,_,d⟩:=qq3 (R:=R) h3 (fwd R j k) (vs.getD p 0)
 have x1:=vh vs (by omega)
 have x2:=qN (qw M (twR R M (1,0) (fwd R j k)).1) (v3 vs hv)
 generalize twR R M (1,0) (fwd R j k)=t at x1 x2 d
 generalize ev vs (fm M [(un n p,1)])=y at x1 x2
 have:ev vs H-goR R M (vs.getD p 0) (fwd R j k)=(ev vs H-(t.1*y+t.2))+(t.1*y-t.1*vs.getD p 0)+(t.1*vs.getD p 0+t.2-goR R M (vs.getD p 0) (fwd R j k)):=by omega
 rw[this];exact zaQ (zaQ x1 x2) d
noncomputable def alo(R:List Ro)(M:Int)(F:Int->Int->List Int):List Int->List Int->List Int->List Int
 | k::ks,t::ts,v::vs=>goR R M v (F k t)::alo R M F ks ts vs
 | _,_,_=>[]
noncomputable def sv(R:List Ro)(M:Int)(m:Mk)(ks vs:List Int):Int:=ev (alo R M (fwd R) ks m.tk vs) m.ts%M
theorem fits_of{R:List Ro}{ks tk:List Int}(h:fitB R ks tk=true):ks.length=tk.length/\∀p∈zipI ks tk,Rch R p.1 p.2:=by
 unfold fitB at h
 rw[zaC,zbW]at h
 exact⟨of_decide_eq_true h.1,λp hp=>qd4.mp (h.2 p hp)⟩
theorem OkT.bx1{t:My.Tm}(h:OkT 1 t):Bx [2] t.1:=by
 obtain⟨x,e⟩:=List.length_eq_one_iff.mp h.1
 have:=h.2.1 x (by rw[e];simp[-zac,-zad,qb,qg])
 rw[e];exact this
theorem OkT.bx2{t:My.Tm}(h:OkT 2 t):Bx [2,2] t.1:=by
 obtain⟨x,y,e⟩:=len2 h.1
 have a:=h.2.1 x (by rw[e];simp[-zac,-zad,qb,qg])
 have b:=h.2.1 y (by rw[e];simp[-zac,-zad,qb,qg])
 rw[e];exact⟨a,b⟩
structure Bok(M:Int)(n:Nat)(rs:List Ro)(ms:List Mk):Prop where
 h3:3<=M
 h60:M<10^60
 hn:1<=n/\n<=6
 g:GR M (n:Int) (rs.map (red M))
 rb:∀r∈rs,Bd 61 r.a/\Bd 61 r.b
 ml:ms.length<=5
 mo:∀m∈ms,OkM (n:Int) 7 m
theorem bm_3{M:Int}{m:Mk}:qu (bmD M m) (.int 3)=some (fD (fm M m.ts)):=by unfold bmD;rw[q_itT];exact at3
theorem qgg{M c:Int}{n:Nat}{rs:List Ro}{ms:List Mk}(B:Bok M n rs ms){i:Int}{m:Mk}(hm:m∈ms)(hi:atI (ms.map (bmD M)) i=some (bmD M m)){ks:List Int}(hk:∀k∈ks,0<=k/\k<(n:Int))(hf:fitB (rs.map (red M)) ks m.tk=true):∃(H:List My.Tm) (dd:List Int),qcY [bkD M c n rs ms,.int i,tupI ks]=some (fD H)/\Nf M dd H/\(dd=[2]\/dd=[2,2])/\dd.length=ks.length/\∀vs:List Int,vs.length=ks.length->ev vs H%M=sv (rs.map (red M)) M m ks vs:=by
 have h0:0<M:=by have:=B.h3;omega
 have ok:=B.mo m hm
 obtain⟨hl,hr⟩:=fits_of hf
 have h3:qu (bkD M c n rs ms) (.int 3)=some (.tup (ms.map (bmD M))):=bk_3
 have hB:qu (bkD M c n rs ms) (.int 2)=some (.tup ((rs.map (red M)).map rdD)):=bk_2
 have hk0:qu (bkD M c n rs ms) (.int 0)=some (.int M):=bk_0
 have g:=B.g
 generalize bkD M c n rs ms=bk at h3 hB hk0 ⊢
 generalize rs.map (red M)=R at g hB hr ⊢
 have b3:=bm_3 (M:=M) (m:=m)
 have b1:=bm_1 (M:=M) (m:=m)
 generalize bmD M m=bm at hi b3 b1
 rcases ok.tk with⟨t,et⟩|⟨t,u,et⟩
 ·obtain⟨k,rfl⟩:=List.length_eq_one_iff.mp (show ks.length=1 by rw[hl,et];rfl)
  have tb:=ok.tb t (by rw[et];simp[-zac,-zad,qb,qg])
  have kb:=hk k (by simp[-zac,-zad,qb,qg])
  have rc:=hr (k,t) (by rw[et];exact zay ..)
  obtain⟨e1,e2,I,e3,f3,v3⟩:=qaW (n:=1) (p:=0) hk0 hB B.h3 B.h60 g B.hn.2 (.inl ⟨rfl,rfl⟩) kb tb rc
  obtain⟨e4,_,_⟩:=qbL (M:=M) h0 (n:=1) (p:=0) (.inl ⟨rfl,rfl⟩)
  obtain⟨fo,vo⟩:=qmG (M:=M) h0 (d:=[2]) (ts:=m.ts) λq hq=>by
   have:=ok.tt q hq
   rw[et]at this;exact this.bx1
  obtain⟨H,e5,f5,v5⟩:=qqd h0 B.h60 fo f3
  refine⟨H,[2],qG ?_,f5,.inl rfl,rfl,λvs hv=>?_⟩
  ·rw[et]at b1
   have z0:szOk 0=true:=by decide
   have e4':qaX [.int M,.int 1,.int 0]=some (fD (fm M [(un 1 0,1)])):=e4
   have e3':qP [.int M,.int 1,trD (twR R M (1,0) (fwd R k t)),fD (fm M [(un 1 0,1)])]=some (fD I):=e3
   generalize trD (twR R M (1,0) (fwd R k t))=tt at e2 e3'
   generalize tupI (fwd R k t)=ff at e1 e2
   generalize fD (fm M [(un 1 0,1)])=uu at e3' e4'
   generalize fD (fm M m.ts)=oo at b3 e5
   generalize fD I=ii at e3' e5
   generalize fD H=hh at e5 ⊢
   simp_all[qbg,qd,hk0,h3,hi,b1,b3,tupI,qb4,forD,at0,e1,e2,e4',e3',z0,e5]
  ·obtain⟨x,rfl⟩:=List.length_eq_one_iff.mp hv
   have x1:=v5 [x] rfl
   have x2:=qf0 (M:=M) (vs:=[ev [x] I]) (us:=[goR R M x (fwd R k t)]) rfl (λp hp=>by
    rw[List.mem_singleton.mp hp];exact v3 [x] rfl) (fm M m.ts)
   have x3:=vo [goR R M x (fwd R k t)]
   unfold sv
   rw[et]
   refine qa5 ?_
   show M∣ev [x] H-ev [goR R M x (fwd R k t)] m.ts
   have:ev [x] H-ev [goR R M x (fwd R k t)] m.ts=(ev [x] H-ev [ev [x] I] (fm M m.ts))+(ev [ev [x] I] (fm M m.ts)-ev [goR R M x (fwd R k t)] (fm M m.ts))+(ev [goR R M x (fwd R k t)] (fm M m.ts)-ev [goR R M x (fwd R k t)] m.ts):=by omega
   rw[this];exact zaQ (zaQ x1 x2) x3
 ·obtain⟨k,l,rfl⟩:=len2 (show ks.length=2 by rw[hl,et];rfl)
  have tb:=ok.tb t (by rw[et];simp[-zac,-zad,qb,qg])
  have ub:=ok.tb u (by rw[et];simp[-zac,-zad,qb,qg])
  have kb:=hk k (by simp[-zac,-zad,qb,qg])
  have lb:=hk l (by simp[-zac,-zad,qb,qg])
  have rc:=hr (k,t) (by rw[et];exact zay ..)
  have rd:=hr (l,u) (by rw[et];exact zaz _ (zay ..))
  obtain⟨e1,e2,I,e3,f3,v3⟩:=qaW (n:=2) (p:=0) hk0 hB B.h3 B.h60 g B.hn.2 (.inr ⟨rfl,.inl rfl⟩) kb tb rc
  obtain⟨d1,d2,J,d3,j3,w3⟩:=qaW (n:=2) (p:=1) hk0 hB B.h3 B.h60 g B.hn.2 (.inr ⟨rfl,.inr rfl⟩) lb ub rd
  obtain⟨e4,_,_⟩:=qbL (M:=M) h0 (n:=2) (p:=0) (.inr ⟨rfl,.inl rfl⟩)
  obtain⟨d4,_,_⟩:=qbL (M:=M) h0 (n:=2) (p:=1) (.inr ⟨rfl,.inr rfl⟩)
  obtain⟨fo,vo⟩:=qmG (M:=M) h0 (d:=[2,2]) (ts:=m.ts) λq hq=>by
   have:=ok.tt q hq
   rw[et]at this;exact this.bx2
  obtain⟨H,e5,f5,v5⟩:=qoZ h0 B.h60 fo f3 j3
  refine⟨H,[2,2],qG ?_,f5,.inr rfl,rfl,λvs hv=>?_⟩
  ·rw[et]at b1
   have z0:szOk 0=true:=by decide
   have z1:szOk 1=true:=by decide
   have e4':qaX [.int M,.int 2,.int 0]=some (fD (fm M [(un 2 0,1)])):=e4
   have e3':qP [.int M,.int 2,trD (twR R M (1,0) (fwd R k t)),fD (fm M [(un 2 0,1)])]=some (fD I):=e3
   have d4':qaX [.int M,.int 2,.int 1]=some (fD (fm M [(un 2 1,1)])):=d4
   have d3':qP [.int M,.int 2,trD (twR R M (1,0) (fwd R l u)),fD (fm M [(un 2 1,1)])]=some (fD J):=d3
   generalize trD (twR R M (1,0) (fwd R k t))=tt at e2 e3'
   generalize tupI (fwd R k t)=ff at e1 e2
   generalize trD (twR R M (1,0) (fwd R l u))=t2 at d2 d3'
   generalize tupI (fwd R l u)=f2 at d1 d2
   generalize fD (fm M [(un 2 0,1)])=uu at e3' e4'
   generalize fD (fm M [(un 2 1,1)])=u2 at d3' d4'
   generalize fD (fm M m.ts)=oo at b3 e5
   generalize fD I=ii at e3' e5
   generalize fD J=jj at d3' e5
   generalize fD H=hh at e5 ⊢
   simp_all[qbg,qd,hk0,h3,hi,b1,b3,tupI,qb4,forD,at0,at1,e1,e2,e4',e3',d1,d2,d4',d3',z0,z1,e5]
  ·obtain⟨x,y,rfl⟩:=len2 hv
   have x1:=v5 [x,y] rfl
   have x2:=qf0 (M:=M) (vs:=[ev [x,y] I,ev [x,y] J]) (us:=[goR R M x (fwd R k t),goR R M y (fwd R l u)]) rfl (λp hp=>by
    rcases List.mem_cons.mp hp with z|z
    ·rw[z];exact v3 [x,y] rfl
    ·rw[List.mem_singleton.mp z];exact w3 [x,y] rfl) (fm M m.ts)
   have x3:=vo [goR R M x (fwd R k t),goR R M y (fwd R l u)]
   unfold sv
   rw[et]
   refine qa5 ?_
   show M∣ev [x,y] H-ev [goR R M x (fwd R k t),goR R M y (fwd R l u)] m.ts
   have:ev [x,y] H-ev [goR R M x (fwd R k t),goR R M y (fwd R l u)] m.ts=(ev [x,y] H-ev [ev [x,y] I,ev [x,y] J] (fm M m.ts))+(ev [ev [x,y] I,ev [x,y] J] (fm M m.ts)-ev [goR R M x (fwd R k t),goR R M y (fwd R l u)] (fm M m.ts))+(ev [goR R M x (fwd R k t),goR R M y (fwd R l u)] (fm M m.ts)-ev [goR R M x (fwd R k t),goR R M y (fwd R l u)] m.ts):=by omega
   rw[this];exact zaQ (zaQ x1 x2) x3
theorem qeQ{M x c:Int}{e:Int}(h0:0<M)(h60:M<10^60)(hx:0<=x/\x<M)(he:0<=e/\e<=100)(hc:Bd 61 c){d1 d2 d3 d4:D}{o6 o7 o8:Option D}:∃(c':Int) (p8:Option D),Bd 61 c'/\M∣c'-c*x^e.toNat/\turn (qaQ 2 (qL (qx 6) (qL (qx 7) qa8))) (sFor (lR qaz (qz (eVar 6) lNil)) (qx 8) (sSet 5 (eOp dMod (eOp qak (eVar 5) (eVar 7)) (eVar 0)))) (.tup [.int e,.int x]) [some (.int M),some d1,some d2,some d3,some d4,some (.int c),o6,o7,o8]=some (.nx [some (.int M),some d1,some d2,some d3,some d4,some (.int c'),some (.int e),some (.int x),p8]):=by
 obtain⟨ρ',er,c',p8,rfl,bc,dc⟩:=qbb (g:=qx 8) (b:=(sSet 5 (eOp dMod (eOp qak (eVar 5) (eVar 7)) (eVar 0)))) (items:=qF 0 1 e.toNat) (ρ:=[some (.int M),some d1,some d2,some d3,some d4,some (.int c),some (.int e),some (.int x),o8]) (λi ρ=>∃(c':Int) (p8:Option D),ρ=[some (.int M),some d1,some d2,some d3,some d4,some (.int c'),some (.int e),some (.int x),p8]/\Bd 61 c'/\M∣c'-c*x^i) ⟨c,o8,rfl,hc,by rw[Int.pow_zero,Int.mul_one];exact qw M c⟩ (by
  rintro i y ρ hy ⟨c',p8,rfl,bc,dc⟩
  have mu:=bc.mulH (Bd.of h60 ⟨hx.1,zbB hx.2⟩) (by decide) (by decide)
  refine⟨_,by simp_all[turn,mu,qD h0] <;> rfl,c'*x%M,some y,rfl,Bd.mod h0 h60,?_⟩
  have d1:M∣c'*x%M-c'*x:=qcW
  have d2:=qN dc (qw M x)
  rw[zbJ,<- Int.mul_assoc]
  have:c'*x%M-c*x^i*x=(c'*x%M-c'*x)+(c'*x-c*x^i*x):=by omega
  rw[this];exact zaQ d1 d2)
 rw[qJ]at dc
 refine⟨c',p8,bc,dc,?_⟩
 have rg:=qa2 he.1 (show e<=1000000 by omega)
 simp_all[turn,rg]
 exact er
theorem qdL{M:Int}(h0:0<M)(h60:M<10^60){ts:List My.Tm}{vs:List Int}{nn:Nat}(hl:vs.length=nn)(hn:nn=1\/nn=2)(ht:∀t∈ts,OkT nn t)(hv:∀v∈vs,0<=v/\v<M){q:D}(hq:q=.lst (ts.map tmD)\/q=.tup (ts.map tmD)):qd7 [.int M,q,.lst (vs.map .int)]=some (.int (ev vs ts%M)):=by
 refine qG ?_
 unfold qdH
 rw[qe (qm (d:=.int 0) (by simp[-zac,-zad,qb,qg]))]
 refine qar (items:=ts.map tmD) (by rcases hq with rfl|rfl <;> simp_all[qd]) (λi ρ=>∃(o4 o5 o6 o7 o8:Option D),ρ=[some (.int M),some q,some (.lst (vs.map .int)),some (.int (ev vs (ts.take i)%M)),o4,o5,o6,o7,o8]) ⟨none,none,none,none,none,by simp_all[qd,ev]⟩ ?_ ?_
 ·rintro i y ρ hy ⟨o4,o5,o6,o7,o8,rfl⟩
  rw[zax]at hy
  obtain⟨t,htt,rfl⟩:=map_some hy
  obtain⟨t1,t2,t3⟩:=ht t (zaH htt)
  have et:ts.take (i+1)=ts.take i++[t]:=by rw[zbs,htt];rfl
  generalize hout:ev vs (ts.take i)=out
  have inner:∃(c':Int) (p6 p7 p8:Option D),M∣c'-t.2*mon t.1 vs/\forD (qaQ 2 (qL (qx 6) (qL (qx 7) qa8))) (sFor (lR qaz (qz (eVar 6) lNil)) (qx 8) (sSet 5 (eOp dMod (eOp qak (eVar 5) (eVar 7)) (eVar 0)))) (zipL (t.1.map .int) (vs.map .int)) [some (.int M),some q,some (.lst (vs.map .int)),some (.int (out%M)),some (tupI t.1),some (.int t.2),o6,o7,o8]=some (.nx [some (.int M),some q,some (.lst (vs.map .int)),some (.int (out%M)),some (tupI t.1),some (.int c'),p6,p7,p8]):=by
   obtain⟨k,c⟩:=t
   rcases hn with rfl|rfl
   ·obtain⟨v,rfl⟩:=List.length_eq_one_iff.mp hl
    obtain⟨e,rfl⟩:=List.length_eq_one_iff.mp t1
    have e2:=t2 e (by simp[-zac,-zad,qb,qg])
    obtain⟨c',p8,b1,d1,er⟩:=qeQ (d1:=q) (d2:=.lst ([v].map .int)) (d3:=.int (out%M)) (d4:=tupI [e]) (o6:=o6) (o7:=o7) (o8:=o8) h0 h60 (hv v (by simp[-zac,-zad,qb,qg])) (show 0<=e/\e<=100 by omega) t3
    refine⟨c',some (.int e),some (.int v),p8,?_,?_⟩
    ·show M∣c'-c*(v^e.toNat*1)
     rw[Int.mul_one];exact d1
    ·show forD _ _ [D.tup [.int e,.int v]] _=_
     unfold turn at er
     unfold forD
     obtain⟨ρ1,z1,z2⟩:=bind_some er
     rw[z1,qb,z2,qb]
     rfl
   ·obtain⟨v,u,rfl⟩:=len2 hl
    obtain⟨e,f,rfl⟩:=len2 t1
    have e2:=t2 e (by simp[-zac,-zad,qb,qg])
    have f2:=t2 f (by simp[-zac,-zad,qb,qg])
    obtain⟨c',p8,b1,d1,er⟩:=qeQ (d1:=q) (d2:=.lst ([v,u].map .int)) (d3:=.int (out%M)) (d4:=tupI [e,f]) (o6:=o6) (o7:=o7) (o8:=o8) h0 h60 (hv v (by simp[-zac,-zad,qb,qg])) (show 0<=e/\e<=100 by omega) t3
    obtain⟨c2,q8,b2,d2,es⟩:=qeQ (d1:=q) (d2:=.lst ([v,u].map .int)) (d3:=.int (out%M)) (d4:=tupI [e,f]) (o6:=some (.int e)) (o7:=some (.int v)) (o8:=p8) h0 h60 (hv u (by simp[-zac,-zad,qb,qg])) (show 0<=f/\f<=100 by omega) b1
    refine⟨c2,some (.int f),some (.int u),q8,?_,?_⟩
    ·show M∣c2-c*(v^e.toNat*(u^f.toNat*1))
     rw[Int.mul_one,<- Int.mul_assoc]
     have d3:=qN d1 (qw M (u^f.toNat))
     have:c2-c*v^e.toNat*u^f.toNat=(c2-c'*u^f.toNat)+(c'*u^f.toNat-c*v^e.toNat*u^f.toNat):=by omega
     rw[this];exact zaQ d2 d3
    ·show forD _ _ [D.tup [.int e,.int v],D.tup [.int f,.int u]] _=_
     unfold turn at er es
     unfold forD
     obtain⟨ρ1,z1,z2⟩:=bind_some er
     rw[z1,qb,z2,qb]
     show forD _ _ [D.tup [.int f,.int u]] _=_
     unfold forD
     obtain⟨ρ2,y1,y2⟩:=bind_some es
     rw[y1,qb,y2,qb]
     rfl
  obtain⟨c',p6,p7,p8,dc,ef⟩:=inner
  have em:(out%M+c')%M=ev vs (ts.take (i+1))%M:=by
   rw[et,qc2,hout]
   refine qa5 ?_
   have d0:M∣out%M-out:=qcW
   have:out%M+c'-(out+t.2*mon t.1 vs)=(out%M-out)+(c'-t.2*mon t.1 vs):=by omega
   rw[this];exact zaQ d0 dc
  refine⟨[some (.int M),some q,some (.lst (vs.map .int)),some (.int (ev vs (ts.take (i+1))%M)),some (tupI t.1),some (.int c'),p6,p7,p8],?_,_,_,_,_,_,rfl⟩
  rw[<- em]
  simp only[tupI]at ef
  simp_all[turn,tmD,tupI,ef,qD h0]
 ·rintro ρ ⟨o4,o5,o6,o7,o8,rfl⟩
  simp[-zac,-zad,qb,qg]
theorem nf_t{M:Int}{dd:List Int}{H:List My.Tm}(h:Nf M dd H)(hd:dd=[2]\/dd=[2,2]){t:My.Tm}(ht:t∈H):t.1.length=dd.length/\∀e∈t.1,0<=e/\e<=2:=by
 have b:=h.fo.k.bx t ht
 rcases hd with rfl|rfl
 ·rcases b.shape with⟨a,x,e1,e2,h⟩|⟨a,b,x,y,e1,e2,h⟩
  ·cases e1;rw[e2];exact⟨rfl,λe he=>by rw[List.mem_singleton.mp he];exact h⟩
  ·cases e1
 ·rcases b.shape with⟨a,x,e1,e2,h⟩|⟨a,b,x,y,e1,e2,h⟩
  ·cases e1
  ·cases e1;rw[e2];exact⟨rfl,λe he=>by
    rcases List.mem_cons.mp he with z|z
    ·rw[z];exact h.1
    ·rw[List.mem_singleton.mp z];exact h.2⟩
theorem qeb{M n:Int}{dd:List Int}{H:List My.Tm}(h:Nf M dd H)(hd:dd=[2]\/dd=[2,2])(hn:(dd.length:Int)=n):qbQ [.int M,.int n,fD H]=some (.bl true):=by
 refine qG ?_
 unfold qbO
 rw[qe (ρ':=qd 6 [.int M,.int n,fD H]) (by simp_all[qd,fD])]
 rw[qe (qm (d:=tupI []) (by simp_all[tupI]))]
 refine qar (items:=H.map tmD) (by simp_all[qd,fD]) (λi ρ=>∃(last:List Int) (o4 o5:Option D),ρ=[some (.int M),some (.int n),some (fD H),some (tupI last),o4,o5]/\∀t,H[i]?=some t->HT.lexLt last t.1=true) ⟨[],none,none,by simp_all[qd],λt ht=>?_⟩ ?_ ?_
 ·have l:=(nf_t h hd (zaH ht)).1
  cases e:t.1 with
  | nil=>rw[e]at l;rcases hd with rfl|rfl <;> cases l
  | cons x xs=>rfl
 ·rintro i d ρ hx ⟨last,o4,o5,rfl,hlt⟩
  rw[zax]at hx
  obtain⟨t,ht,rfl⟩:=map_some hx
  have htm:=zaH ht
  obtain⟨tl,te⟩:=nf_t h hd htm
  have lt:=qmV last t.1
  rw[hlt t ht]at lt
  have cb:=h.fo.cb t htm
  have cp:=h.pos t htm
  have ne:t.1≠[]:=λz=>by rw[z]at tl;rcases hd with rfl|rfl <;> cases tl
  have mn:=qp3 ne
  have m0:=(te _ (My.qkI ne)).1
  generalize My.minL t.1=mn_ at mn m0
  have mx:∃mx:Int,qhw [tupI t.1]=some (.int mx)/\mx<=2:=by
   cases e:t.1 with
   | nil=>exact absurd e ne
   | cons x xs=>exact⟨_,q_max1,qb3 xs x (te x (by rw[e];simp[-zac,-zad,qb,qg])).2 λy hy=>(te y (by rw[e];exact zaz _ hy)).2⟩
  obtain⟨mx_,mx,m2⟩:=mx
  refine⟨[some (.int M),some (.int n),some (fD H),some (tupI t.1),some (tmD t),some (.int t.2)],?_,t.1,_,_,rfl,λu hu=>?_⟩
  ·have n0:¬ mn_<0:=by omega
   have n2:¬ 2<mx_:=by omega
   have z1:szOk 2=true:=by decide
   have z2:szOk 3=true:=by decide
   obtain⟨k,c⟩:=t
   dsimp only at *
   rcases hd with rfl|rfl
   ·obtain⟨x,rfl⟩:=List.length_eq_one_iff.mp tl
    have hn:n=1:=by simpa using hn.symm
    subst hn
    simp only[tupI]at mn mx lt
    simp[-zac,-zad,qb,qg]at mn mx lt
    simp_all[turn,tmD,tupI,fD,at0,at1,forD,qav,z1,mn,mx,lt,n0,n2,cp,cb.2]
   ·obtain⟨x,y,rfl⟩:=len2 tl
    have hn:n=2:=by simpa using hn.symm
    subst hn
    simp only[tupI]at mn mx lt
    simp[-zac,-zad,qb,qg]at mn mx lt
    simp_all[turn,tmD,tupI,fD,at0,at1,forD,qav,z2,mn,mx,lt,n0,n2,cp,cb.2]
  ·obtain⟨h1,e1⟩:=List.getElem?_eq_some_iff.mp ht
   obtain⟨h2,e2⟩:=List.getElem?_eq_some_iff.mp hu
   have:=List.pairwise_iff_getElem.mp h.srt i (i+1) h1 h2 (zbR _)
   rw[e1,e2]at this
   exact this
 ·rintro ρ ⟨last,o4,o5,rfl,_⟩
  simp[-zac,-zad,qb,qg]
theorem mk_3{m:Mk}:qu (mkD m) (.int 3)=some (.lst (m.ts.map tmD)):=by unfold mkD;rw[q_itT];exact at3
theorem qoM{g:Gv}{b:Sv}{x:D}{xs:List D}{ρ:Rho}{d:D}(h:turn g b x ρ=some (.rt d)):forD g b (x::xs) ρ=some (.rt d):=by
 unfold turn at h
 obtain⟨ρ1,z1,z2⟩:=bind_some h
 rw[forD,z1,qb,z2,qb]
theorem turn_of{g:Gv}{b:Sv}{x:D}{ρ ρ1:Rho}{o:Option Out}(h:g x ρ=some ρ1)(k:b ρ1=o):turn g b x ρ=o:=by
 unfold turn;rw[h,qb,k]
theorem qht{n:Nat}{R:List Ro}{t:Int}(ht:0<=t/\t<(n:Int)):∀(l:List Nat) (o:Option D),(∀k∈l,k<n)->qau (qx 0) (bOf (eOp qu (eOp qu (eVar 1) (eVar 0)) (eVar 2))) (eVar 0) (l.map λ(k:Nat)=>D.int (k:Int)) [o,some (matT n (RT R)),some (.int t)]=some (((l.filter λ(k:Nat)=>RT R (k:Int) t).map λ(k:Nat)=>(k:Int)).map .int)
 | [],_,_=>rfl
 | k::l,o,h=>by
  have ih:=qht (R:=R) ht l (some (.int (k:Int))) λm hm=>h m (zaz _ hm)
  have hk:=h k (zay ..)
  have m1:=ql6 (K:=n) (P:=RT R) (k:=(k:Int)) (by omega) (by omega)
  have m2:=qjb (K:=n) (p:=RT R (k:Int)) ht.1 ht.2
  rw[zak,qau,List.filter_cons]
  cases e:RT R (k:Int) t with
  | true=>rw[e]at m2;simp_all[-zaB,m1,m2,ih]
  | false=>rw[e]at m2;simp_all[-zaB,m1,m2,ih]
theorem qgF{R:List Ro}{M:Int}{F:Int->Int->List Int}{k t v:Int}:∀ {ks ts vs:List Int},ks.length=ts.length->vs.length=ts.length->alo R M F (ks++[k]) (ts++[t]) (vs++[v])=alo R M F ks ts vs++[goR R M v (F k t)]
 | [],[],[],_,_=>rfl
 | a::ks,b::ts,c::vs,h,g=>by
  show _::alo R M F (ks++[k]) (ts++[t]) (vs++[v])=_
  rw[qgF (by simpa using h) (by simpa using g)];rfl
 | [],_::_,_,h,_=>by simp[-zac,-zad,qb,qg]at h
 | _::_,[],_,h,_=>by simp[-zac,-zad,qb,qg]at h
 | _,[],_::_,_,g=>by simp[-zac,-zad,qb,qg]at g
 | _,_::_,[],_,g=>by simp[-zac,-zad,qb,qg]at g
theorem qe9{k t:Int}:∀ {ks ts:List Int},ks.length=ts.length->zipI (ks++[k]) (ts++[t])=zipI ks ts++[(k,t)]
 | [],[],_=>rfl
 | a::ks,b::ts,h=>by
  show _::zipI (ks++[k]) (ts++[t])=_
  rw[qe9 (by simpa using h)];rfl
 | [],_::_,h=>by simp[-zac,-zad,qb,qg]at h
 | _::_,[],h=>by simp[-zac,-zad,qb,qg]at h
theorem qfV{R:List Ro}{M:Int}{F:Int->Int->List Int}(h0:0<M):∀ {ks ts vs:List Int},ks.length=ts.length->vs.length=ts.length->(∀v∈vs,0<=v/\v<M)->(alo R M F ks ts vs).length=ts.length/\∀x∈alo R M F ks ts vs,0<=x/\x<M
 | [],[],[],_,_,_=>⟨rfl,λ_ h=>nomatch h⟩
 | a::ks,b::ts,c::vs,h,g,hv=>by
  have ih:=qfV (R:=R) (F:=F) h0 (ks:=ks) (ts:=ts) (vs:=vs) (by simpa using h) (by simpa using g) λv hm=>hv v (zaz _ hm)
  refine⟨congrArg Nat.succ ih.1,λx hx=>?_⟩
  rcases List.mem_cons.mp (show x∈goR R M c (F a b)::alo R M F ks ts vs from hx)with z|z
  ·rw[z];exact qbD h0 _ _ (hv c (zay ..))
  ·exact ih.2 x z
 | [],_::_,_,h,_,_=>by simp[-zac,-zad,qb,qg]at h
 | _::_,[],_,h,_,_=>by simp[-zac,-zad,qb,qg]at h
 | _,[],_::_,_,g,_=>by simp[-zac,-zad,qb,qg]at g
 | _,_::_,[],_,g,_=>by simp[-zac,-zad,qb,qg]at g
theorem qnZ{l:List D}{x:D}:atI (l++[x]) (-1)=some x:=by
 have h:ixN (l++[x]).length (-1)=some l.length:=by
  unfold ixN
  simp[-zac,-zad,qb,qg]
  omega
 unfold atI
 rw[h]
 simp[-zac,-zad,qb,qg]
theorem atL{l:List Int}{k:Int}:atI ((l++[k]).map D.int) (-1)=some (.int k):=by
 rw[zbm];exact qnZ
theorem qqE(ns:List Int)(hl:ns.length<=63):runD 17 qnY [.lst (ns.map .int)]=some (.bl true):=by
 obtain⟨f,hf⟩:=qbt ns
 obtain⟨M,c,n,rs,ms,eb,hM,hn,hr,hm,hmo⟩:=qhF ns
 have vb:=qoC (c:=c) hM hn hr hm hmo
 have g:=qoN hM.1 hr.1 hr.2
 have vr:=qfR g hn.2
 have B:Bok M n rs ms:=⟨hM.1,hM.2.1,hn,g,λr h=>⟨(hr.2 r h).2.2.2.1,(hr.2 r h).2.2.2.2⟩,hm,hmo⟩
 have np:(0:Int)<(n:Int):=by omega
 have h0:0<M:=by omega
 refine qG ?_
 unfold qnY
 rw[qe (ρ':=[some (.lst (ns.map .int)),some (.int M),some (.lst (nmsD c n)),some (.lst (rs.map rdD)),some (.lst (ms.map mkD)),none,none,none,none,none,none,none,none,none,none,none,none]) (by simp_all[qd,eb,qb9])]
 rw[qe (qm (d:=bkD M c n rs ms) (by simp_all[qfS,vb]))]
 rw[qe (qm (d:=matT n (RT (rs.map (red M)))) (by simp_all[qa0,vr]))]
 have hi:∃hi:Int,0<=hi/\hi<=200/\(qz (eC (.int 31)) (qz (qT qiI (qz (eC (.int 43)) (qz (qT qjZ (qz (qT dLen (qz (eVar 0) lNil)) (qz (eC (.int 90)) lNil))) lNil))) (qz (eC (.int 3)) lNil))) [some (.lst (ns.map .int)),some (.int M),some (.lst (nmsD c n)),some (.lst (rs.map rdD)),some (.lst (ms.map mkD)),some (bkD M c n rs ms),some (matT n (RT (rs.map (red M)))),none,none,none,none,none,none,none,none,none,none]=some [.int 31,.int hi,.int 3]:=by
  refine⟨if(if(90:Int)<(ns.length:Int)then 90 else(ns.length:Int))>43 then(if(90:Int)<(ns.length:Int)then 90 else(ns.length:Int))else 43,by split <;> (try split) <;> omega,by split <;> (try split) <;> omega,?_⟩
  simp[-zac,-zad,qb,qg]
 obtain⟨hi,h31,h200,ehi⟩:=hi
 obtain⟨mm,er,hmm⟩:=qkb (a:=31) (b:=hi) (c:=3) (by decide) (by decide) (by decide) (by decide) h31 (by omega)
 have items:lR qaV (qz (eC (.int 31)) (qz (qT qiI (qz (eC (.int 43)) (qz (qT qjZ (qz (qT dLen (qz (eVar 0) lNil)) (qz (eC (.int 90)) lNil))) lNil))) (qz (eC (.int 3)) lNil))) [some (.lst (ns.map .int)),some (.int M),some (.lst (nmsD c n)),some (.lst (rs.map rdD)),some (.lst (ms.map mkD)),some (bkD M c n rs ms),some (matT n (RT (rs.map (red M)))),none,none,none,none,none,none,none,none,none,none]=some (qF 31 3 mm):=by rw[q_lR];exact(congrArg (λo=>Option.bind o qaV) ehi).trans er
 clear er ehi
 by_cases hne:ms.length=0
 ·have e0:ms=[]:=List.length_eq_zero_iff.mp hne
  cases hR:qF 31 3 mm with
  | nil=>
   rw[hR]at items
   rw[qe (ρ':=[some (.lst (ns.map .int)),some (.int M),some (.lst (nmsD c n)),some (.lst (rs.map rdD)),some (.lst (ms.map mkD)),some (bkD M c n rs ms),some (matT n (RT (rs.map (red M)))),none,none,none,none,none,none,none,none,none,none]) (by
    rw[q_for]
    exact(congrArg (λo=>Option.bind o _) items).trans rfl)]
   simp[-zac,-zad,qb,qg]
  | cons d ds=>
   rw[hR]at items
   obtain⟨hlt,rfl⟩:=qK (lo:=31) (c:=3) (n:=mm) (i:=0) (d:=d) (by rw[hR];rfl)
   have fI:=hf (31+((0:Nat):Int)*3) (by omega) (by omega)
   generalize (31+((0:Nat):Int)*3:Int)=I at fI items
   generalize f I=ce at fI
   generalize bkD M c n rs ms=bk at items ⊢
   generalize matT n (RT (rs.map (red M)))=mt at items ⊢
   subst e0
   refine qmf ?_
   rw[q_for]
   refine(congrArg (λo=>Option.bind o _) items).trans ?_
   rw[qb]
   refine qoM ?_
   refine turn_of (ρ1:=[some (.lst (ns.map .int)),some (.int M),some (.lst (nmsD c n)),some (.lst (rs.map rdD)),some (.lst (([]:List Mk).map mkD)),some bk,some mt,some (.int I),none,none,none,none,none,none,none,none,none]) (by simp[-zac,-zad,qb,qg]) ?_
   refine(qe (qm (d:=.int ce) (by simp_all[fI]))).trans ?_
   simp[-zac,-zad,qb,qg]
 refine qar (items:=qF 31 3 mm) items (λi ρ=>∃(o7 o8 o9 o10 o11 o12 o13 o14 o15 o16:Option D),ρ=[some (.lst (ns.map .int)),some (.int M),some (.lst (nmsD c n)),some (.lst (rs.map rdD)),some (.lst (ms.map mkD)),some (bkD M c n rs ms),some (matT n (RT (rs.map (red M)))),o7,o8,o9,o10,o11,o12,o13,o14,o15,o16]) ⟨none,none,none,none,none,none,none,none,none,none,rfl⟩ ?_ ?_
 ·rintro i y ρ hy ⟨o7,o8,o9,o10,o11,o12,o13,o14,o15,o16,rfl⟩
  clear items
  obtain⟨hlt,rfl⟩:=qK hy
  have hI:=hmm i hlt
  have hI0:31<=(31:Int)+(i:Int)*3:=by omega
  generalize (31:Int)+(i:Int)*3=I at hI hI0
  have fI:=hf I (by omega) (by omega)
  generalize f I=ce at fI
  have lp:(0:Int)<(ms.length:Int):=by omega
  have a0:=zar ce (zaP lp)
  have a1:=zas ce lp
  have da:dMod (.int ce) (.int (ms.length:Int))=some (.int (ce%(ms.length:Int))):=qD lp
  obtain⟨m,hmem,em,ebm⟩:=qqt (M:=M) (ms:=ms) a0 a1
  have ok:=hmo m hmem
  generalize ce%(ms.length:Int)=vv at da em ebm
  have tl2:m.tk.length=1\/m.tk.length=2:=by rcases ok.tk with⟨t,e⟩|⟨t,u,e⟩ <;> rw[e] <;> simp[-zac,-zad,qb,qg]
  have m1:=mk_1 (m:=m)
  have m3:=mk_3 (m:=m)
  obtain⟨ρ',ef,ks,vs,x',o13',o14',o15',rfl,kl,vl,kb,vbd,al⟩:=qbb (g:=qx 13) (b:=(sSeq (sSet 14 (qer [none,some 6,some 13] (lR qaz (qz (qT dLen (qz (eVar 2) lNil)) lNil)) (qx 0) (bOf (eOp qu (eOp qu (eVar 1) (eVar 0)) (eVar 2))) (eVar 0)))
   (sSeq (sSet 10 (eOp qav (eVar 10) (eTup (qz (eOp qu (eVar 14) (eOp dMod (eVar 8) (qT dLen (qz (eVar 14) lNil)))) lNil))))
   (sSeq (sSet 8 (eOp dDiv (eVar 8) (eC (.int 6))))
   (sSeq (sApp 11 (eOp dMod (qT qam (qz (eVar 0) (qz (eOp qav (eOp qav (eVar 7) (eC (.int 1))) (qT dLen (qz (eVar 11) lNil))) lNil))) (eVar 1)))
   (sSeq (sSet 15 (qT qaq (qz (eVar 3) (qz (eVar 6) (qz (eOp qu (eVar 10) (eNeg (eC (.int 1)))) (qz (eVar 13) lNil))))))
   (sApp 12 (qT qbn (qz (eVar 1) (qz (eVar 3) (qz (eVar 15) (qz (eOp qu (eVar 11) (eNeg (eC (.int 1)))) lNil))))))))))))
   (items:=m.tk.map .int) (ρ:=[some (.lst (ns.map .int)),some (.int M),some (.lst (nmsD c n)),some (.lst (rs.map rdD)),some (.lst (ms.map mkD)),some (bkD M c n rs ms),some (matT n (RT (rs.map (red M)))),some (.int I),some (.int (ce/8)),some (.int vv),some (tupI []),some (.lst []),some (.lst []),o13,o14,o15,o16])
   (λi ρ=>∃(ks vs:List Int) (x:Int) (o13 o14 o15:Option D),ρ=[some (.lst (ns.map .int)),some (.int M),some (.lst (nmsD c n)),some (.lst (rs.map rdD)),some (.lst (ms.map mkD)),some (bkD M c n rs ms),some (matT n (RT (rs.map (red M)))),some (.int I),some (.int x),some (.int vv),some (tupI ks),some (.lst (vs.map .int)),some (.lst ((alo (rs.map (red M)) M (fwd (rs.map (red M))) ks (m.tk.take i) vs).map .int)),o13,o14,o15,o16]/\ks.length=i/\vs.length=i/\(∀k∈ks,0<=k/\k<(n:Int))/\(∀v∈vs,0<=v/\v<M)/\(zipI ks (m.tk.take i)).all (λp=>RT (rs.map (red M)) p.1 p.2)=true) ⟨[],[],_,o13,o14,o15,rfl,rfl,rfl,λ_ h=>(nomatch h),λ_ h=>(nomatch h),rfl⟩ (by
   rintro i y ρ hy ⟨ks,vs,x,o13,o14,o15,rfl,kl,vl,kb,vbd,al⟩
   rw[zax]at hy
   obtain⟨t,ht,rfl⟩:=map_some hy
   have hi:i<m.tk.length:=(List.getElem?_eq_some_iff.mp ht).1
   have tb:=ok.tb t (zaH ht)
   have tk1:m.tk.take (i+1)=m.tk.take i++[t]:=by rw[zbs,ht];rfl
   have tkl:(m.tk.take i).length=i:=by rw[zbM];omega
   have r1:=qcz (show n<=1000000 by omega)
   have hz:szOk n=true:=decide_eq_true (by omega)
   have cw:=qht (R:=rs.map (red M)) tb (zav n) none λk hk=>List.mem_range.mp hk
   rw[<- qgX]at cw
   have wm:t∈((zav n).filter λ(k:Nat)=>RT (rs.map (red M)) (k:Int) t).map λ(k:Nat)=>(k:Int):=by
    refine List.mem_map.mpr ⟨t.toNat,List.mem_filter.mpr ⟨List.mem_range.mpr (by omega),?_⟩,by omega⟩
    have:((t.toNat:Nat):Int)=t:=by omega
    rw[this]
    exact qd4.mpr (Rch.refl _ t)
   have wb:∀k∈((zav n).filter λ(k:Nat)=>RT (rs.map (red M)) (k:Int) t).map λ(k:Nat)=>(k:Int),(0<=k/\k<(n:Int))/\RT (rs.map (red M)) k t=true:=λk hk=>by
    obtain⟨j,hj,rfl⟩:=List.mem_map.mp hk
    have h:=List.mem_filter.mp hj
    have:=List.mem_range.mp h.1
    exact⟨by omega,h.2⟩
   generalize (((zav n).filter λ(k:Nat)=>RT (rs.map (red M)) (k:Int) t).map λ(k:Nat)=>(k:Int))=ws at cw wm wb
   have wp:(0:Int)<(ws.length:Int):=by have:=List.length_pos_of_mem wm;omega
   obtain⟨k,ek,hk3⟩:=qeJ (ns:=ws) (zar x (zaP wp)) (zas x wp)
   obtain⟨hkb,hkr⟩:=wb k (zaH hk3)
   have hz2:szOk (ks.length+1)=true:=decide_eq_true (by omega)
   have fv:=hf (I+1+(vs.length:Int)) (by omega) (by omega)
   generalize f (I+1+(vs.length:Int))=fc at fv
   have v0:=zar fc (zaP h0)
   have v1:=zas fc h0
   obtain⟨e1,f1⟩:=qmZ g hn.2 hkb.1 tb (qd4.mp hkr)
   have e2:=qgr h0 B.h60 B.rb (IsF.at_ f1) (x:=fc%M) ⟨v0,v1⟩
   have ll:(alo (rs.map (red M)) M (fwd (rs.map (red M))) ks (m.tk.take i) vs).length=i:=by rw[(qfV h0 (by omega) (by omega) vbd).1,tkl]
   have as:=qgF (R:=rs.map (red M)) (M:=M) (F:=fwd (rs.map (red M))) (k:=k) (t:=t) (v:=fc%M) (ks:=ks) (ts:=m.tk.take i) (vs:=vs) (by omega) (by omega)
   have zs:=qe9 (k:=k) (t:=t) (ks:=ks) (ts:=m.tk.take i) (by omega)
   rw[tk1]
   refine⟨_,?_,ks++[k],vs++[fc%M],x/6,some (.int t),some (.lst (ws.map .int)),some (tupI (fwd (rs.map (red M)) k t)),rfl,by simp_all[kl],by simp_all[vl],app1 kb hkb,app1 vbd ⟨v0,v1⟩,by rw[zs,List.all_append,al];simp_all[hkr]⟩
   rw[as]
   generalize alo (rs.map (red M)) M (fwd (rs.map (red M))) ks (m.tk.take i) vs=tv at ll ⊢
   generalize goR (rs.map (red M)) M (fc%M) (fwd (rs.map (red M)) k t)=gg at e2 ⊢
   generalize tupI (fwd (rs.map (red M)) k t)=ff at e1 e2 ⊢
   have nl:=qa0 (c:=c) (n:=n)
   generalize nmsD c n=nd at nl ⊢
   generalize bkD M c n rs ms=bk
   generalize matT n (RT (rs.map (red M)))=mt at cw e1 ⊢
   have za:szOk vs.length=true:=decide_eq_true (by omega)
   have zb:szOk tv.length=true:=decide_eq_true (by omega)
   refine turn_of (ρ1:=[some (.lst (ns.map .int)),some (.int M),some (.lst nd),some (.lst (rs.map rdD)),some (.lst (ms.map mkD)),some bk,some mt,some (.int I),some (.int x),some (.int vv),some (tupI ks),some (.lst (vs.map .int)),some (.lst (tv.map .int)),some (.int t),o14,o15,o16]) (by simp[-zac,-zad,qb,qg]) ?_
   refine(qe (qm (d:=.lst (ws.map .int)) (by simp_all[nl,r1,inS,qJ,hz,cw]))).trans ?_
   refine(qe (qm (d:=tupI (ks++[k])) (by simp_all[qD wp,ek,tupI,hz2]))).trans ?_
   refine(qe (qm (d:=.int (x/6)) (by simp_all[qae]))).trans ?_
   refine(qe (ρ':=[some (.lst (ns.map .int)),some (.int M),some (.lst nd),some (.lst (rs.map rdD)),some (.lst (ms.map mkD)),some bk,some mt,some (.int I),some (.int (x/6)),some (.int vv),some (tupI (ks++[k])),some (.lst ((vs++[fc%M]).map .int)),some (.lst (tv.map .int)),some (.int t),some (.lst (ws.map .int)),o15,o16]) (by simp_all[fv,qD h0,za])).trans ?_
   have ak:qu (tupI (ks++[k])) (.int (-1))=some (.int k):=by unfold tupI;rw[q_itT];exact atL
   have av:qu (.lst ((vs++[fc%M]).map .int)) (.int (-1))=some (.int (fc%M)):=by rw[q_itL];exact atL
   generalize tupI (ks++[k])=tk_ at ak ⊢
   generalize D.lst ((vs++[fc%M]).map .int)=tv_ at av ⊢
   refine(qe (qm (d:=ff) (by simp_all[asI,ak,e1]))).trans ?_
   simp_all[asI,av,e2,zb])
  rw[zan]at kl vl al ef
  rw[zbS]at al ef
  have hfit:fitB (rs.map (red M)) ks m.tk=true:=by unfold fitB;rw[decide_eq_true kl,Bool.true_and];exact al
  obtain⟨H,dd,es,fH,hd,dl,vs_⟩:=qgg (c:=c) B hmem ebm kb hfit
  have isf:=qeb fH hd (n:=(ks.length:Int)) (by omega)
  have fd1:=qdL (nn:=ks.length) h0 B.h60 (ts:=H) (vs:=vs) (by omega) (by omega) (λt ht=>by
   obtain⟨x1,x2⟩:=nf_t fH hd ht
   have cb:=fH.fo.cb t ht
   exact⟨by omega,x2,(Bd.of B.h60 ⟨cb.1,zbB cb.2⟩).mono (by decide)⟩) vbd (q:=fD H) (.inr rfl)
  obtain⟨al1,al2⟩:=qfV (R:=rs.map (red M)) (F:=fwd (rs.map (red M))) h0 (ks:=ks) (ts:=m.tk) (vs:=vs) (by omega) (by omega) vbd
  have fd2:=qdL (nn:=m.tk.length) h0 B.h60 (ts:=m.ts) (vs:=alo (rs.map (red M)) M (fwd (rs.map (red M))) ks m.tk vs) al1 tl2 ok.tt al2 (q:=.lst (m.ts.map tmD)) (.inl rfl)
  have eqv:=vs_ vs (by omega)
  unfold sv at eqv
  rw[eqv]at fd1
  generalize ev (alo (rs.map (red M)) M (fwd (rs.map (red M))) ks m.tk vs) m.ts%M=res at fd1 fd2
  refine⟨_,?_,some (.int I),some (.int x'),some (.int vv),some (tupI ks),some (.lst (vs.map .int)),some (.lst ((alo (rs.map (red M)) M (fwd (rs.map (red M))) ks m.tk vs).map .int)),o13',o14',o15',some (fD H),rfl⟩
  generalize (alo (rs.map (red M)) M (fwd (rs.map (red M))) ks m.tk vs).map D.int=tv at ef fd2 ⊢
  generalize nmsD c n=nd at ef ⊢
  generalize bkD M c n rs ms=bk at ef es ⊢
  generalize matT n (RT (rs.map (red M)))=mt at ef ⊢
  generalize hml:ms.map mkD=ml at em ef ⊢
  have mll:(ml.length:Int)=(ms.length:Int):=by rw[<- hml,zan]
  have n0:¬ ml=[]:=λz=>by rw[z]at mll;simp[-zac,-zad,qb,qg]at mll;omega
  rw[<- mll]at da
  refine turn_of (ρ1:=[some (.lst (ns.map .int)),some (.int M),some (.lst nd),some (.lst (rs.map rdD)),some (.lst ml),some bk,some mt,some (.int I),o8,o9,o10,o11,o12,o13,o14,o15,o16]) (by simp[-zac,-zad,qb,qg]) ?_
  refine(qe (qm (d:=.int ce) (by simp_all[fI]))).trans ?_
  refine(qe (ρ':=[some (.lst (ns.map .int)),some (.int M),some (.lst nd),some (.lst (rs.map rdD)),some (.lst ml),some bk,some mt,some (.int I),some (.int ce),o9,o10,o11,o12,o13,o14,o15,o16]) (by simp only[q_if];simp_all[n0])).trans ?_
  refine(qe (qm (d:=.int vv) (by simp_all[da]))).trans ?_
  refine(qe (qm (d:=.int (ce/8)) (by simp_all[qae]))).trans ?_
  refine(qe (qm (d:=tupI []) (by simp_all[tupI]))).trans ?_
  refine(qe (qm (d:=.lst []) (by simp[-zac,-zad,qb,qg]))).trans ?_
  refine(qe (qm (d:=.lst []) (by simp[-zac,-zad,qb,qg]))).trans ?_
  generalize mkD m=md at em m1 m3
  refine(qe (ρ':=[some (.lst (ns.map .int)),some (.int M),some (.lst nd),some (.lst (rs.map rdD)),some (.lst ml),some bk,some mt,some (.int I),some (.int x'),some (.int vv),some (tupI ks),some (.lst (vs.map .int)),some (.lst tv),o13',o14',o15',o16]) (by
   rw[q_for]
   refine Eq.trans (b:=Option.bind (some (m.tk.map .int)) _) (congrArg (λo=>Option.bind o _) (by simp_all[em,m1,tupI])) ?_
   exact ef)).trans ?_
  have kl_:dLen [tupI ks]=some (.int (ks.length:Int)):=by simp_all[tupI]
  generalize tupI ks=tk_ at es kl_ ⊢
  generalize fD H=hh at es isf fd1 ⊢
  refine(qe (qm (d:=hh) (by simp_all[es]))).trans ?_
  refine(qe (ρ':=[some (.lst (ns.map .int)),some (.int M),some (.lst nd),some (.lst (rs.map rdD)),some (.lst ml),some bk,some mt,some (.int I),some (.int x'),some (.int vv),some tk_,some (.lst (vs.map .int)),some (.lst tv),o13',o14',o15',some hh]) (by simp_all[kl_,isf])).trans ?_
  simp_all[fd1,em,m3,fd2]
 ·rintro ρ ⟨o7,o8,o9,o10,o11,o12,o13,o14,o15,o16,rfl⟩
  simp[-zac,-zad,qb,qg]
theorem tabB:Bds top tab:=by
 unfold tab
 repeat (refine Bds.cons ?_ ?_;· intro _ _ _ _ _ _ us hl;(repeat (obtain⟨_,us,rfl,k⟩:=lenS hl;clear hl;have hl:=k;clear k));cases lenZ hl;rfl)
 exact Bds.nil
theorem qpp{l:PySem.W.OpenLaw}{w:World}{K:zae}{h:Heap}{mg:Str->Option Value}{fa:Addr}{k:Nat}(X:K.In h)(G:h.Ns zaR mg)(hfa:mg "law" = some (.ref fa))(D:Des K top tab)(B:Nos K blt)(J:Gis K gis)
  {f0:Addr} {od0 an0:Option Addr} {sl0:Array (Option Value)} {oc0 kV0 dc0 pm0 cd0 ct0:Value} (a0:PySem.W.nsIn K zaR "law" = some (some (.ref f0))) (l0:K.lookup f0=some ⟨oc0,od0,.func (zbj "law" "law" (qay s_law) (qaa s_law) (qt s_law) .none kV0 dc0 pm0 an0 cd0 ct0),sl0⟩) (c0:PySem.W.codeIn K cd0 "law" = true) (k0:zbL K (.ref f0)=true)
  {aWORDS:Addr} {dWORDS:Option Addr} {nWORDS:Nat} {sWORDS:Array (Option Value)} {tWORDS0 tWORDS1 tWORDS2 tWORDS3:Tok} (gaWORDS:PySem.W.nsIn K zaR "WORDS" = some (some (.ref aWORDS))) (glWORDS:K.lookup aWORDS=some ⟨.type "tuple",dWORDS,.seq #[.str "let" tWORDS0,.str "in" tWORDS1,.str "pick" tWORDS2,.str "again" tWORDS3] nWORDS,sWORDS⟩)
  (ok:∀base:Heap,K.In base->base.Ns zaR mg->Txt K mg->My.BodyOk l.prog w K mg base "law" s_law ["script", "M", "kinds", "roads", "makes", "made", "reach", "k", "cell", "v", "some", "values", "turned_values", "goal", "near", "way", "found"] k (My.qif K)) :
  ∃fd:FuncData,(∀(s:Shared) (v:Value),BindsTo s fd ⟨[v],[]⟩ [("script",v)])/\∀base:Heap,K.In base->base.Ns zaR mg->FnOk l.prog w K mg base CX0 (k+1) fa fd ["script"] (My.qif K):=by
 have e:=hfa.symm.trans (PySem.W.mg_of X G a0)
 cases e
 have F0:=qlS (st:=s_law) l0 c0 k0
 have T:Txt K mg:=⟨Des.d X G D tabB,λx hx=>PySem.W.mg_none_of X G (B x hx),Gis.d X G J,⟨⟨_,PySem.W.mg_of X G gaWORDS,_,_,_,glWORDS,rfl,rfl,by show 4<=zaj;decide,.cons ⟨_,rfl⟩ (.cons ⟨_,rfl⟩ (.cons ⟨_,rfl⟩ (.cons ⟨_,rfl⟩ (.nil))))⟩⟩⟩
 refine⟨zbj "law" "law" (qay s_law) (qaa s_law) (qt s_law) .none kV0 dc0 pm0 an0 cd0 ct0,λs v=>.of_eq rfl,λbase kb nb=>?_⟩
 exact(ok base kb nb T).fn F0 sc_law (λvs H Q E h=>by obtain⟨a,ns,e,_⟩:=h;rw[e];rfl)
end Law
namespace PySem.W.Fast
theorem tw453195350334978464:0=0:=rfl
theorem tw5596463585232917246:0=0:=rfl
theorem tw9375176794466500575:0=0:=rfl
theorem tw10692132104192839498:0=0:=rfl
theorem tw1253948290183511235:0=0:=rfl
theorem tw10586220133986793780:0=0:=rfl
theorem tw7348884271726117132:0=0:=rfl
theorem tw15370140671073789002:0=0:=rfl
theorem tw1690333223430784950:0=0:=rfl
theorem tw15171643607835542892:0=0:=rfl
theorem tw15302530627982076495:0=0:=rfl
theorem tw11117478887799032259:0=0:=rfl
theorem tw14662684993746222734:0=0:=rfl
theorem tw9269880153775716935:0=0:=rfl
theorem tw17409414107092389061:0=0:=rfl
theorem tw7925923732341554966:0=0:=rfl
theorem tw12908516065544257902:0=0:=rfl
theorem tw605414354996683809:0=0:=rfl
theorem tw15959798245916475164:0=0:=rfl
theorem tw6776562179880736652:0=0:=rfl
theorem tw18046598636013956712:0=0:=rfl
theorem tw3517937302674484971:0=0:=rfl
theorem tw6941685480307418944:0=0:=rfl
theorem tw7360450007766938330:0=0:=rfl
theorem tw200629753541174707:0=0:=rfl
theorem tw11528481859106014013:0=0:=rfl
theorem tw13300102698317738706:0=0:=rfl
theorem tw8150030069968979141:0=0:=rfl
theorem tw6757689810808575335:0=0:=rfl
theorem tw13556253203616761955:0=0:=rfl
theorem tw2777790138586876448:0=0:=rfl
theorem tw9108762225970545175:0=0:=rfl
theorem tw9076965287265731726:0=0:=rfl
theorem tw15588341942017558929:0=0:=rfl
theorem tw13821905329707667000:0=0:=rfl
theorem tw15143751477337202124:0=0:=rfl
theorem tw14222519064556129869:0=0:=rfl
theorem tw15460491715062675108:0=0:=rfl
theorem tw16545425665027553013:0=0:=rfl
theorem tw16397512940888369575:0=0:=rfl
theorem tw12279634676055224319:0=0:=rfl
theorem tw18060528635556928092:0=0:=rfl
theorem tw6775702532238785073:0=0:=rfl
theorem tw5138854599851147424:0=0:=rfl
theorem tw15950304407250831653:0=0:=rfl
theorem tw9854267204017161290:0=0:=rfl
theorem tw306918082325930536:0=0:=rfl
theorem tw9636089708899980777:0=0:=rfl
theorem tw2615996824302971299:0=0:=rfl
theorem tw3966783518893689980:0=0:=rfl
theorem tw15316421466500999988:0=0:=rfl
theorem tw17547332088175408749:0=0:=rfl
theorem tw432897696475321964:0=0:=rfl
theorem tw5963010792811215455:0=0:=rfl
theorem tw22818727084988308:0=0:=rfl
theorem tw10063532261421082483:0=0:=rfl
theorem tw9373150456034578337:0=0:=rfl
theorem tw10454993827547813722:0=0:=rfl
theorem tw13312202982072955363:0=0:=rfl
theorem tw16589834881732312451:0=0:=rfl
theorem tw3047733494196437901:0=0:=rfl
theorem tw4009500358649994458:0=0:=rfl
theorem tw3328878356796605143:0=0:=rfl
theorem tw17745615184281911941:0=0:=rfl
theorem tw5555370483843202262:0=0:=rfl
theorem tw6765909762042329562:0=0:=rfl
theorem tw10096839074585349793:0=0:=rfl
theorem tw7601104463035225502:0=0:=rfl
theorem tw15075760329814014048:0=0:=rfl
theorem tw10964947110896421702:0=0:=rfl
theorem tw4463349388475627120:0=0:=rfl
theorem tw8359620663993110560:0=0:=rfl
theorem tw3258950727529503620:0=0:=rfl
theorem tw11304406384485155943:0=0:=rfl
theorem tw2314578065630613146:0=0:=rfl
theorem tw483685460499121576:0=0:=rfl
theorem tw13930647333482587120:0=0:=rfl
theorem tw16733732189223911140:0=0:=rfl
theorem tw15600081331875785198:0=0:=rfl
theorem tw1269110486121729670:0=0:=rfl
theorem tw7263290007022314767:0=0:=rfl
theorem tw16400876826088000413:0=0:=rfl
theorem tw1651268487187496783:0=0:=rfl
theorem tw8350013087965312517:0=0:=rfl
theorem tw6351098773077632247:0=0:=rfl
theorem tw9099526890932006141:0=0:=rfl
theorem tw3643335644077581075:0=0:=rfl
theorem tw5706563000123139075:0=0:=rfl
theorem tw8875444972494031430:0=0:=rfl
theorem tw9711036629317023387:0=0:=rfl
theorem tw14884946548918726090:0=0:=rfl
theorem tw14164087957464468111:0=0:=rfl
theorem tw12439229660747950180:0=0:=rfl
theorem tw6826135976424481530:0=0:=rfl
theorem tw2282945566118275918:0=0:=rfl
theorem tw2851080326415912174:0=0:=rfl
theorem tw10722355841529628896:0=0:=rfl
theorem tw13333302546990834783:0=0:=rfl
theorem tw14835307486649144238:0=0:=rfl
theorem tw5910921940819094601:0=0:=rfl
theorem tw9347946866471562714:0=0:=rfl
theorem tw17574469746337198027:0=0:=rfl
theorem tw5737927209955953862:0=0:=rfl
theorem tw5667550082642154761:0=0:=rfl
theorem tw10257258884376964238:0=0:=rfl
theorem tw2467099698711047585:0=0:=rfl
theorem tw12996434686014601216:0=0:=rfl
theorem tw8761910548145001982:0=0:=rfl
theorem tw18258071231034868569:0=0:=rfl
theorem tw5433408849253466203:0=0:=rfl
theorem tw16124992971221530623:0=0:=rfl
theorem tw12177352297962633426:0=0:=rfl
theorem tw8308825938035339758:0=0:=rfl
theorem tw10284181065351980609:0=0:=rfl
theorem tw2695643880518136578:0=0:=rfl
theorem tw11244579312305052450:0=0:=rfl
theorem tw7379192567770071376:0=0:=rfl
theorem tw11776884020300437745:0=0:=rfl
theorem tw2493426715739183139:0=0:=rfl
theorem tw4773074619463400502:0=0:=rfl
theorem tw4980976133610314430:0=0:=rfl
theorem tw11561232495025490543:0=0:=rfl
theorem tw15188465097406204000:0=0:=rfl
theorem tw14355911772164512826:0=0:=rfl
theorem tw14032691191692866513:0=0:=rfl
theorem tw7027730498616652252:0=0:=rfl
theorem tw2403024181431520788:0=0:=rfl
theorem tw2720473873228153050:0=0:=rfl
theorem tw11062076034966632027:0=0:=rfl
theorem tw11507301479899767240:0=0:=rfl
theorem tw3379744948757094152:0=0:=rfl
end PySem.W.Fast
open PySem PySem.W PyProof.Rows
set_option maxRecDepth 100000 in
set_option maxHeartbeats 0 in
theorem PySem.Challenge.cw_chiefway_k23_forms_seen_from_kinds_holds : PySem.Challenge.rw_chiefway_k23_forms_seen_from_kinds.Holds := by
 w_on;o_law;k_head;(case hw=>w_witness2)
 k_fill
 refine My.walk (l:=PySem.Challenge.rw_chiefway_k23_forms_seen_from_kinds) (k:=7) (by decide) rfl rfl (λw h Y=>PySem.W.kIn_of Y) ?F
 case F=>
  intro w mg fa h KX G hmg
  refine' Law.qpp (k:=6) KX G hmg ?D ?B ?J ?a0 ?l0 ?c0 ?k0 ?gaWORDS ?glWORDS ?ok
  (case D=>unfold Law.tab;(repeat (apply P.Des.cons;(case a=>k_is);(case l=>k_is);(case c=>k_is);(case k=>k_is)));exact P.Des.nil)
  (case B=>unfold Law.blt;(repeat (apply P.Nos.cons;(case a=>k_is)));exact P.Nos.nil)
  (case J=>unfold Law.gis;(repeat (apply P.Gis.cons;(case a=>k_is)));exact P.Gis.nil)
  (case a0=>k_is)
  (case l0=>k_is)
  (case c0=>k_is)
  (case k0=>k_is)
  (case gaWORDS=>k_is)
  (case glWORDS=>k_is)
  (case ok=>exact λbase kb nb T=>P.qpM (f:=Law.qnY) (O':=[]) rfl (λfa cdv A outer s H E hr=>Law.qpf.2 T fa cdv A outer s H E hr) Law.qqE)
