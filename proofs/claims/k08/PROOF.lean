import PyProof.Rows.All
import Wide.All
import OpenK.AllK
import Wide.FinOn
import Lean
import PyProof.EqAt
import PyProof.EqKinds
import PyProof.TupleCall
import KE.KRevSl
import PyProof.AttrMissHeap
import KE.KDictOf
import PyProof.StrWalks
import PyProof.ListStr
import PyProof.EnumMake
import PyProof.Rows.Range3
import PyProof.Rows.StrIndexOr
import KE.KRevIter
import PyProof.SumWalk
import PyProof.ReprRoads
import PyProof.DictWalks
import PyProof.FitsBits
import PyProof.CallStr
import PyProof.Rows.FStr
import PyProof.Rows.StrNews
import KE.KIntText
import PyProof.Rows.MinMaxN
import PyProof.StrCalls
import KE.KDictList
import PyProof.RulesTry
import PyProof.Rows.RuleIs
import KE.KDictSum
import PyProof.DictTruth
import PyProof.MinMaxWalk
import PyProof.Rows.SetFrom
import PyProof.ListMulRoad
import PyProof.FactsAll.tuple_2
import PyProof.TupleOfStr
import PyProof.WalkInts
import PyProof.WalksMore
import PyProof.RowDictHeap
import KE.KItemsList
import PyProof.SetScanFacts
import PyProof.Draws
import PyProof.TupleKey
import PyProof.IsRules
import PyProof.FString5
import PyProof.NeKinds
import PyProof.FactsAll.dict_2
import PyProof.ExcClass3
import PyProof.ExcInit
import PyProof.InstStoreFacts
import PyProof.StationsW
import PyProof.RulesAs
import PyProof.AssignAttr
import KE.KIsAll
import PyProof.ExcArgs
import PyProof.StrLawsIn
import PyProof.Rows.StrLawsPart
import PyProof.StrLawsChain
import PyProof.Rows.StrIntSpec
import PyProof.StrLawsTight
import PyProof.Rows.ReprOcc
import PyProof.ExcBaseAll.ValueError
import PySem.Challenge.RW_stickytiles_k08_errors_apart
set_option maxHeartbeats 8000000
set_option maxRecDepth 100000
open PySem.W renaming Frag→Aa,keepIn→AQ,fnOf→AS,codeIn→Bo,methodObj→BM,cellsFrom_some→Cg,callWith_K→CI,nsIn→CJ,lookIn→C6
open PySem renaming wpAny_bind→Ab,wpAny_pure→Ac,mem_of_lookup→Aq,wpAny_loadPart_at→AC,wpAny_mono→AH,wpAny_typeNameOfWhole_keyiter→AO,wpAny_newObj_type→AW,wpAny_callSpecial?_slot→A0,wpAny_Call_Name_kw→A1,wpAny_call_entry→Bb,wpAny_passesOwn→Bg,wpAny_call→Bw,pushCells_keeps→By,codeAny_call_builtin→BB,wpAny_isSubtype_exc→BC,wpAny_setField→BE,wpAny_holding→BL,wpAny_dictEntries→BP,codeAny_call_builtin_code→BS,wpAny_check_type_call_sub→BU,codeAny_mono→B1,codeAny_call_builtin_at→B9,wpAny_execs_nil→Ca,wpAny_dictEpoch→Cd,wpAny_field→Cm,wpAny_isOneOf_keyiter→Cr,wpAny_typeLookup_tail→Cs,wpAny_check_new_subU→Cu,codeAny_exc_new_subU→Cv,wpAny_attempt→Cw,wpAny_truthy_bool→CL,wpAny_pyIter_enum→CQ,sizeLine_eq→CT,wpAny_of_eq→CV,wpAny_Name→CZ,call→C0
open List renaming append_nil→Ad,append_assoc→Ag,getElem?_append_left→Ah,mem_cons_of_mem→Al,size_toArray→An,mem_cons_self→Ap,getElem?_append_right→As,mem_append_right→Av,lookup_cons→Ax,getElem?_map→AA,mem_of_getElem?→AF,map_cons→AG,length_append→AK,length_map→AM,find?_cons→AN,getElem?_eq_getElem→AX,getElem?_replicate→AZ,eq_nil_of_length_eq_zero→A2,replicate→A4,length_replicate→A5,mem_append_left→A9,getElem?_set_ne→Ba,filterMap_cons→Bd,range→Bm,length_cons→Br,length_singleton→Bs,drop_eq_getElem_cons→BR,map_nil→B2,of_mem_zip→Cb,getElem?_set_self→Cf,drop_eq_nil_of_le→Ck,lookup→Cn,getElem?_range→CA,contains_cons→CK,getElem?_set→CN,nodup_append→CO,filter_cons→CW,all_eq_true→CY,length_set→C1,nodup_cons→C2,drop_zero→C7,forIn_nil→C8,mem_cons→Dc
open PySem.Heap renaming lt_size→Ae,get?_push_of_some→Af,get?_push_size→Aw,get?_update_self→AU,size_push→A6,get?_update_other→Bp,get?_none_of_le→Bu,SameBut→Bv,get?_update_ne→CD,get?_push_at→CS,ExtBut→CU,MadeExcOf→C9
open Option.some renaming inj→Ai
open Nat renaming le_refl→Aj,lt_of_lt_of_le→Ak,ne_of_lt→Ay,lt_irrefl→AD,le_trans→AE,le_of_succ_le→AV,zero_le→Bc,sub_self→Bx,le_succ→BG,lt_of_le_of_lt→BH,lt_succ_of_lt→BN,le_of_lt→BY,ne_of_gt→BZ,succ_le_succ→B5,add_le_add_left→Cz
open PySem.NameKind renaming free→Am,cell→Ar
open PySem.Value renaming ref→Ao,none→AL,builtin→Bq,int→CF,str→CG,isStrOf→Da,isInt→Dg
open Option renaming bind_some→Au,map_some→BA,getD_some→B4,map_none→C4,bind→Dh
open Bool renaming and_eq_true→Az,false_ne_true→AR,false_eq_true→Bk
open Prod.mk renaming inj→AB
open PySem.Builtin.SmallTypes renaming nextOf→AI
open Array renaming length_toList→AJ,getElem?_toList→Bt
open PySem.AutoSeq1 renaming wpAny_loadPart'→AY
open Int renaming toNat_natCast→A3
open PySem.PyData renaming canLay0→A7,depth→Bi,canLayAll0→BO,int→BV,depthAll→Cc,eqvAll→Cy,eqv→C3
open PyProof.Rows renaming callWith_type1→A8,slot_tupleiter_next→Be,subscriptTail_builtinR→Cj,entry_tupleiter_next→Ct,args_tupleiter_next→CC
open PySem.Heap.SameBut renaming update→Bf
open PySem.Obj renaming data_mapFields→Bj,isFreed_of_fields→Cp,cls_mapFields→CP,mapFields→De
open PySem.Code renaming quiet_builtin→Bl,isFrame→CH,isGuard→Df
open ForInStep renaming yield→Bz
open Ne renaming symm→BD
open PySem.Builtin.Dict_items renaming ownsTuple→BF
open Or renaming inr→BI,inl→Co
open PySem.Paired renaming length→BJ
open PySem.Calls renaming Name_function_global→BK
open True renaming intro→BQ
open Sum renaming inl→BW,inr→BX
open PySem.Around renaming under→B0
open PySem.F renaming args_tuple_add_2→B3,entry_tuple_add→B8,slot_tuple_add→Ci
open PySem.Str renaming ofString→B6
open Nat.succ renaming inj→B7
open PySem.Builtin.Dict renaming showsAll→Cq
open PySem.Builtin.Int renaming intBits→CB
open List.Pairwise renaming nil→CM
open PySem.PassesOwn renaming never→C5
open PySem.Heap.IsListIter renaming «at»→Di
set_option Elab.async false
set_option linter.all false
namespace L2
open PySem PySem.Spec PyProof.Rows
noncomputable abbrev Key:=Sum Int Str
noncomputable def zd7:Key->Value->Bool
 | .inl k,v=>Dg k v
 | .inr x,v=>Da x v
noncomputable def keyH(w:World):Key->Int
 | .inl k=>hashInt k
 | .inr x=>hashStr w x
theorem zaj:∀ {k:Key} {v:Value},zd7 k v=true->(∃ i t,k=BW i/\v=CF i t)\/(∃ x t,k=BX x/\v=CG x t)
 | .inl i,v,h=>by
   obtain⟨t,e⟩:=Value.isInt_shape (k:=i) (v:=v) h;exact .inl ⟨i,t,rfl,e⟩
 | .inr x,v,h=>by
   obtain⟨t,e⟩:=Value.isStrOf_shape (x:=x) (v:=v) h;exact .inr ⟨x,t,rfl,e⟩
theorem zc3(i:Int)(t:Tok):zd7 (.inl i) (.int i t)=true:=by simp[zd7,Dg]
theorem zc2(x:Str)(t:Tok):zd7 (.inr x) (.str x t)=true:=by simp[zd7,Da]
theorem zfM(a b:Int):decide ((BW a:Key)=BW b)=(a==b):=by
 by_cases e:a=b
 . subst e;simp
 . have h:¬ (BW a:Key)=BW b:=fun q=>e (Sum.inl.inj q);rw[decide_eq_false h];exact (beq_eq_false_iff_ne.mpr e).symm
theorem zfJ(a b:Str):decide ((BX a:Key)=BX b)=decide (a=b):=by
 by_cases e:a=b
 . subst e;simp
 . have h:¬ (BX a:Key)=BX b:=fun q=>e (Sum.inr.inj q);rw[decide_eq_false h,decide_eq_false e]
theorem zfL(a:Int)(b:Str):decide ((BW a:Key)=BX b)=false:=decide_eq_false (fun q=>nomatch q)
theorem zfK(a:Str)(b:Int):decide ((BX a:Key)=BW b)=false:=decide_eq_false (fun q=>nomatch q)
noncomputable def zar(prog:Program)(w:World):PySem.KeyKind prog w Key where
 is:=zd7
 hash:=keyH w
 inj:=fun v a b ha hb=>by
   rcases zaj ha with ⟨i,t,rfl,rfl⟩ | ⟨x,t,rfl,rfl⟩
   . rcases zaj hb with ⟨j,u,rfl,e⟩ | ⟨y,u,rfl,e⟩
     . injection e with e1 _;rw[e1]
     . exact nomatch e
   . rcases zaj hb with ⟨j,u,rfl,e⟩ | ⟨y,u,rfl,e⟩
     . exact nomatch e
     . injection e with e1 _;rw[e1]
 byValue:=fun k v h=>by
   rcases zaj h with ⟨i,t,rfl,rfl⟩ | ⟨x,t,rfl,rfl⟩ <;> rfl
 pyHash:=fun hv h=>by
   rcases zaj hv with ⟨i,t,rfl,rfl⟩ | ⟨x,t,rfl,rfl⟩
   . exact wpAny_pyHash_int h
   . exact wpAny_pyHash_str h
 eqBool:=fun hu hv h=>by
   rcases zaj hu with ⟨i,t,rfl,rfl⟩ | ⟨x,t,rfl,rfl⟩
   . rcases zaj hv with ⟨j,u,rfl,rfl⟩ | ⟨y,u,rfl,rfl⟩
     . rw[zfM] at h;exact wpAny_eqBool_int h
     . rw[zfL] at h;exact SeqAt.EqAt.int_str i t y u _ _ _ _ h
   . rcases zaj hv with ⟨j,u,rfl,rfl⟩ | ⟨y,u,rfl,rfl⟩
     . rw[zfK] at h;exact SeqAt.EqAt.str_int x t j u _ _ _ _ h
     . rw[zfJ] at h;exact wpAny_eqBool_str h
 «strs»:=fun k x t v h=>by
   rcases zaj h with ⟨i,u,rfl,e⟩ | ⟨y,u,rfl,e⟩
   . exact nomatch e
   . injection e with e1 _
     subst e1
     cases v <;> rfl
theorem zbI(prog:Program)(w:World)(i:Int)(t:Tok):(zar prog w).is (.inl i) (.int i t)=true:=zc3 i t
theorem zbH(prog:Program)(w:World)(x:Str)(t:Tok):(zar prog w).is (.inr x) (.str x t)=true:=zc2 x t
inductive V where
 | non | bl (b:Bool) | int (i:Int) | str (x:Str) | byt (b:Array UInt8) | flt (b:UInt64) | ref (a:Addr) | ty (n:String)
 deriving DecidableEq
noncomputable def RelV:V->Value->Prop
 | .non,u=>u=AL
 | .bl b,u=>u=Value.bool b
 | .int i,u=>∃ t,u=CF i t
 | .str x,u=>∃ t,u=CG x t
 | .byt b,u=>∃ t,u=Value.bytes b t
 | .flt b,u=>∃ t,u=Value.float b t
 | .ref a,u=>u=Ao a
 | .ty n,u=>u=Value.type n
noncomputable abbrev Vals:List V->List Value->Prop:=Paired RelV
theorem Vals.length{xs:List V}{us:List Value}(r:Vals xs us):xs.length=us.length:=BJ r
theorem Vals.get:∀ {xs:List V} {us:List Value} {i:Nat} {x:V},Vals xs us->xs[i]?=some x->∃ u,us[i]?=some u/\RelV x u
 | _,_,_,_,.nil,e=>by simp at e
 | _,_,0,_,.cons r _,e=>by simp at e;subst e;exact⟨_,rfl,r⟩
 | _,_,i+1,x,.cons _ t,e=>by
   obtain⟨u,h1,h2⟩:=Vals.get (i:=i) (x:=x) t (by simpa using e);exact⟨u,by simpa using h1,h2⟩
theorem Vals.append:∀ {xs ys:List V} {us ws:List Value},Vals xs us->Vals ys ws->Vals (xs++ys) (us++ws)
 | _,_,_,_,.nil,s=>s
 | _,_,_,_,.cons r t,s=>.cons r (Vals.append t s)
noncomputable def RelO:Option V->Option Value->Prop
 | some v,some u=>RelV v u
 | none,none=>True
 | _,_=>False
noncomputable def KV{κ:Type}:List (κ×V)->List (κ×Value)->Prop:=Paired fun (p:κ×V) (q:κ×Value)=>p.1=q.1/\RelV p.2 q.2
noncomputable def kV:Key->V
 | .inl i=>.int i
 | .inr x=>.str x
inductive HO where
  | lst (xs:List V)
  | tup (xs:List V)
  | dK (kvs:List (Key×V)) | dT (kvs:List (List Key×V))
  | set (S:Int->Bool) (n:Nat)
  | ins (C dx:Addr) (fs:List (Str×V))
  | own (x:Addr)
  | xd (fs:List (Str×V))
  | met (f x:Addr)
  | rng (lo hi:Int)
  | frz (o:Obj) (u:HO)
  | tbl (ps:Array Value)
  | ext (φ:Heap->Prop)
noncomputable abbrev Hp:=Addr->Option HO
noncomputable def upd(H:Hp)(a:Addr)(o:HO):Hp:=fun b=>if b=a then some o else H b
theorem zai{H:Hp}{a:Addr}{o:HO}:upd H a o a=some o:=by unfold upd;rw[if_pos rfl]
theorem zaf{H:Hp}{a b:Addr}{o:HO}(h:b≠a):upd H a o b=H b:=by unfold upd;rw[if_neg h]
theorem zdl{H:Hp}{a:Addr}{o u:HO}:upd (upd H a o) a u=upd H a u:=by
 funext b;unfold upd;split <;> rfl
theorem zgb{H:Hp}{a b:Addr}{o u:HO}(h:H a=some o)(h':H b=some u)(d:o≠u):a≠b:=by
 intro e;subst e;rw[h] at h';exact d (Ai h')
theorem zac{H:Hp}{a b:Addr}{o:HO}(h:H a=some o)(h':H b=none):a≠b:=by
 intro e;subst e;rw[h] at h';cases h'
def zbQ(h:Heap)(a:Addr)(items:Array Value):Prop:=∃ o,h.get? a=some o/\o.cls=.type "tuple"/\o.dict=none/\∃ n,o.data=.seq items n
theorem zbQ.t{h:Heap}{a:Addr}{items:Array Value}(x:zbQ h a items):IsTup h a items:=let ⟨o,ho,hc,_,r⟩:=x;⟨o,ho,hc,r⟩
theorem zbQ.new(h:Heap)(items:Array Value):zbQ (h.push { cls:=.type "tuple",data:=.seq items }) h.objs.size items:=⟨_,Aw _ rfl,rfl,rfl,0,rfl⟩
section
variable (P:Program) (w:World)
noncomputable def zaV(H:Hp)(h:Heap)(a:Addr):HO->Prop
 | .lst xs=>xs.length<=sizeLine/\∃ (its:List Value) (n:Nat),Vals xs its/\h.get? a=some { cls:=.type "list",data:=.seq its.toArray n }
 | .tup xs=>xs.length<=sizeLine/\∃ its:List Value,Vals xs its/\zbQ h a its.toArray
 | .dK kvs=>kvs.length<=sizeLine/\(a==sysModules)=false/\∃ vs,KV kvs vs/\h.DictOf (zar P w) a vs
 | .dT kvs=>kvs.length<=sizeLine/\(a==sysModules)=false/\∃ xs:List (List Key×Addr×Value),
     Paired (fun (p:List Key×V) (q:List Key×Addr×Value)=>p.1=q.1/\H q.2.1=some (.tup (p.1.map kV))/\RelV p.2 q.2.2) kvs xs /\
     ∃ o es ep,h.get? a=some o/\o.ExactDict/\o.data=.dict es ep/\es.toList=xs.map (entryOfKey (tupleKind (zar P w)))/\(xs.map (·.1)).Nodup
 | .set S n=>h.SetOf (intKind P w) a S n
 | .ins C dx fs=>H dx=some (.own a)/\fs.length<=1000/\dx≠a/\h.get? a=some (PySem.W.instObj C dx) /\
     ∃ mA,h.Ns1 dx mA/\(∀ f,RelO (fs.lookup f) (mA f))/\PySem.Within mA (fs.map (·.1))
 | .own _=>∃ o,h.get? a=some o
 | .xd fs=>∃ mA,h.Ns1 a mA/\∀ f,RelO (fs.lookup f) (mA f)
 | .rng lo hi=>∃ t u v,h.get? a=some { cls:=.type "range",data:=.fields #[.int lo t,.int hi u,.int 1 v] }
 | .frz o u=>h.get? a=some o/\zaV H h a u
 | .tbl ps=>h.get? a=some { cls:=.none,data:=.fields ps }
 | .met f x=>h.get? a=some (BM (.ref f) (.ref x))
 | .ext φ=>φ h/\(∃ o,h.get? a=some o)/\∀ h1 h2:Heap,φ h1->(∀ o,h1.get? a=some o->h2.get? a=some o)->φ h2
def HOk(H:Hp)(h:Heap):Prop:=∀ a o,H a=some o->zaV P w H h a o
end
section
variable {P:Program} {w:World} {H H':Hp} {h h':Heap} {a:Addr} {o:HO}
theorem zaV.lt(x:zaV P w H h a o):a < h.objs.size:=by
 cases o with
 | lst xs=>obtain⟨_,_,_,_,e⟩:=x;exact Ae e
 | tup xs=>obtain⟨_,_,_,p⟩:=x;exact p.t.lt
 | dK kvs=>obtain⟨_,_,_,_,o,_,_,e,_⟩:=x;exact Ae e
 | dT kvs=>obtain⟨_,_,_,_,o,_,_,e,_⟩:=x;exact Ae e
 | set S n=>obtain⟨o,_,_,_,e,_⟩:=x;exact Ae e
 | ins C dx fs=>obtain⟨_,_,_,e,_⟩:=x;exact Ae e
 | own y=>obtain⟨_,e⟩:=x;exact Ae e
 | xd fs=>obtain⟨_,⟨_,_,_,e,_⟩,_⟩:=x;exact Ae e
 | rng lo hi=>obtain⟨_,_,_,e⟩:=x;exact Ae e
 | frz ob u=>obtain⟨e,_⟩:=x;exact Ae e
 | tbl ps=>exact Ae (show h.get? a=some _ from x)
 | met f y=>exact Ae (show h.get? a=some _ from x)
 | ext φ=>obtain⟨_,⟨_,e⟩,_⟩:=x;exact Ae e
theorem Paired.mapP{α β:Type}{F G:α->β->Prop}:∀ {l₁:List α} {l₂:List β},Paired F l₁ l₂->(∀ a b,F a b->G a b)->Paired G l₁ l₂
 | _,_,.nil,_=>.nil
 | _,_,.cons r t,f=>.cons (f _ _ r) (Paired.mapP t f)
theorem zaV.stay(x:zaV P w H h a o)(k:∀ b u,(b=a\/H b=some (.own a))->h.get? b=some u->h'.get? b=some u)
   (ho:∀ b,H b=some (.own a)->H' b=some (.own a)) (ht:∀ b xs,H b=some (.tup xs)->H' b=some (.tup xs)):zaV P w H' h' a o:=by
 induction o with
 | lst xs=>obtain⟨z,its,n,r,e⟩:=x;exact⟨z,its,n,r,k _ _ (.inl rfl) e⟩
 | tup xs=>obtain⟨z,its,r,ob,e,c⟩:=x;exact⟨z,its,r,ob,k _ _ (.inl rfl) e,c⟩
 | dK kvs=>obtain⟨z,y,vs,r,ob,es,ep,e,c⟩:=x;exact⟨z,y,vs,r,ob,es,ep,k _ _ (.inl rfl) e,c⟩
 | dT kvs =>
   obtain⟨z,y,xs,r,ob,es,ep,e,c⟩:=x;exact⟨z,y,xs,Paired.mapP r fun p q z=>⟨z.1,ht _ _ z.2.1,z.2.2⟩,ob,es,ep,k _ _ (.inl rfl) e,c⟩
 | set S n=>obtain⟨ob,es,ep,t,e,c⟩:=x;exact⟨ob,es,ep,t,k _ _ (.inl rfl) e,c⟩
 | ins C dx fs =>
   obtain⟨d,z,ne,e,mA,⟨od,es,ep,e2,c⟩,r⟩:=x;exact⟨ho _ d,z,ne,k _ _ (.inl rfl) e,mA,⟨od,es,ep,k _ _ (.inr d) e2,c⟩,r⟩
 | own y=>obtain⟨ob,e⟩:=x;exact⟨ob,k _ _ (.inl rfl) e⟩
 | xd fs=>obtain⟨mA,⟨od,es,ep,e,c⟩,r⟩:=x;exact⟨mA,⟨od,es,ep,k _ _ (.inl rfl) e,c⟩,r⟩
 | rng lo hi=>obtain⟨t,u,v,e⟩:=x;exact⟨t,u,v,k _ _ (.inl rfl) e⟩
 | frz ob u ih=>obtain⟨e,q⟩:=x;exact⟨k _ _ (.inl rfl) e,ih q⟩
 | tbl ps =>
   have e:h.get? a=some { cls:=.none,data:=.fields ps }:=x;show h'.get? a=some { cls:=.none,data:=.fields ps };exact k a _ (.inl rfl) e
 | met f y =>
   have e:h.get? a=some (BM (.ref f) (.ref y)):=x;show h'.get? a=some (BM (.ref f) (.ref y));exact k a _ (.inl rfl) e
 | ext φ=>obtain⟨p,⟨o,e⟩,st⟩:=x;exact⟨st _ _ p fun o q=>k _ _ (.inl rfl) q,⟨o,k _ _ (.inl rfl) e⟩,st⟩
theorem HOk.lt(x:HOk P w H h)(e:H a=some o):a < h.objs.size:=(x a o e).lt
theorem HOk.fresh(x:HOk P w H h)(e:h.objs.size<=a):H a=none:=by
 cases q:H a with
 | none=>rfl
 | some u=>exact absurd (Ak (x.lt q) e) (AD _)
theorem HOk.kept(x:HOk P w H h)(k:∀ b u,h.get? b=some u->h'.get? b=some u):HOk P w H h':=fun a o e =>
 (x a o e).stay (fun b u _ q=>k b u q) (fun _ q=>q) fun _ _ q=>q
theorem HOk.laid(x:HOk P w H h)(k:∀ b u,h.get? b=some u->h'.get? b=some u)(hp:h.objs.size<=a)(new:zaV P w (upd H a o) h' a o):HOk P w (upd H a o) h':=fun b u e=>by
 have hn:=x.fresh hp
 by_cases hb:b=a
 . subst hb;rw[zai] at e;cases e;exact new
 . rw[zaf hb] at e;exact (x b u e).stay (fun c v _ q=>k c v q) (fun c q=>by rw[zaf (zac q hn)];exact q) fun c xs q=>by rw[zaf (zac q hn)];exact q
end
def Rd(H:Hp)(a:Addr)(u:HO):Prop:=H a=some u\/∃ o,H a=some (.frz o u)
theorem Rd.ok{P:Program}{w:World}{H:Hp}{h:Heap}{a:Addr}{u:HO}(r:Rd H a u)(x:HOk P w H h):zaV P w H h a u:=by
 rcases r with r | ⟨o,r⟩
 . exact x a u r
 . obtain⟨_,q⟩:=x a _ r;exact q
noncomputable def Mut:Option HO->Prop
 | some (.lst _)=>True
 | some (.dK _)=>True
 | some (.dT _)=>True
 | some (.set _ _)=>True
 | some (.ins _ _ _)=>True
 | some (.ext _)=>True
 | _=>False
section
variable {P:Program} {w:World} {H:Hp} {h h':Heap} {x e:Addr} {o':HO}
theorem HOk.write(ok:HOk P w H h)(mu:Mut (H x))(he:e=x\/H e=some (.own x))(k:∀ b u,b≠e->h.get? b=some u->h'.get? b=some u)(heo:∃ u,h'.get? e=some u)
   (new:zaV P w (upd H x o') h' x o'):HOk P w (upd H x o') h':=fun b u q=>by
 have nown:∀ c y,H c=some (.own y)->c≠x:=fun c y r z=>by subst z;rw[r] at mu;exact mu
 have ntup:∀ c xs,H c=some (.tup xs)->c≠x:=fun c xs r z=>by subst z;rw[r] at mu;exact mu
 by_cases hb:b=x
 . subst hb;rw[zai] at q;cases q;exact new
 . rw[zaf hb] at q
   by_cases hbe:b=e
   . have q':H b=some (.own x):=by
       rcases he with z | z
       . exact absurd (hbe.trans z) hb
       . rw[hbe];exact z
     rw[q] at q';cases q';obtain⟨v,hv⟩:=heo;exact⟨v,by rw[hbe];exact hv⟩
   . refine (ok b u q).stay (fun c v hc r=>k c v ?_ r) (fun c r=>by rw[zaf (nown c b r)];exact r) fun c xs r=>by rw[zaf (ntup c xs r)];exact r
     rcases hc with rfl | hc
     . exact hbe
     . rintro rfl
       rcases he with z | z
       . exact nown c b hc z
       . rw[hc] at z;cases z;exact hb rfl
end
structure Un(fs ex:List Addr)(H H':Hp)(h h':Heap):Prop where
 keep:∀ b o,h.get? b=some o->H b=none->b ∉ fs->b ∉ ex->h'.get? b=some o
 slot:∀ b o,h.get? b=some o->H b=none->b∈fs->b ∉ ex->∃ sl,h'.get? b=some { o with slots:=sl }
 free:∀ b o,h.get? b=some o->H b=none->b ∉ ex->H' b=none
 there:∀ b o,h.get? b=some o->b ∉ ex->∃ o',h'.get? b=some o'
 tups:∀ b xs,H b=some (.tup xs)->H' b=some (.tup xs)
 frzs:∀ b o u,H b=some (.frz o u)->H' b=some (.frz o u)
 tbls:∀ b ps,H b=some (.tbl ps)->∃ more,H' b=some (.tbl (ps++more))
section
variable {fs fs' ex ex':List Addr} {H H1 H2:Hp} {h h1 h2 h':Heap} {a x e:Addr} {o:HO}
theorem Un.any(u:Un fs ex H H1 h h1){b:Addr}{ob:Obj}(q:h.get? b=some ob)(n:H b=none)(hx:b ∉ ex):∃ sl,h1.get? b=some { ob with slots:=sl }:=by
 by_cases hb:b∈fs
 . exact u.slot b ob q n hb hx
 . exact⟨ob.slots,u.keep b ob q n hb hx⟩
theorem Un.kept(k:∀ b u,h.get? b=some u->h'.get? b=some u):Un fs ex H H h h' :=
 ⟨fun b ob q _ _ _=>k b ob q,fun b ob q _ _ _=>⟨ob.slots,k b ob q⟩,fun _ _ _ n _=>n,fun b ob q _=>⟨ob,k b ob q⟩,fun _ _ q=>q,fun _ _ _ q=>q,fun _ ps q=>⟨#[],by rw[q];simp⟩⟩
theorem Un.refl:Un fs ex H H h h:=Un.kept fun _ _ q=>q
theorem Un.laid(k:∀ b u,h.get? b=some u->h'.get? b=some u)(hp:h.objs.size<=a)(hn:H a=none):Un fs ex H (upd H a o) h h' where
 keep:=fun b u q _ _ _=>k b u q
 slot:=fun b u q _ _ _=>⟨u.slots,k b u q⟩
 free:=fun b u q n _=>by rw[zaf (Ay (Ak (Ae q) hp))];exact n
 there:=fun b u q _=>⟨u,k b u q⟩
 tups:=fun b xs q=>by rw[zaf (zac q hn)];exact q
 frzs:=fun b u xs q=>by rw[zaf (zac q hn)];exact q
 tbls:=fun b ps q=>⟨#[],by rw[zaf (zac q hn),q];simp⟩
theorem Un.write(mu:Mut (H x))(he:e=x\/H e=some (.own x))(k:∀ b u,b≠e->h.get? b=some u->h'.get? b=some u)(heo:∃ u,h'.get? e=some u):Un fs ex H (upd H x o) h h':=by
 have hx:∀ b,H b=none->b≠x:=fun b n z=>by subst z;rw[n] at mu;exact mu
 have hb:∀ b,H b=none->b≠e:=fun b n z=>by
   subst z
   rcases he with r | r
   . exact hx b n r
   . rw[n] at r;cases r
 have hm:∀ b u,H b=some u->¬ Mut (some u)->b≠x:=fun b u q nm z=>by subst z;rw[q] at mu;exact nm mu
 refine⟨fun b u q n _ _=>k b u (hb b n) q,fun b u q n _ _=>⟨u.slots,k b u (hb b n) q⟩,fun b u q n _=>by rw[zaf (hx b n)];exact n,fun b u q _=>?_,
   fun b xs q=>by rw[zaf (hm b _ q fun z=>z)];exact q,fun b u xs q=>by rw[zaf (hm b _ q fun z=>z)];exact q,fun b ps q=>⟨#[],by rw[zaf (hm b _ q fun z=>z),q];simp⟩⟩
 by_cases hbe:b=e
 . subst hbe;exact heo
 . exact⟨u,k b u hbe q⟩
end
noncomputable def trk(h:Heap)(H:Hp):List Addr:=(Bm h.objs.size).filter fun a=>(H a).isSome
noncomputable def hidT(h:Heap)(H:Hp):Heap:=PySem.W.hideAll h (trk h H)
theorem zc7(h:Heap)(H:Hp):(hidT h H).objs.size=h.objs.size:=PySem.W.hideAll_size _ _
theorem zdR{h:Heap}{H:Hp}{b:Addr}{o:Obj}(e:h.get? b=some o)(n:H b=none):(hidT h H).get? b=some o :=
 PySem.W.hideAll_get _ e fun hm=>by
   have q:(H b).isSome=true:=(List.mem_filter.mp hm).2;rw[n] at q;simp at q
theorem zeF{h:Heap}{H:Hp}{b:Addr}{o:Obj}(e:(hidT h H).get? b=some o):h.get? b=some o/\H b=none:=by
 have e':h.get? b=some o:=PySem.W.of_hideAll (trk h H) e;refine⟨e',?_⟩
 cases q:H b with
 | none=>rfl
 | some x =>
   have hm:b∈trk h H:=List.mem_filter.mpr ⟨List.mem_range.mpr (Ae e'),by simp[q]⟩;have z:(hidT h H).get? b=none:=PySem.W.hideAll_none (trk h H) hm;rw[z] at e;cases e
structure Mod(K:Aa)(mg:Str->Option Value)(base:Heap):Prop where
 kin:K.In base
 glob:base.Ns mainGlobals mg
 blt:∃ mb,base.Ns builtinsNs mb/\∀ x:Str,x≠"__name__"->mb x=bootBuiltins x
 nolimit:base.NoLimit
structure Cx where
 prog:Program
 w:World
 K:Aa
 mg:Str->Option Value
 base:Heap
 A:Around
 N:List Str
 s₀:Shared
 H₀:Hp
 env:Env
 outer:List Env
 stack:List Env
 ex:List Addr
 fn:Str->Bool
 calm:Bool
 pn:List (Addr×Obj)
 xe:Value->Shared->Prop
noncomputable def frs(l:List Env):List Addr:=l.filterMap (·.frame)
noncomputable abbrev Cx.fs (X:Cx):List Addr:=frs X.outer
def Vis(sc:Scope)(x:Str):Prop:=sc.names.lookup x=some .local\/sc.names.lookup x=some .cell\/sc.names.lookup x=some .free
def Loc(sc:Scope)(x:Str):Prop:=sc.names.lookup x=some .local\/sc.names.lookup x=some .cell
def Look(env:Env)(h:Heap)(m:Str->Option Value)(x:Str)(u:Value):Prop :=
 (env.kindOf x=some .local/\m x=some u)\/((env.kindOf x=some .cell\/env.kindOf x=some .free)/\∃ c,env.cells.lookup x=some c/\h.IsCell c (some u))
structure Cx.Ok(X:Cx):Prop where
 mod:Mod X.K X.mg X.base
 kind:X.env.scope.kind=.function
 glob:X.env.globals=mainGlobals
 blt:X.env.builtins=builtinsNs
 above:X.s₀.heap.objs.size<=X.env.locals
 inj:∀ x y c,X.env.cells.lookup x=some c->X.env.cells.lookup y=some c->x=y
 has:∀ x,(X.env.kindOf x=some .cell\/X.env.kindOf x=some .free)->∃ c,X.env.cells.lookup x=some c
 cab:∀ x c,X.fn x=true->X.env.cells.lookup x=some c->X.s₀.heap.objs.size<=c
 hd:X.calm=true->X.A.handled=none
 frames:X.A.frames=some X.stack
 stk:X.stack=X.outer\/(X.stack=X.env::X.outer/\X.env.frame=some X.env.locals)
 exf:∀ b∈X.ex,b≠X.env.locals/\∀ x c,X.env.cells.lookup x=some c->c≠b
 bs:∀ b o,X.base.get? b=some o->X.s₀.heap.get? b=some o/\X.H₀ b=none
 bsz:X.base.objs.size<=X.s₀.heap.objs.size
 noex:∀ b o,X.base.get? b=some o->b ∉ X.ex
 exfs:∀ b∈X.ex,b ∉ X.fs
 funs:X.s₀.heap.FunFrames X.base X.outer
 frf:∀ b∈X.fs,X.H₀ b=none
structure Inv(X:Cx)(pins:List (Addr×Obj))(σ:List (Option V))(H:Hp)(s:Shared):Prop where
 ok:X.Ok
 os:s.os=X.s₀.os
 bare:AllBare s.gens
 base:Un X.fs X.ex X.H₀ H X.s₀.heap s.heap
 loc:∃ m,s.heap.Ns X.env.locals m/\∀ (i:Nat) (x:Str) (v:V),X.N[i]?=some x->σ[i]?=some (some v)->Vis X.env.scope x->∃ u,RelV v u/\Look X.env s.heap m x u
 cell:∀ x c,X.env.cells.lookup x=some c->∃ v,s.heap.IsCell c v
 free:H X.env.locals=none
 freeC:∀ x c,X.env.cells.lookup x=some c->H c=none
 pin:∀ p∈X.pn++pins,s.heap.get? p.1=some p.2/\H p.1=none/\p.1≠X.env.locals/\p.1 ∉ X.fs/\∀ v,p.2.data≠.cell v
 hok:HOk X.prog X.w H s.heap
 len:σ.length=X.N.length
section
variable {X:Cx} {pins:List (Addr×Obj)} {σ:List (Option V)} {H H':Hp} {s:Shared} {h':Heap}
theorem Cx.Ok.nofr(ok:X.Ok){b:Addr}{o:Obj}(e:X.base.get? b=some o):b ∉ X.fs:=fun hb=>by
 have:=(ok.funs.mem hb).1;rw[e] at this;cases this
theorem Inv.bs(I:Inv X pins σ H s):∀ b o,X.base.get? b=some o->s.heap.get? b=some o/\H b=none:=fun b o e =>
 ⟨I.base.keep b o (I.ok.bs b o e).1 (I.ok.bs b o e).2 (I.ok.nofr e) (I.ok.noex b o e),I.base.free b o (I.ok.bs b o e).1 (I.ok.bs b o e).2 (I.ok.noex b o e)⟩
theorem Inv.bk(I:Inv X pins σ H s):∀ b o,X.base.get? b=some o->s.heap.get? b=some o:=fun b o e=>(I.bs b o e).1
theorem Inv.mod(I:Inv X pins σ H s):Mod X.K X.mg X.base:=I.ok.mod
theorem Inv.kIn(I:Inv X pins σ H s):X.K.In s.heap:=I.ok.mod.kin.keeps I.bk
theorem Inv.lt(I:Inv X pins σ H s):X.env.locals < s.heap.objs.size:=let ⟨_,hn,_⟩:=I.loc;hn.lt
theorem Inv.sz(I:Inv X pins σ H s):X.s₀.heap.objs.size<=s.heap.objs.size:=AE I.ok.above (BY I.lt)
theorem Inv.nofs(I:Inv X pins σ H s){a:Addr}(h:s.heap.objs.size<=a):a ∉ X.fs:=fun hb=>by
 obtain⟨_,o,ho,_⟩:=I.ok.funs.mem hb;exact absurd (Ak (Ae ho) (AE I.sz h)) (AD _)
theorem Inv.cne(I:Inv X pins σ H s):∀ x c,X.env.cells.lookup x=some c->c≠X.env.locals:=fun x c e z=>by
 obtain⟨v,o,ho,hd⟩:=I.cell x c e;obtain⟨m,⟨o',es,ep,ho',hd',_⟩,_⟩:=I.loc;rw[z,ho'] at ho;cases ho;rw[hd'] at hd;cases hd
theorem Inv.funs(I:Inv X pins σ H s):s.heap.FunFrames X.base X.outer:=by
 have all:∀ (l:List Env),(∀ b∈frs l,b∈X.fs)->X.s₀.heap.FunFrames X.base l->s.heap.FunFrames X.base l:=by
   intro l
   induction l with
   | nil=>intro _ _;trivial
   | cons env r ih =>
     intro hs hl;obtain⟨hk,⟨L,o,hf,hn,ho,hd⟩,hr⟩:=hl;have hL:L∈X.fs:=hs L (by unfold frs;rw[Bd,hf];exact Ap);obtain⟨sl,e⟩:=I.base.slot L o ho (I.ok.frf L hL) hL fun z=>I.ok.exfs L z hL;exact⟨hk,⟨L,_,hf,hn,e,hd⟩,ih (fun b hb=>hs b (by unfold frs;rw[Bd,hf];exact Al _ hb)) hr⟩
 exact all X.outer (fun _ hb=>hb) I.ok.funs
theorem Inv.stack(I:Inv X pins σ H s):s.heap.FunFrames X.base X.stack:=by
 rcases I.ok.stk with e | ⟨e,hf⟩
 . rw[e];exact I.funs
 . rw[e];obtain⟨m,hn,_⟩:=I.loc;refine .cons (by rw[I.ok.kind];decide) hf hn ?_ I.funs;exact Bu (AE I.ok.bsz I.ok.above)
theorem Inv.stkSub(I:Inv X pins σ H s):∀ b∈frs X.stack,b∈X.env.locals::X.fs:=fun b hb=>by
 rcases I.ok.stk with e | ⟨e,hf⟩
 . rw[e] at hb;exact Al _ hb
 . rw[e] at hb;unfold frs at hb;rw[Bd,hf] at hb;exact hb
theorem Inv.stkFree(I:Inv X pins σ H s):∀ b∈frs X.stack,H b=none:=fun b hb=>by
 rcases List.mem_cons.mp (I.stkSub b hb) with e | hb
 . rw[e];exact I.free
 . obtain⟨_,o,ho,_⟩:=I.ok.funs.mem hb;exact I.base.free b o ho (I.ok.frf b hb) fun z=>I.ok.exfs b z hb
theorem Inv.step{g':Array GenState}{t':Nat}{d':Drawn}{ch:List Addr}(I:Inv X pins σ H s)
   (hch:∀ b∈ch,(b∈X.ex\/X.s₀.heap.objs.size<=b)/\b≠X.env.locals/\(∀ x c,X.env.cells.lookup x=some c->c≠b)/\∀ p∈X.pn++pins,p.1≠b)
   (keep:∀ b o,b≠X.env.locals->b ∉ X.fs->b ∉ ch->s.heap.get? b=some o->H b=none->h'.get? b=some o)
   (slot:∀ b o,b≠X.env.locals->b∈X.fs->b ∉ ch->s.heap.get? b=some o->H b=none->∃ sl,h'.get? b=some { o with slots:=sl }) (free:∀ b o,b ∉ ch->s.heap.get? b=some o->H b=none->H' b=none)
   (there:∀ b o,b ∉ ch->s.heap.get? b=some o->∃ o',h'.get? b=some o')
   (tups:∀ b xs,H b=some (.tup xs)->H' b=some (.tup xs)) (frzs:∀ b o u,H b=some (.frz o u)->H' b=some (.frz o u)) (tbls:∀ b ps,H b=some (.tbl ps)->∃ more,H' b=some (.tbl (ps++more)))
   (ns:∀ m,s.heap.Ns X.env.locals m->h'.Ns X.env.locals m) (hok:HOk X.prog X.w H' h') (hg:AllBare g') :
   Inv X pins σ H' { s with heap:=h',gens:=g',drawn:=d',toks:=t' }:=by
 have neL:∀ b o,X.s₀.heap.get? b=some o->b≠X.env.locals:=fun b o e=>Ay (Ak (Ae e) I.ok.above);have neC:∀ b o,X.s₀.heap.get? b=some o->b ∉ X.ex->b ∉ ch:=fun b o e hx hb=>by
   rcases (hch b hb).1 with z | z
   . exact hx z
   . exact absurd (Ak (Ae e) z) (AD _)
 have cellK:∀ x c,X.env.cells.lookup x=some c->∀ v,s.heap.IsCell c v->h'.IsCell c v:=by
   rintro x c e v ⟨o,ho,hd⟩;have nch:c ∉ ch:=fun z=>(hch c z).2.2.1 x c e rfl
   by_cases hc:c∈X.fs
   . obtain⟨sl,q⟩:=slot c o (I.cne x c e) hc nch ho (I.freeC x c e);exact⟨_,q,hd⟩
   . exact⟨o,keep c o (I.cne x c e) hc nch ho (I.freeC x c e),hd⟩
 refine⟨I.ok,I.os,hg,⟨fun b o e n hb hx=>?_,fun b o e n hb hx=>?_,fun b o e n hx=>?_,fun b o e hx=>?_,fun b xs e=>tups b xs (I.base.tups b xs e),fun b o xs e=>frzs b o xs (I.base.frzs b o xs e),fun b ps e=>?_⟩,?_,fun x c e=>?_,?_,fun x c e=>?_,fun p hp=>?_,hok,I.len⟩
 . exact keep b o (neL b o e) hb (neC b o e hx) (I.base.keep b o e n hb hx) (I.base.free b o e n hx)
 . obtain⟨sl,e1⟩:=I.base.slot b o e n hb hx;obtain⟨sl',e2⟩:=slot b _ (neL b o e) hb (neC b o e hx) e1 (I.base.free b o e n hx);exact⟨sl',e2⟩
 . obtain⟨o',e1⟩:=I.base.there b o e hx;exact free b o' (neC b o e hx) e1 (I.base.free b o e n hx)
 . obtain⟨o',e1⟩:=I.base.there b o e hx;exact there b o' (neC b o e hx) e1
 . obtain⟨m1,e1⟩:=I.base.tbls b ps e;obtain⟨m2,e2⟩:=tbls b _ e1;exact⟨m1++m2,by rw[e2,Array.append_assoc]⟩
 . obtain⟨m,hn,hl⟩:=I.loc;refine⟨m,ns m hn,fun i x v e1 e2 e3=>?_⟩;obtain⟨u,r,l⟩:=hl i x v e1 e2 e3;refine⟨u,r,?_⟩
   rcases l with l | ⟨k,c,e,z⟩
   . exact .inl l
   . exact .inr ⟨k,c,e,cellK x c e _ z⟩
 . obtain⟨v,z⟩:=I.cell x c e;exact⟨v,cellK x c e v z⟩
 . obtain⟨m,⟨o,_,_,ho,_⟩,_⟩:=I.loc;exact free _ o (fun z=>(hch _ z).2.1 rfl) ho I.free
 . obtain⟨v,o,ho,hd⟩:=I.cell x c e;exact free c o (fun z=>(hch c z).2.2.1 x c e rfl) ho (I.freeC x c e)
 . obtain⟨e,n,ne,nf,d⟩:=I.pin p hp;have nch:p.1 ∉ ch:=fun z=>(hch p.1 z).2.2.2 p hp rfl;exact⟨keep p.1 p.2 ne nf nch e n,free p.1 p.2 nch e n,ne,nf,d⟩
theorem Inv.un{t':Nat}(I:Inv X pins σ H s)(u:Un X.fs [] H H' s.heap h')(hok:HOk X.prog X.w H' h'):Inv X pins σ H' { s with heap:=h',toks:=t' }:=by
 obtain⟨m,⟨o,es,ep,ho,r⟩,_⟩:=id I.loc;obtain⟨sl,hL⟩:=u.any ho I.free (by simp);exact I.step (g':=s.gens) (d':=s.drawn) (ch:=[]) (fun _ z=>nomatch z) (fun b o _ hb _ e n=>u.keep b o e n hb (by simp)) (fun b o _ hb _ e n=>u.slot b o e n hb (by simp)) (fun b o _ e n=>u.free b o e n (by simp)) (fun b o _ e=>u.there b o e (by simp)) u.tups u.frzs u.tbls (fun m' hm=>by
   obtain⟨o',es',ep',ho',r'⟩:=hm;rw[ho] at ho';cases ho';exact⟨_,es',ep',hL,r'⟩) hok I.bare
theorem Inv.call{g':Array GenState}{t':Nat}{d':Drawn}{ch:List Addr}(I:Inv X pins σ H s)(u:Un (frs X.stack) ch H H' s.heap h')(hok:HOk X.prog X.w H' h')(hg:AllBare g')
   (hch:∀ b∈ch,(b∈X.ex\/X.s₀.heap.objs.size<=b)/\b≠X.env.locals/\(∀ x c,X.env.cells.lookup x=some c->c≠b)/\∀ p∈X.pn++pins,p.1≠b) :
   Inv X pins σ H' { s with heap:=h',gens:=g',drawn:=d',toks:=t' }:=by
 obtain⟨m,⟨o,es,ep,ho,r⟩,_⟩:=id I.loc;obtain⟨sl,hL⟩:=u.any ho I.free fun z=>(hch _ z).2.1 rfl;exact I.step (ch:=ch) hch (fun b o hL hb hc e n=>u.keep b o e n (fun z=>(List.mem_cons.mp (I.stkSub b z)).elim hL hb) hc) (fun b o _ _ hc e n=>u.any e n hc) (fun b o hc e n=>u.free b o e n hc) (fun b o hc e=>u.there b o e hc) u.tups u.frzs u.tbls (fun m' hm=>by
   obtain⟨o',es',ep',ho',r'⟩:=hm;rw[ho] at ho';cases ho';exact⟨_,es',ep',hL,r'⟩) hok hg
theorem Inv.turned{t':Nat}{it:Addr}(I:Inv X pins σ H s)(k:∀ b o,b≠it->s.heap.get? b=some o->h'.get? b=some o)(hn:H it=none)(hL:it≠X.env.locals)
   (h1:it∈X.ex\/X.s₀.heap.objs.size<=it) (h2:∀ x c,X.env.cells.lookup x=some c->c≠it) (h3:∀ p∈X.pn++pins,p.1≠it):Inv X pins σ H { s with heap:=h',toks:=t' }:=by
 have nit:∀ b u,H b=some u->b≠it:=fun b u e z=>by rw[z,hn] at e;cases e
 refine I.step (g':=s.gens) (d':=s.drawn) (ch:=[it]) (fun b hb=>?_) (fun b o _ _ hc e _=>k b o (fun z=>hc (by simp[z])) e) (fun b o _ _ hc e _=>⟨o.slots,k b o (fun z=>hc (by simp[z])) e⟩) (fun _ _ _ _ n=>n)
   (fun b o hc e=>⟨o,k b o (fun z=>hc (by simp[z])) e⟩) (fun _ _ e=>e) (fun _ _ _ e=>e) (fun b ps e=>⟨#[],by rw[e];simp⟩) (fun m hm=>?_) (fun b u e=>?_) I.bare
 . have e:b=it:=by simpa using hb
   subst e;exact⟨h1,hL,h2,h3⟩
 . obtain⟨o,es,ep,ho,r⟩:=hm;exact⟨o,es,ep,k _ o (BD hL) ho,r⟩
 . refine (I.hok b u e).stay (fun c v hc q=>k c v ?_ q) (fun _ q=>q) fun _ _ q=>q
   rcases hc with z | z
   . rw[z];exact nit b u e
   . exact nit c _ z
theorem Inv.tok(I:Inv X pins σ H s)(t:Nat):Inv X pins σ H { s with toks:=t }:=I.un (h':=s.heap) (t':=t) Un.refl I.hok
theorem Inv.kept{t':Nat}(I:Inv X pins σ H s)(k:∀ b u,s.heap.get? b=some u->h'.get? b=some u):Inv X pins σ H { s with heap:=h',toks:=t' }:=I.un (Un.kept k) (I.hok.kept k)
theorem Inv.laid{a:Addr}{o:HO}{t':Nat}(I:Inv X pins σ H s)(k:∀ b u,s.heap.get? b=some u->h'.get? b=some u)(hp:s.heap.objs.size<=a)(new:zaV X.prog X.w (upd H a o) h' a o) :
   Inv X pins σ (upd H a o) { s with heap:=h',toks:=t' }:=I.un (Un.laid k hp (I.hok.fresh hp)) (I.hok.laid k hp new)
theorem Inv.write{x e:Addr}{o:HO}{t':Nat}(I:Inv X pins σ H s)(mu:Mut (H x))(he:e=x\/H e=some (.own x))(k:∀ b u,b≠e->s.heap.get? b=some u->h'.get? b=some u)(heo:∃ u,h'.get? e=some u)
   (new:zaV X.prog X.w (upd H x o) h' x o):Inv X pins σ (upd H x o) { s with heap:=h',toks:=t' }:=I.un (Un.write mu he k heo) (I.hok.write mu he k heo new)
theorem Inv.pins_of{pins':List (Addr×Obj)}(I:Inv X pins σ H s)(h:∀ p∈pins',s.heap.get? p.1=some p.2/\H p.1=none/\p.1≠X.env.locals/\p.1 ∉ X.fs/\∀ v,p.2.data≠.cell v):Inv X pins' σ H s :=
 ⟨I.ok,I.os,I.bare,I.base,I.loc,I.cell,I.free,I.freeC,fun p hp=>(List.mem_append.mp hp).elim (fun z=>I.pin p (A9 _ z)) (h p),I.hok,I.len⟩
theorem zcb{N:List Str}(hN:N.Nodup){i j:Nat}{x:Str}(a:N[i]?=some x)(b:N[j]?=some x):i=j:=by
 obtain⟨h1,e1⟩:=List.getElem?_eq_some_iff.mp a;obtain⟨h2,e2⟩:=List.getElem?_eq_some_iff.mp b;exact (List.getElem_inj hN).mp (e1.trans e2.symm)
theorem zcH{M:Model}{A:Around}{E:Value->Shared->Prop}{i:Nat}{x:Str}{v:V}{u:Value}{Q:Unit->Shared->Prop}(I:Inv X pins σ H s)(hN:X.N.Nodup)(hi:X.N[i]?=some x)(hx:Loc X.env.scope x)(r:RelV v u)
   (h:∀ s',Inv X pins (σ.set i (some v)) H s'->(∃ a,Bv a s.heap s'.heap/\(a=X.env.locals\/X.env.cells.lookup x=some a))->Q () s') (hf:X.fn x=true\/X.env.scope.names.lookup x=some .local:=by first | exact .inl rfl | exact .inr rfl | assumption):wpAny M A (storeName X.env x u) Q E s:=by
 obtain⟨m,hn,hl⟩:=id I.loc;have hcls:(X.env.scope.kind==.class || (X.env.scope.kind==.module&&X.env.locals != X.env.globals))=false:=by rw[I.ok.kind];rfl
 have hiσ:i < σ.length:=by rw[I.len];exact (List.getElem?_eq_some_iff.mp hi).1
 have cne:=I.cne;have tracked:∀ {a:Addr} {h':Heap},(∃ o,s.heap.get? a=some o/\H a=none)->Bv a s.heap h'->HOk X.prog X.w H h':=fun {a h'} ha hs b ob e=>by
   obtain⟨_,_,hfree⟩:=ha;refine (I.hok b ob e).stay (fun c w' hc q=>(hs.2 c ?_).trans q) (fun _ q=>q) fun _ _ q=>q;rintro rfl
   rcases hc with rfl | hc
   . rw[hfree] at e;cases e
   . rw[hfree] at hc;cases hc
 rcases hx with hk | hk
 . refine wpAny_storeName_local hk hn (fun h' hn' hs=>?_) hcls;obtain⟨oL,_,_,hoL,_⟩:=id hn;refine h _ ⟨I.ok,I.os,I.bare,⟨fun b o e n hb hx=>?_,fun b o e n hb hx=>?_,I.base.free,fun b o e hx=>?_,I.base.tups,I.base.frzs,I.base.tbls⟩,⟨_,hn',fun j y v' e1 e2 e3=>?_⟩,fun y c e=>?_,I.free,I.freeC,fun p hp=>?_,tracked ⟨oL,hoL,I.free⟩ hs,by simpa using I.len⟩ ⟨_,hs,.inl rfl⟩
   . exact (hs.2 b (Ay (Ak (Ae e) I.ok.above))).trans (I.base.keep b o e n hb hx)
   . obtain⟨sl,e1⟩:=I.base.slot b o e n hb hx;exact⟨sl,(hs.2 b (Ay (Ak (Ae e) I.ok.above))).trans e1⟩
   . obtain⟨o',e1⟩:=I.base.there b o e hx;exact⟨o',(hs.2 b (Ay (Ak (Ae e) I.ok.above))).trans e1⟩
   . by_cases hj:j=i
     . subst hj;rw[hi] at e1;cases e1;rw[Cf hiσ] at e2;cases e2;exact⟨u,r,.inl ⟨hk,by simp⟩⟩
     . rw[Ba (BD hj)] at e2;obtain⟨u',r',q⟩:=hl j y v' e1 e2 e3;refine⟨u',r',?_⟩
       rcases q with ⟨k,e⟩ | ⟨k,c,e,z⟩
       . refine .inl ⟨k,?_⟩;have:y≠x:=fun e=>hj (zcb hN e1 (e ▸ hi));simp[this,e]
       . exact .inr ⟨k,c,e,z.sameBut hs (cne y c e)⟩
   . obtain⟨w',z⟩:=I.cell y c e;exact⟨w',z.sameBut hs (cne y c e)⟩
   . obtain⟨e,n,ne,nf,d⟩:=I.pin p hp;exact⟨(hs.2 p.1 ne).trans e,n,ne,nf,d⟩
 . have hfn:X.fn x=true:=by
     rcases hf with z | z
     . exact z
     . rw[z] at hk;cases hk
   obtain⟨c,hc⟩:=I.ok.has x (.inl hk);obtain⟨w',z⟩:=I.cell x c hc;refine wpAny_storeName_cell I.ok.kind hk hc z (fun h' hc' hs=>?_);obtain⟨oc,hoc,hocd⟩:=id z;refine h { s with heap:=h' } ⟨I.ok,I.os,I.bare,⟨fun b o e n hb hx=>?_,fun b o e n hb hx=>?_,I.base.free,fun b o e hx=>?_,I.base.tups,I.base.frzs,I.base.tbls⟩,⟨m,hn.sameBut hs (BD (cne x c hc)),fun j y v' e1 e2 e3=>?_⟩,fun y c' e=>?_,I.free,I.freeC,fun p hp=>?_,tracked ⟨oc,hoc,I.freeC x c hc⟩ hs,by simpa using I.len⟩ ⟨c,hs,.inr hc⟩
   . exact (hs.2 b (Ay (Ak (Ae e) (I.ok.cab x c hfn hc)))).trans (I.base.keep b o e n hb hx)
   . obtain⟨sl,e1⟩:=I.base.slot b o e n hb hx;exact⟨sl,(hs.2 b (Ay (Ak (Ae e) (I.ok.cab x c hfn hc)))).trans e1⟩
   . obtain⟨o',e1⟩:=I.base.there b o e hx;exact⟨o',(hs.2 b (Ay (Ak (Ae e) (I.ok.cab x c hfn hc)))).trans e1⟩
   . by_cases hj:j=i
     . subst hj;rw[hi] at e1;cases e1;rw[Cf hiσ] at e2;cases e2;exact⟨u,r,.inr ⟨.inl hk,c,hc,hc'⟩⟩
     . rw[Ba (BD hj)] at e2;obtain⟨u',r',q⟩:=hl j y v' e1 e2 e3;refine⟨u',r',?_⟩
       rcases q with q | ⟨k,c',e,z'⟩
       . exact .inl q
       . refine .inr ⟨k,c',e,z'.sameBut hs ?_⟩;rintro rfl;exact hj (zcb hN e1 (I.ok.inj _ _ _ e hc ▸ hi))
   . by_cases hcc:c'=c
     . subst hcc;exact⟨_,hc'⟩
     . obtain⟨w2,z2⟩:=I.cell y c' e;exact⟨w2,z2.sameBut hs hcc⟩
   . obtain⟨e,n,ne,nf,d⟩:=I.pin p hp;refine⟨(hs.2 p.1 ?_).trans e,n,ne,nf,d⟩;intro q;rw[q,hoc] at e;have q':oc=p.2:=Ai e;exact d w' (by rw[<-q'];exact hocd)
theorem zbW{M:Model}{A:Around}{E:Value->Shared->Prop}{i:Nat}{x:Str}{v:V}{u:Value}{Q:Unit->Shared->Prop}(I:Inv X pins σ H s)(hN:X.N.Nodup)(hi:X.N[i]?=some x)(hx:Loc X.env.scope x)(r:RelV v u)
   (h:∀ s',Inv X pins (σ.set i (some v)) H s'->Q () s') (hf:X.fn x=true\/X.env.scope.names.lookup x=some .local:=by first | exact .inl rfl | exact .inr rfl | assumption):wpAny M A (storeName X.env x u) Q E s :=
 zcH I hN hi hx r (fun s' I' _=>h s' I') hf
theorem Inv.call'{s':Shared}{ch:List Addr}(I:Inv X pins σ H s)(ho:s'.os=s.os)(u:Un (frs X.stack) ch H H' s.heap s'.heap)(hok:HOk X.prog X.w H' s'.heap)(hg:AllBare s'.gens)
   (hch:∀ b∈ch,(b∈X.ex\/X.s₀.heap.objs.size<=b)/\b≠X.env.locals/\(∀ x c,X.env.cells.lookup x=some c->c≠b)/\∀ p∈X.pn++pins,p.1≠b):Inv X pins σ H' s':=by
 obtain⟨h',g',d',t',o'⟩:=s';have e:o'=s.os:=ho;subst e;exact I.call (g':=g') (t':=t') (d':=d') u hok hg hch
end
noncomputable abbrev XK:=Value->Option Addr->Hp->Prop
noncomputable abbrev St:=List (Option V)
noncomputable abbrev VK:=V->Hp->Prop
noncomputable abbrev TE:=St->Hp->VK->Prop
noncomputable abbrev TT:=St->Hp->(Bool->Hp->Prop)->Prop
noncomputable abbrev TA:=St->Hp->(List V->Hp->Prop)->Prop
structure Ends where
 nx:St->Hp->Prop
 rt:VK
 bk:St->Hp->Prop:=fun _ _=>False
 ct:St->Hp->Prop:=fun _ _=>False
noncomputable abbrev TS:=Ends->St->Hp->Prop
def EP(X:Cx)(pins:List (Addr×Obj))(σ:St)(Q:VK)(u:Value)(s':Shared):Prop:=∃ v H',Inv X pins σ H' s'/\RelV v u/\Q v H'
def TP(X:Cx)(pins:List (Addr×Obj))(σ:St)(Q:Bool->Hp->Prop)(b:Bool)(s':Shared):Prop:=∃ H',Inv X pins σ H' s'/\Q b H'
def AP(X:Cx)(pins:List (Addr×Obj))(σ:St)(Q:List V->Hp->Prop)(us:List Value)(s':Shared):Prop:=∃ vs H',Inv X pins σ H' s'/\Vals vs us/\Q vs H'
def SP(X:Cx)(pins:List (Addr×Obj))(D:Ends)(f:Flow)(s':Shared):Prop :=
 match f with
 | .next=>∃ σ' H',Inv X pins σ' H' s'/\D.nx σ' H'
 | .brk=>∃ σ' H',Inv X pins σ' H' s'/\D.bk σ' H'
 | .cont=>∃ σ' H',Inv X pins σ' H' s'/\D.ct σ' H'
 | .ret u=>∃ v σ' H',Inv X pins σ' H' s'/\RelV v u/\D.rt v H'
def PE(X:Cx)(e:Expr)(t:TE):Prop :=
 ∀ (pins:List (Addr×Obj)) (s:Shared) (σ:St) (H:Hp) (Q:VK),Inv X pins σ H s->t σ H Q->wpAny (model X.prog X.w) X.A (eval e X.env) (EP X pins σ Q) X.xe s
def PT(X:Cx)(e:Expr)(t:TT):Prop :=
 ∀ (pins:List (Addr×Obj)) (s:Shared) (σ:St) (H:Hp) (Q:Bool->Hp->Prop),Inv X pins σ H s->t σ H Q->wpAny (model X.prog X.w) X.A (isTrue e X.env (eval e X.env)) (TP X pins σ Q) X.xe s
def PW(X:Cx)(e:Expr)(t:TT):Prop :=
 ∀ (whole:Sem Value) (pins:List (Addr×Obj)) (s:Shared) (σ:St) (H:Hp) (Q:Bool->Hp->Prop),Inv X pins σ H s->t σ H Q->wpAny (model X.prog X.w) X.A (isTrue e X.env whole) (TP X pins σ Q) X.xe s
theorem PW.pt{X:Cx}{e:Expr}{t:TT}(h:PW X e t):PT X e t:=h _
def PA(X:Cx)(es:List Expr)(t:TA):Prop :=
 ∀ (pos:Pos) (pins:List (Addr×Obj)) (s:Shared) (σ:St) (H:Hp) (Q:List V->Hp->Prop),Inv X pins σ H s->t σ H Q->wpAny (model X.prog X.w) X.A (spliced (backTo pos (starEach es X.env))) (AP X pins σ Q) X.xe s
def PS(X:Cx)(st:Stmt)(t:TS):Prop :=
 ∀ (pins:List (Addr×Obj)) (s:Shared) (σ:St) (H:Hp) (D:Ends),Inv X pins σ H s->t D σ H->wpAny (model X.prog X.w) X.A (exec st X.env) (SP X pins D) X.xe s
def PSs(X:Cx)(st:List Stmt)(t:TS):Prop :=
 ∀ (pins:List (Addr×Obj)) (s:Shared) (σ:St) (H:Hp) (D:Ends),Inv X pins σ H s->t D σ H->wpAny (model X.prog X.w) X.A (execs st X.env) (SP X pins D) X.xe s
theorem thn{α:Type}{t:Sem α}{Q Q':α->Shared->Prop}{M:Model}{A:Around}{E:Value->Shared->Prop}{s:Shared}(h:wpAny M A t Q E s)(hQ:∀ a s,Q a s->Q' a s):wpAny M A t Q' E s:=AH h hQ fun _ _ x=>x
section
variable {X:Cx}
noncomputable def tVar(i:Nat):TE:=fun σ H Q=>∃ v,σ[i]?=some (some v)/\Q v H
noncomputable def tC(v:V):TE:=fun _ H Q=>Q v H
theorem zew{i:Nat}{x:Str}{pos:Pos}(hN:X.N[i]?=some x)(hv:Vis X.env.scope x)(hd:(x==("__debug__":Str))=false:=by decide)(hcd:(x==("__classdict__":Str))=false:=by decide):PE X (.Name x pos) (tVar i):=by
 intro pins s σ H Q I h;obtain⟨v,e,h⟩:=h;obtain⟨m,hn,hl⟩:=I.loc;obtain⟨u,r,l⟩:=hl i x v hN e hv;have fin:EP X pins σ Q u s:=⟨v,H,I,r,h⟩
 rcases l with ⟨hk,hm⟩ | ⟨hk,c,hc,hcell⟩
 . exact CZ (wpAny_loadName_local I.ok.kind hk hn hm fin) hd
 . rcases hk with hk | hk
   . exact CZ (wpAny_loadName_cell I.ok.kind hk hc hcell fin) hd
   . exact CZ (wpAny_loadName_free I.ok.kind hk hc hcell fin hcd) hd
theorem zfy{i j pos}:PE X (.Constant (.int i) j pos) (tC (.int i)):=fun _ _ _ H _ I h=>wpAny_Constant_int ⟨.int i,H,I.tok _,⟨_,rfl⟩,h⟩
theorem zgB{b j pos}:PE X (.Constant (.bool b) j pos) (tC (.bl b)):=fun _ _ _ H _ I h=>Constant_bool ⟨.bl b,H,I,rfl,h⟩
def Gl(X:Cx)(x:Str):Prop:=X.env.kindOf x=some .globalImplicit
theorem zbv{E:Value->Shared->Prop}{pins:List (Addr×Obj)}{s:Shared}{σ:St}{H:Hp}{x:Str}{u:Value}{pos:Pos}{Q:Value->Shared->Prop}(I:Inv X pins σ H s)(hg:Gl X x)(hm:X.mg x=some u)(h:Q u s)
   (hd:(x==("__debug__":Str))=false:=by decide):wpAny (model X.prog X.w) X.A (eval (.Name x pos) X.env) Q E s :=
 BK I.ok.kind hg (Calls.loadGlobal_global (by rw[I.ok.glob];exact I.mod.glob.keeps I.bk) hm h) hd
theorem zcl{E:Value->Shared->Prop}{pins:List (Addr×Obj)}{s:Shared}{σ:St}{H:Hp}{x:Str}{u:Value}{pos:Pos}{Q:Value->Shared->Prop}(I:Inv X pins σ H s)(hg:Gl X x)(hm:X.mg x=none)(hv:bootBuiltins x=some u)(h:Q u s)
   (hn:x≠"__name__":=by decide) (hd:(x==("__debug__":Str))=false:=by decide):wpAny (model X.prog X.w) X.A (eval (.Name x pos) X.env) Q E s:=by
 obtain⟨mb,h1,h2⟩:=I.mod.blt;exact BK I.ok.kind hg (Calls.loadGlobal_builtin (by rw[I.ok.glob];exact I.mod.glob.keeps I.bk) hm (by rw[I.ok.blt];exact h1.keeps I.bk) ((h2 x hn).trans hv) h) hd
theorem zex{x:Str}{v:V}{u:Value}{pos:Pos}(hg:Gl X x)(hm:X.mg x=some u)(r:RelV v u)(hd:(x==("__debug__":Str))=false:=by decide):PE X (.Name x pos) (tC v) :=
 fun _ _ _ H _ I h=>zbv I hg hm ⟨v,H,I,r,h⟩ hd
theorem zeA{x:Str}{v:V}{u:Value}{pos:Pos}(hg:Gl X x)(hm:X.mg x=none)(hv:bootBuiltins x=some u)(r:RelV v u)(hn:x≠"__name__":=by decide)(hd:(x==("__debug__":Str))=false:=by decide):PE X (.Name x pos) (tC v) :=
 fun _ _ _ H _ I h=>zcl I hg hm hv ⟨v,H,I,r,h⟩ hn hd
variable {a b:Expr} {ta tb:TE} {pos:Pos}
variable {tA tB':TT} {rest:List Expr}
noncomputable def tOr(t u:TT):TT:=fun σ H Q=>t σ H fun c H1=>if c=true then Q true H1 else u σ H1 Q
noncomputable def tNot(t:TT):TT:=fun σ H Q=>t σ H fun c H1=>Q (!c) H1
theorem pw_or1(ha:PT X a tA):PW X (.BoolOp .Or [a] pos) tA:=by
 intro wh pins s σ H Q I h;refine isTrue_or (thn (ha pins s σ H Q I h) fun c s1 e=>?_)
 cases c with
 | false=>exact isTrue_or_nil e
 | true=>exact e
theorem pw_or(ha:PT X a tA)(hb:PW X (.BoolOp .Or (b::rest) pos) tB'):PW X (.BoolOp .Or (a::b::rest) pos) (tOr tA tB'):=by
 intro wh pins s σ H Q I h;refine isTrue_or (thn (ha pins s σ H _ I h) ?_);rintro c s1 ⟨H1,I1,q1⟩
 cases c with
 | true=>exact⟨H1,I1,q1⟩
 | false=>exact hb wh pins s1 σ H1 Q I1 q1
theorem zfr(ha:PT X a tA):PT X (.UnaryOp .Not a pos) (tNot tA):=by
 intro pins s σ H Q I h;exact isTrue_not (ha pins s σ H (fun c H1=>Q (!c) H1) I h)
end
def SqL(K:Aa)(H:Hp)(a:Addr)(xs:List V):Prop :=
 Rd H a (.lst xs) \/
   ∃ (o:Obj) (its:Array Value) (n:Nat),K.lookup a=some o/\o.cls=.type "list"/\o.dict=none/\o.data=.seq its n/\its.size<=sizeLine/\Vals xs its.toList
def SqT(K:Aa)(H:Hp)(a:Addr)(xs:List V):Prop :=
 Rd H a (.tup xs) \/
   ∃ (o:Obj) (its:Array Value) (n:Nat),K.lookup a=some o/\o.cls=.type "tuple"/\o.data=.seq its n/\its.size<=sizeLine/\Vals xs its.toList
section
variable {X:Cx} {pins:List (Addr×Obj)} {σ:St} {H:Hp} {s:Shared} {a:Addr} {xs ys:List V}
theorem SqL.of{K:Aa}(h:H a=some (.lst xs)):SqL K H a xs:=.inl (.inl h)
theorem SqT.of{K:Aa}(h:H a=some (.tup xs)):SqT K H a xs:=.inl (.inl h)
theorem Inv.list(I:Inv X pins σ H s)(h:SqL X.K H a xs):∃ its:List Value,Vals xs its/\PlainL s.heap a its.toArray/\xs.length<=sizeLine:=by
 rcases h with h | ⟨o,its,n,hk,hc,hd,hs,hz,r⟩
 . obtain⟨z,its,n,r,e⟩:=h.ok I.hok;exact⟨its,r,⟨_,n,e,rfl,rfl,rfl⟩,z⟩
 . refine⟨its.toList,r,⟨o,n,I.kIn a o hk,hc,hd,by simpa using hs⟩,?_⟩;have e:=r.length;simp only[AJ] at e;omega
theorem Inv.tuple(I:Inv X pins σ H s)(h:SqT X.K H a xs):∃ its:List Value,Vals xs its/\IsTup s.heap a its.toArray/\xs.length<=sizeLine:=by
 rcases h with h | ⟨o,its,n,hk,hc,hs,hz,r⟩
 . obtain⟨z,its,r,p⟩:=h.ok I.hok;exact⟨its,r,p.t,z⟩
 . refine⟨its.toList,r,⟨o,I.kIn a o hk,hc,n,by simpa using hs⟩,?_⟩;have e:=r.length;simp only[AJ] at e;omega
end
noncomputable abbrev Cx.wish (X:Cx) (E:Value->Shared->Prop):Cx:={ X with xe:=E }
noncomputable abbrev Cx.nox (X:Cx):Cx:=X.wish fun _ _=>False
theorem Cx.Ok.wish{X:Cx}(ok:X.Ok)(E:Value->Shared->Prop):(X.wish E).Ok :=
 ⟨ok.mod,ok.kind,ok.glob,ok.blt,ok.above,ok.inj,ok.has,ok.cab,ok.hd,ok.frames,ok.stk,ok.exf,ok.bs,ok.bsz,ok.noex,ok.exfs,ok.funs,ok.frf⟩
theorem Cx.Ok.unwish{X:Cx}{E:Value->Shared->Prop}(ok:(X.wish E).Ok):X.Ok :=
 ⟨ok.mod,ok.kind,ok.glob,ok.blt,ok.above,ok.inj,ok.has,ok.cab,ok.hd,ok.frames,ok.stk,ok.exf,ok.bs,ok.bsz,ok.noex,ok.exfs,ok.funs,ok.frf⟩
section
variable {X:Cx} {pins:List (Addr×Obj)} {σ:St} {H:Hp} {s:Shared} {E:Value->Shared->Prop}
theorem Inv.wish(I:Inv X pins σ H s)(E:Value->Shared->Prop):Inv (X.wish E) pins σ H s:=⟨I.ok.wish E,I.os,I.bare,I.base,I.loc,I.cell,I.free,I.freeC,I.pin,I.hok,I.len⟩
theorem Inv.unwish(I:Inv (X.wish E) pins σ H s):Inv X pins σ H s:=⟨I.ok.unwish,I.os,I.bare,I.base,I.loc,I.cell,I.free,I.freeC,I.pin,I.hok,I.len⟩
theorem SP.unwish{D:Ends}{f:Flow}{s':Shared}(h:SP (X.wish E) pins D f s'):SP X pins D f s':=by
 cases f with
 | next=>obtain⟨σ',H',I,q⟩:=h;exact⟨σ',H',I.unwish,q⟩
 | brk=>obtain⟨σ',H',I,q⟩:=h;exact⟨σ',H',I.unwish,q⟩
 | cont=>obtain⟨σ',H',I,q⟩:=h;exact⟨σ',H',I.unwish,q⟩
 | ret u=>obtain⟨v,σ',H',I,r,q⟩:=h;exact⟨v,σ',H',I.unwish,r,q⟩
theorem PSs.nox{st:List Stmt}{t:TS}(h:PSs X.nox st t):PSs X st t:=fun pins s σ H D I hw =>
 AH (h pins s σ H D (I.wish _) hw) (fun _ _ q=>q.unwish) fun _ _ z=>False.elim z
end
section
variable {X:Cx} {st:Stmt} {rest:List Stmt} {t u:TS} {e:Expr} {te:TE} {pos:Pos}
noncomputable def zgq:TS:=fun D σ H=>D.nx σ H
noncomputable def tSeq(t u:TS):TS:=fun D σ H=>t { D with nx:=u D } σ H
theorem zes:PSs X [] zgq:=fun _ _ σ H _ I h=>Ca ⟨σ,H,I,h⟩
theorem zdE(h1:PS X st t)(h2:PSs X rest u):PSs X (st::rest) (tSeq t u):=by
 intro pins s σ H D I h;refine wpAny_execs_cons (thn (h1 pins s σ H { D with nx:=u D } I h) fun f s1 q=>?_)
 cases f with
 | next =>
   obtain⟨σ',H',I',q⟩:=q;exact h2 pins s1 σ' H' D I' q
 | ret v=>exact q
 | brk=>exact q
 | cont=>exact q
theorem zdm(h1:PS X st t):PSs X [st] t:=by
 intro pins s σ H D I h;refine wpAny_execs_cons (thn (h1 pins s σ H D I h) fun f s1 q=>?_)
 cases f with
 | next=>exact Ca q
 | ret v=>exact q
 | brk=>exact q
 | cont=>exact q
noncomputable def tRet(te:TE):TS:=fun D σ H=>te σ H D.rt
theorem zft(he:PE X e te):PS X (.Return (some e) pos) (tRet te):=by
 intro pins s σ H D I h;exact wpAny_Return_some (thn (he pins s σ H _ I h) fun v s1 ⟨x,H1,I1,r1,q1⟩=>⟨x,σ,H1,I1,r1,q1⟩)
noncomputable def tIfS(c:TT)(t u:TS):TS:=fun D σ H=>c σ H fun b H1=>if b=true then t D σ H1 else u D σ H1
theorem zgy{c:Expr}{a b:List Stmt}{tc:TT}(hc:PT X c tc)(ha:PSs X a t)(hb:PSs X b u):PS X (.If c a b pos) (tIfS tc t u):=by
 intro pins s σ H D I h;refine wpAny_If (thn (hc pins s σ H _ I h) ?_);rintro d s1 ⟨H1,I1,q1⟩
 cases d with
 | true=>exact ha pins s1 σ H1 D I1 q1
 | false=>exact hb pins s1 σ H1 D I1 q1
end
noncomputable abbrev TG:=V->St->Hp->(St->Hp->Prop)->Prop
noncomputable abbrev TGs:=List V->St->Hp->(St->Hp->Prop)->Prop
def PG(X:Cx)(target:Expr)(t:TG):Prop :=
 ∀ (pins:List (Addr×Obj)) (s:Shared) (σ:St) (H:Hp) (v:V) (u:Value) (Q:St->Hp->Prop),Inv X pins σ H s->RelV v u->t v σ H Q ->
   wpAny (model X.prog X.w) X.A (assign target X.env u) (fun _ s'=>∃ σ' H',Inv X pins σ' H' s'/\Q σ' H') X.xe s
def PGs(X:Cx)(ts:List Expr)(t:TGs):Prop :=
 ∀ (pins:List (Addr×Obj)) (s:Shared) (σ:St) (H:Hp) (vs:List V) (us:List Value) (Q:St->Hp->Prop),Inv X pins σ H s->Vals vs us->t vs σ H Q ->
   wpAny (model X.prog X.w) X.A (assignInOrder ((assignEach ts X.env).map (·.2)) us) (fun _ s'=>∃ σ' H',Inv X pins σ' H' s'/\Q σ' H') X.xe s
section
variable {X:Cx} {pos:Pos}
noncomputable def zgg(i:Nat):TG:=fun v σ H Q=>Q (σ.set i (some v)) H
theorem zeu{i:Nat}{x:Str}(hN:X.N.Nodup)(hi:X.N[i]?=some x)(hx:Loc X.env.scope x)(hf:X.fn x=true\/X.env.scope.names.lookup x=some .local:=by first | exact .inl rfl | exact .inr rfl | assumption):PG X (.Name x pos) (zgg i):=by
 intro pins s σ H v u Q I r h;exact wpAny_assign_Name (zbW I hN hi hx r (fun s' I'=>⟨_,H,I',h⟩) hf)
noncomputable def gNil:TGs:=fun vs σ H Q=>vs=[]/\Q σ H
noncomputable def zgG(t:TG)(u:TGs):TGs:=fun vs σ H Q=>∃ v r,vs=v::r/\t v σ H fun σ' H'=>u r σ' H' Q
theorem zet:PGs X [] gNil:=by
 intro pins s σ H vs us Q I r h;obtain⟨e,h⟩:=h;subst e;cases r;exact assignInOrder_nil ⟨σ,H,I,h⟩
theorem zdG{e:Expr}{es:List Expr}{t:TG}{u:TGs}(h1:PG X e t)(h2:PGs X es u)
   (hs:(assignEach (e::es) X.env).map (·.2)=assign e X.env::(assignEach es X.env).map (·.2):=by rfl):PGs X (e::es) (zgG t u):=by
 intro pins s σ H vs us Q I r h;obtain⟨v,vr,e1,h⟩:=h;subst e1
 cases r with
 | cons r rr =>
   rw[hs];refine assignInOrder_cons (thn (h1 pins s σ H _ _ _ I r h) ?_);rintro _ s1 ⟨σ1,H1,I1,q1⟩;exact h2 pins s1 σ1 H1 _ _ Q I1 rr q1
noncomputable def gTup(K:Aa)(n:Nat)(t:TGs):TG:=fun v σ H Q=>∃ a xs,v=.ref a/\SqT K H a xs/\xs.length=n/\t xs σ H Q
theorem zfw{es:List Expr}{k:Nat}{t:TGs}{n:Nat}(hc:X.calm=true)(h:PGs X es t)
   (hn:(assignEach es X.env).length=n:=by rfl) (hst:(assignEach es X.env).findIdx? (·.1)=none:=by rfl):PG X (.Tuple es k pos) (gTup X.K n t):=by
 intro pins s σ H v u Q I r hw;obtain⟨a,xs,e1,hq,hl,hw⟩:=hw;subst e1;cases r;obtain⟨its,rv,ht,hz⟩:=I.tuple hq;refine assign_Tuple_tuple (I.ok.hd hc) ht (by simp[hn,<-hl,rv.length]) hst fun h' hx=>?_;have I1:Inv X pins σ H { s with heap:=h' }:=I.kept (t':=s.toks) fun b o e=>hx b o (Ay (Ae e)) e;exact h pins _ σ H xs _ Q I1 (by simpa using rv) hw
noncomputable def tAsg(te:TE)(g:TG):TS:=fun D σ H=>te σ H fun x H1=>g x σ H1 D.nx
theorem zfs{i:Nat}{x:Str}{e:Expr}{te:TE}{pos':Pos}(hN:X.N.Nodup)(hi:X.N[i]?=some x)(hx:Loc X.env.scope x)(he:PE X e te)(hs:swapsWith e (some (.Name x pos')) pos.line X.env=pure false:=by rfl)(hf:X.fn x=true\/X.env.scope.names.lookup x=some .local:=by first | exact .inl rfl | exact .inr rfl | assumption) :
   PS X (.Assign [.Name x pos'] e pos) (tAsg te (zgg i)):=by
 intro pins s σ H D I h;refine wpAny_Assign_Name (thn (he pins s σ H _ I h) ?_) hs;rintro v s1 ⟨y,H1,I1,r1,q1⟩;exact zbW I1 hN hi hx r1 (fun s2 I2=>⟨_,H1,I2,q1⟩) hf
end
structure It where
 go:Nat->Hp->Prop
 yld:Nat->Hp->V->Hp->Prop
 stop:Nat->Hp->Prop
def FpOk(X:Cx)(pins:List (Addr×Obj))(H:Hp)(b:Addr):Prop :=
 H b=none/\b≠X.env.locals/\b ∉ X.fs/\(b∈X.ex\/X.s₀.heap.objs.size<=b)/\(∀ x c,X.env.cells.lookup x=some c->c≠b)/\∀ p∈X.pn++pins,p.1≠b
theorem Inv.fpOk{X:Cx}{pins:List (Addr×Obj)}{σ:St}{H H':Hp}{s:Shared}{b:Addr}(I:Inv X pins σ H s)(hb:s.heap.objs.size<=b)(hn:H' b=none):FpOk X pins H' b:=by
 refine⟨hn,BZ (Ak I.lt hb),I.nofs hb,.inr (AE I.sz hb),fun x c e z=>?_,fun p hp z=>?_⟩
 . obtain⟨v,q⟩:=I.cell x c e;exact absurd (Ak q.lt (by rw[z];exact hb)) (AD _)
 . exact absurd (Ak (Ae (I.pin p hp).1) (by rw[z];exact hb)) (AD _)
structure Turn(P:Program)(w:World)(K:Aa)(tg:Expr)(J:It)(fp:List Addr)(it:Addr)(tn:Nat->Heap->Prop):Prop where
 mem:it∈fp
 obj:∀ i h,tn i h->∀ b∈fp,∃ o,h.get? b=some o/\∀ v,o.data≠.cell v
 keep:∀ i h h',tn i h->(∀ b∈fp,∀ o,h.get? b=some o->h'.get? b=some o)->tn i h'
 item:∀ (X:Cx),X.prog=P->X.w=w->X.K=K->X.calm=true->∀ (i:Nat) (pins:List (Addr×Obj)) (s:Shared) (σ:St) (H:Hp) (E:Value->Shared->Prop),Inv X pins σ H s->(∀ b∈fp,FpOk X pins H b)->tn i s.heap->J.go i H ->
   wpAny (model P w) X.A (pyNext (.ref it)) (fun r s1=>∃ u,r=some u /\
     wpAny (model P w) X.A (letOwnedTupleGo tg (.ref it) u) (fun _ s2=>∃ x H',Inv X pins σ H' s2/\RelV x u/\J.yld i H x H'/\tn (i+1) s2.heap/\∀ b∈fp,H' b=none) E s1) E s
 done:∀ (X:Cx),X.prog=P->X.w=w->X.K=K->X.calm=true->∀ (i:Nat) (pins:List (Addr×Obj)) (s:Shared) (σ:St) (H:Hp) (E:Value->Shared->Prop),Inv X pins σ H s->(∀ b∈fp,FpOk X pins H b)->tn i s.heap->J.stop i H ->
   wpAny (model P w) X.A (pyNext (.ref it)) (fun r s1=>r=none/\Inv X pins σ H s1) E s
 self:∀ (A:Around) (i:Nat) (s:Shared) (Q:Value->Shared->Prop) (E:Value->Shared->Prop),tn i s.heap->Q (.ref it) s->wpAny (model P w) A (pyIter (.ref it)) Q E s
noncomputable abbrev TI:=St->Hp->(It->Hp->Prop)->Prop
def PIE(X:Cx)(pins:List (Addr×Obj))(σ:St)(tg:Expr)(R:It->Hp->Prop)(itv:Value)(s2:Shared):Prop :=
 ∃ (it:Addr) (fp:List Addr) (tn:Nat->Heap->Prop) (J:It) (H':Hp),itv=.ref it/\Inv X pins σ H' s2/\Turn X.prog X.w X.K tg J fp it tn/\tn 0 s2.heap/\(∀ b∈fp,FpOk X pins H' b)/\R J H'
def PI(X:Cx)(tg iter:Expr)(wi:TI):Prop :=
 ∀ (pins:List (Addr×Obj)) (s:Shared) (σ:St) (H:Hp) (R:It->Hp->Prop),Inv X pins σ H s->wi σ H R ->
   wpAny (model X.prog X.w) X.A (eval iter X.env) (fun v s1=>wpAny (model X.prog X.w) X.A (pyIter v) (PIE X pins σ tg R) X.xe s1) X.xe s
theorem zgF{M:Model}{A:Around}{E:Value->Shared->Prop}{s:Shared}{tg:Expr}{it:Addr}{u:Value}{o:Obj}{n:String}{vs:Array Value}{Q:Unit->Shared->Prop}(ho:s.heap.get? it=some o)(hc:o.cls=.type n)(hd:o.data=.fields vs)
   (hn:["enumerate","zip","dict_itemiterator","dict_reverseitemiterator","odict_iterator","itertools.zip_longest","itertools.pairwise"].contains n=false) (hQ:Q () s):wpAny M A (letOwnedTupleGo tg (.ref it) u) Q E s:=by
 unfold letOwnedTupleGo
 cases tg <;> first
   | exact Ac hQ
   | (cases u <;> first
       | exact Ac hQ
       | (refine Ab (wpAny_load ho ?_)
          rw[hc,hd];show wpAny M A (if (["enumerate","zip","dict_itemiterator","dict_reverseitemiterator","odict_iterator","itertools.zip_longest","itertools.pairwise"].contains n&&vs[0]?==some (rawInt _))=true then _ else _) Q E s;rw[if_neg (by intro h;rw[hn,Bool.false_and] at h;cases h)];exact Ac hQ))
noncomputable def Itr(lo:Int)(n:Nat):It:=⟨fun i _=>i < n,fun i H x H'=>H'=H/\x=.int (lo+i),fun i _=>n<=i⟩
theorem zbU{P:Program}{w:World}{K:Aa}{tg:Expr}(it:Addr)(lo:Int)(n:Nat):Turn P w K tg (Itr lo n) [it] it (fun i h=>IsRangeIter h it (lo+(i:Nat)*1) ((n:Int) - (i:Nat)) 1) where
 mem:=by simp
 obj:=fun i h st b hb=>by
   have e:b=it:=by simpa using hb
   subst e;exact⟨_,st,fun v z=>by
     have z':Data.fields _=Data.cell v:=z;cases z'⟩
 keep:=fun i h h' st k=>k it (by simp) _ st
 item:=by
   intro X hP hw hK hc i pins s σ H E I hf st hg;subst hP hw hK;obtain⟨f0,f1,f2,f3,f4,f5⟩:=hf it (by simp);have W:=Walks.range (prog:=X.prog) (w:=X.w) (I.ok.hd hc) it lo 1 n;refine W.item i s _ _ hg st fun v h' tk hv st' kk=>?_;obtain⟨t,rfl⟩:=hv;have I1:Inv X pins σ H { s with heap:=h',toks:=tk }:=I.turned (fun b o hb e=>kk b o (by simpa using hb) e) f0 f1 f3 f4 f5;refine⟨_,rfl,zgF (s:={ s with heap:=h',toks:=tk }) (n:="range_iterator") st' rfl rfl (by decide) ⟨.int (lo+i),H,I1,⟨t,?_⟩,⟨rfl,rfl⟩,st',fun b hb=>(hf b hb).1⟩⟩;rw[Int.mul_one]
 done:=by
   intro X hP hw hK hc i pins s σ H E I hf st hg;subst hP hw hK;obtain⟨f0,f1,f2,f3,f4,f5⟩:=hf it (by simp);exact wpAny_pyNext_range_end (I.ok.hd hc) st (by have:n<=i:=hg;omega) fun h' eb=>⟨rfl,I.turned (t':=s.toks) (fun b o hb e=>eb b o hb e) f0 f1 f3 f4 f5⟩
 self:=fun _ _ _ _ _ st h=>wpAny_pyIter_rangeiter st h
section
variable {X:Cx} {tg:Expr}
theorem zdB{pins:List (Addr×Obj)}{σ:St}{H:Hp}{s:Shared}{R:It->Hp->Prop}{E:Value->Shared->Prop}{lo hi:Int}{t u v:Tok}{tk:Nat}(I:Inv X pins σ H s)(h1:-(2 ^ 62)<=lo)(h2:lo < 2 ^ 62)(h3:-(2 ^ 62)<=hi)(h4:hi < 2 ^ 62)
   (q:R (Itr lo (hi - lo).toNat) H):wpAny (model X.prog X.w) X.A (pyIter (.ref s.heap.objs.size)) (PIE X pins σ tg R) E { s with heap:=s.heap.push { cls:=.type "range",data:=.fields #[.int lo t,.int hi u,.int 1 v] },toks:=tk }:=by
 refine wpAny_pyIter_range (IsRange.new ..) (small_one h1 h2 h3 h4) ?_;have I1:Inv X pins σ H { s with heap:=s.heap.push { cls:=.type "range",data:=.fields #[.int lo t,.int hi u,.int 1 v] },toks:=tk }:=I.kept fun b o e=>Af _ e;refine⟨(s.heap.push { cls:=.type "range",data:=.fields #[.int lo t,.int hi u,.int 1 v] }).objs.size,[(s.heap.push { cls:=.type "range",data:=.fields #[.int lo t,.int hi u,.int 1 v] }).objs.size],_,_,H,rfl,
   I1.kept (t':=tk) fun b o e=>Af _ e,zbU _ lo (hi - lo).toNat,?_,fun b hb=>?_,q⟩
 . have e1:lo+((0:Nat):Int)*1=lo:=by simp
   have e2:(((hi - lo).toNat:Nat):Int) - ((0:Nat):Int)=Builtin.Range.rangeSize lo hi 1:=by rw[rangeSize_one];split <;> omega
   show IsRangeIter _ _ (lo+((0:Nat):Int)*1) ((((hi - lo).toNat:Nat):Int) - ((0:Nat):Int)) 1;rw[e1,e2];exact Aw _ rfl
 . have e:b=(s.heap.push { cls:=.type "range",data:=.fields #[.int lo t,.int hi u,.int 1 v] }).objs.size:=by simpa using hb
   subst e;exact I1.fpOk (Aj _) (I1.hok.fresh (Aj _))
noncomputable def zgE(ta:TA):TI:=fun σ H R=>ta σ H fun vs H1=>∃ j:Int,vs=[.int j]/\-(2 ^ 62)<=j/\j < 2 ^ 62/\R (Itr 0 j.toNat) H1
theorem zcR{a:Expr}{ta:TA}{p pos:Pos}(hg:Gl X "range")(hm:X.mg "range"=none)(ha:PA X [a] ta)(hs:starEach [a] X.env=[(false,eval a X.env)]:=by rfl):PI X tg (.Call (.Name "range" p) [a] [] pos) (zgE ta):=by
 intro pins s σ H R I h;refine Call_ (zcl I hg hm boot_range (A8 (thn (ha pos pins s σ H _ I h) ?_) hs rfl));rintro us s1 ⟨vs,H1,I1,r1,q1⟩;obtain⟨j,e,q1,q2,q⟩:=q1;subst e
 cases r1 with
 | cons r rr =>
   cases rr;obtain⟨t,rfl⟩:=r;exact call_range_1 (zdB I1 (by omega) (by omega) q1 q2 (by simpa using q))
noncomputable def tFor(wi:TI)(g:TG)(tb:TS):TS:=fun D σ H=>wi σ H fun J H1=>∃ W:Nat->Nat->St->Hp->Prop,(∃ m,W 0 m σ H1)/\∀ i m σ H,W i m σ H ->
 (J.stop i H/\D.nx σ H)\/(J.go i H/\∃ N:St->Hp->Prop,(∀ σ' H',N σ' H'->∃ m',m' < m/\W (i+1) m' σ' H')/\∀ x H',J.yld i H x H'->g x σ H' fun σ2 H2=>tb { D with nx:=N,ct:=N,bk:=D.nx } σ2 H2)
noncomputable def zb3(fp:List Addr)(h:Heap):List (Addr×Obj):=fp.filterMap fun b=>(h.get? b).map fun o=>(b,o)
theorem zaD{fp:List Addr}{h:Heap}{b:Addr}{o:Obj}(hb:b∈fp)(e:h.get? b=some o):(b,o)∈zb3 fp h:=List.mem_filterMap.mpr ⟨b,hb,by rw[e];rfl⟩
theorem zcV{fp:List Addr}{h:Heap}{p:Addr×Obj}(hp:p∈zb3 fp h):p.1∈fp/\h.get? p.1=some p.2:=by
 obtain⟨b,hb,e⟩:=List.mem_filterMap.mp hp
 cases q:h.get? b with
 | none=>rw[q] at e;cases e
 | some o =>
   rw[q] at e;have e':(b,o)=p:=Ai e;subst e';exact⟨hb,q⟩
theorem Inv.pinned{pins:List (Addr×Obj)}{σ:St}{H:Hp}{s:Shared}{fp:List Addr}(I:Inv X pins σ H s)(hf:∀ b∈fp,FpOk X pins H b)(ho:∀ b∈fp,∃ o,s.heap.get? b=some o/\∀ v,o.data≠.cell v):Inv X (pins++zb3 fp s.heap) σ H s :=
 I.pins_of fun p hp=>(List.mem_append.mp hp).elim (fun z=>I.pin p (Av _ z)) fun z=>by
   obtain⟨hb,e⟩:=zcV z;obtain⟨f0,f1,f2,_⟩:=hf p.1 hb;obtain⟨o,e',d⟩:=ho p.1 hb;rw[e] at e';cases e';exact⟨e,f0,f1,f2,d⟩
theorem Inv.unpinned{pins pl:List (Addr×Obj)}{σ:St}{H:Hp}{s:Shared}(I:Inv X (pins++pl) σ H s):Inv X pins σ H s:=I.pins_of fun p hp=>I.pin p (Av _ (A9 _ hp))
theorem zfu{iter:Expr}{body:List Stmt}{wi:TI}{g:TG}{tb:TS}{pos:Pos}(hp:PassesOwn (model X.prog X.w) X.A X.env X.xe)(hc:X.calm=true)(hi:PI X tg iter wi)(hg:PG X tg g)(hb:PSs X body tb)
   (hs:∀ x,foldedSetIterable iter X.env x=pure x:=by intro _;rfl):PS X (.For tg iter body [] pos) (tFor wi g tb):=by
 intro pins s σ H D I h;refine wpAny_For (thn (hi pins s σ H _ I h) fun v s1 h1=>thn h1 fun itv s2 h2=>?_) hs;obtain⟨it,fp,tn,J,H2,e,I2,T,st2,f2,W,⟨m0,w0⟩,turn⟩:=h2;subst e
 -- what stays true of the iterator's objects through the loop
 have stat:∀ {H':Hp},(∀ b∈fp,H' b=none)->∀ b∈fp,FpOk X pins H' b:=fun hn b hb=>⟨hn b hb,(f2 b hb).2⟩
 refine codeAny_forLoop_any (fun n s'=>∃ i σ' H',Inv X pins σ' H' s'/\tn i s'.heap/\(∀ b∈fp,H' b=none)/\W i n σ' H') ?_ m0 ⟨0,σ,H2,I2,st2,fun b hb=>(f2 b hb).1,w0⟩;rintro n s3 ⟨i,σ3,H3,I3,st3,fr3,w3⟩
 rcases turn i n σ3 H3 w3 with ⟨stop,qn⟩ | ⟨go,N,hN,step⟩
 . refine Bg hp (thn (T.done X rfl rfl rfl hc i pins s3 σ3 H3 X.xe I3 (stat fr3) st3 stop) ?_);rintro r s4 ⟨hr,I4⟩;subst hr;exact Ca ⟨σ3,H3,I4,qn⟩
 . refine Bg hp (thn (T.item X rfl rfl rfl hc i pins s3 σ3 H3 X.xe I3 (stat fr3) st3 go) ?_);rintro r s4 ⟨u,hr,h4⟩;subst hr;refine Bg hp (thn h4 ?_);rintro _ s5 ⟨x,H5,I5,r5,y5,st5,fr5⟩;have I5':=I5.pinned (stat fr5) (T.obj _ _ st5);refine Bg hp (thn (hg _ s5 σ3 H5 x u _ I5' r5 (step x H5 y5)) ?_);rintro _ s6 ⟨σ6,H6,I6,q6⟩;refine Bg hp (thn (hb _ s6 σ6 H6 _ I6 q6) fun f s7 q7=>?_);have again:∀ {σ7:St} {H7:Hp},Inv X (pins++zb3 fp s5.heap) σ7 H7 s7->N σ7 H7->∃ m,m < n/\∃ i σ' H',Inv X pins σ' H' s7/\tn i s7.heap/\(∀ b∈fp,H' b=none)/\W i m σ' H':=fun {σ7 H7} I7 n7=>by
     obtain⟨m',hm,w7⟩:=hN σ7 H7 n7;refine⟨m',hm,i+1,σ7,H7,I7.unpinned,T.keep _ _ _ st5 fun b hb o e=>(I7.pin (b,o) (Av _ (Av _ (zaD hb e)))).1,fun b hb=>?_,w7⟩;obtain⟨o,e,d⟩:=T.obj _ _ st5 b hb;exact (I7.pin (b,o) (Av _ (Av _ (zaD hb e)))).2.1
   cases f with
   | next=>obtain⟨σ7,H7,I7,n7⟩:=q7;exact again I7 n7
   | cont=>obtain⟨σ7,H7,I7,n7⟩:=q7;exact again I7 n7
   | brk=>obtain⟨σ7,H7,I7,q7⟩:=q7;exact⟨σ7,H7,I7.unpinned,q7⟩
   | ret v=>obtain⟨x7,σ7,H7,I7,r7,q7⟩:=q7;exact⟨x7,σ7,H7,I7.unpinned,r7,q7⟩
end
noncomputable abbrev R2:=V->V->Hp->VK->Prop
def OpR(X:Cx)(f:Value->Value->Sem Value)(r:R2):Prop :=
 ∀ (pins:List (Addr×Obj)) (s:Shared) (σ:St) (H:Hp) (x y:V) (v u:Value) (Q:VK),Inv X pins σ H s->RelV x v->RelV y u->r x y H Q ->
   wpAny (model X.prog X.w) X.A (f v u) (EP X pins σ Q) X.xe s
def zdk(X:Cx)(f:Value)(r:List V->Hp->VK->Prop):Prop :=
 ∀ (pins:List (Addr×Obj)) (s:Shared) (σ:St) (H:Hp) (xs:List V) (us:List Value) (Q:VK),Inv X pins σ H s->Vals xs us->r xs H Q ->
   wpAny (model X.prog X.w) X.A (call f us) (EP X pins σ Q) X.xe s
def TruR(X:Cx)(r:V->Hp->(Bool->Hp->Prop)->Prop):Prop :=
 ∀ (pins:List (Addr×Obj)) (s:Shared) (σ:St) (H:Hp) (x:V) (v:Value) (Q:Bool->Hp->Prop),Inv X pins σ H s->RelV x v->r x H Q ->
   wpAny (model X.prog X.w) X.A (truthy v) (TP X pins σ Q) X.xe s
noncomputable def tOp(r:R2)(ta tb:TE):TE:=fun σ H Q=>ta σ H fun x H1=>tb σ H1 fun y H2=>r x y H2 Q
noncomputable def rI(C:Int->Int->Prop)(g:Int->Int->V):R2:=fun x y H Q=>∃ i j,x=.int i/\y=.int j/\C i j/\Q (g i j) H
noncomputable def rI0(g:Int->Int->V):R2:=fun x y H Q=>∃ i j,x=.int i/\y=.int j/\Q (g i j) H
section
variable {X:Cx} {a b c:Expr} {ta tb tc:TE} {pos:Pos}
theorem binT(ha:PE X a ta)(hb:PE X b tb){pins:List (Addr×Obj)}{s:Shared}{σ:St}{H:Hp}{R:V->V->Hp->Prop}(I:Inv X pins σ H s)
   (h:ta σ H fun x H1=>tb σ H1 fun y H2=>R x y H2) {Q:Value->Shared->Prop} {f:Value->Value->Sem Value}
   (hf:∀ v u s2 x y H2,Inv X pins σ H2 s2->RelV x v->RelV y u->R x y H2->wpAny (model X.prog X.w) X.A (f v u) Q X.xe s2) :
   wpAny (model X.prog X.w) X.A (eval a X.env) (fun v s₁=>wpAny (model X.prog X.w) X.A (eval b X.env) (fun u s₂=>wpAny (model X.prog X.w) X.A (f v u) Q X.xe s₂) X.xe s₁) X.xe s:=by
 refine thn (ha pins s σ H _ I h) ?_;rintro v s1 ⟨x,H1,I1,r1,q1⟩;refine thn (hb pins s1 σ H1 _ I1 q1) ?_;rintro u s2 ⟨y,H2,I2,r2,q2⟩;exact hf v u s2 x y H2 I2 r1 r2 q2
theorem zgz{op:Operator}{r:R2}(ho:OpR X (binaryOp op) r)(ha:PE X a ta)(hb:PE X b tb):PE X (.BinOp a op b pos) (tOp r ta tb):=by
 intro pins s σ H Q I h;exact wpAny_BinOp (binT ha hb I h fun v u s2 x y H2 I2 rx ry q=>ho pins s2 σ H2 x y v u Q I2 rx ry q)
theorem opI{f:Value->Value->Sem Value}{C:Int->Int->Prop}{g:Int->Int->Int}
   (rule:∀ (i j:Int) (t u:Tok) (s:Shared) (Q:Value->Shared->Prop) (E:Value->Shared->Prop),C i j->Q (.int (g i j) s.toks) { s with toks:=s.toks+1 }->wpAny (model X.prog X.w) X.A (f (.int i t) (.int j u)) Q E s) :
   OpR X f (rI C fun i j=>.int (g i j)):=by
 intro pins s σ H x y v u Q I rx ry h;obtain⟨i,j,rfl,rfl,hc,q⟩:=h;obtain⟨t,rfl⟩:=rx;obtain⟨t',rfl⟩:=ry;exact rule i j t t' s _ _ hc ⟨.int (g i j),H,I.tok _,⟨_,rfl⟩,q⟩
theorem opI0{f:Value->Value->Sem Value}{g:Int->Int->Int}
   (rule:∀ (i j:Int) (t u:Tok) (s:Shared) (Q:Value->Shared->Prop) (E:Value->Shared->Prop),Q (.int (g i j) s.toks) { s with toks:=s.toks+1 }->wpAny (model X.prog X.w) X.A (f (.int i t) (.int j u)) Q E s) :
   OpR X f (rI0 fun i j=>.int (g i j)):=by
 intro pins s σ H x y v u Q I rx ry h;obtain⟨i,j,rfl,rfl,q⟩:=h;obtain⟨t,rfl⟩:=rx;obtain⟨t',rfl⟩:=ry;exact rule i j t t' s _ _ ⟨.int (g i j),H,I.tok _,⟨_,rfl⟩,q⟩
theorem zfD:OpR X (binaryOp .Add) (rI0 fun i j=>.int (i+j)):=opI0 fun _ _ _ _ _ _ _ q=>add_int q
theorem zfA:OpR X (binaryOp .Sub) (rI0 fun i j=>.int (i - j)):=opI0 fun _ _ _ _ _ _ _ q=>sub_int q
theorem zfB:OpR X (binaryOp .Mod) (rI (fun _ j=>0 < j) fun i j=>.int (i % j)):=opI fun i j _ _ _ _ _ hc q=>by
 have h1:(0:Int) < j:=hc;exact mod_int' (by omega) (by rw[Int.fmod_eq_emod_of_nonneg i (by omega)];exact q)
end
section
variable {X:Cx} {a b c:Expr} {ta tb tc:TE} {pos:Pos}
noncomputable def zgp(t:TE):TT:=fun σ H Q=>t σ H fun x H'=>∃ k,x=.bl k/\Q k H'
theorem zer{op:CmpOp}{r:R2}(ho:OpR X (compareOp op) r)(ha:PE X a ta)(hb:PE X b tb)(hm:behindInMarks op b=false):PT X (.Compare a [op] [b] pos) (zgp (tOp r ta tb)):=by
 intro pins s σ H Q I h;refine wpAny_isTrue_Compare1 (thn (ha pins s σ H _ I h) fun v s1 ⟨x,H1,I1,r1,q1⟩=>thn (hb pins s1 σ H1 _ I1 q1) fun u s2 ⟨y,H2,I2,r2,q2⟩ =>
   thn (ho pins s2 σ H2 x y v u _ I2 r1 r2 q2) fun c s3 ⟨z,H3,I3,r3,k,e,q3⟩=>?_) hm
 subst e;cases r3;exact CL ⟨H3,I3,q3⟩
def TruV(K:Aa)(x:V)(H:Hp)(k:Bool):Prop :=
 match x with
 | .non=>k=false
 | .bl b=>k=b
 | .int i=>k=(i != 0)
 | .str y=>y.length<=sizeLine/\k=((y.length:Int) != 0)
 | .byt y=>y.size<=sizeLine/\k=((y.size:Int) != 0)
 | .ref p=>(∃ xs,SqL K H p xs/\k=!xs.isEmpty)\/(∃ xs,SqT K H p xs/\k=!xs.isEmpty)\/∃ kvs,H p=some (.dK kvs)/\k=!kvs.isEmpty
 | _=>False
theorem zcm{κ:Type}{kvs:List (κ×V)}{vs:List (κ×Value)}(r:KV kvs vs):(!vs.isEmpty)=!kvs.isEmpty:=by
 cases r <;> rfl
theorem za9{xs:List V}{its:List Value}(r:Vals xs its):(!its.toArray.isEmpty)=!xs.isEmpty:=by
 cases r <;> simp
theorem zbL:(sizeLine:Nat) < 2 ^ 63:=by rw[CT];decide
theorem zfg:TruR X (fun x H Q=>∃ k,TruV X.K x H k/\Q k H):=by
 intro pins s σ H x v Q I rx h;obtain⟨k,e,q⟩:=h;have hl:=zbL;have hs:sizeLine=16777216:=CT
 cases x with
 | non =>
   cases rx;have e':k=false:=e;subst e';exact truthy_none ⟨H,I,q⟩
 | bl b =>
   cases rx;have e':k=b:=e;subst e';exact CL ⟨H,I,q⟩
 | int i =>
   obtain⟨t,rfl⟩:=rx;have e':k=(i != 0):=e;subst e';exact PySem.P.truthy_int ⟨H,I,q⟩
 | str y =>
   obtain⟨t,rfl⟩:=rx;obtain⟨hy,e'⟩:y.length<=sizeLine/\k=((y.length:Int) != 0):=e;subst e';exact PySem.P.truthy_str (by omega) ⟨H,I.tok _,q⟩
 | byt y =>
   obtain⟨t,rfl⟩:=rx;obtain⟨hy,e'⟩:y.size<=sizeLine/\k=((y.size:Int) != 0):=e;subst e';exact PySem.W.truthy_bytes (by omega) ⟨H,I.tok _,q⟩
 | ref p =>
   cases rx;have e':(∃ xs,SqL X.K H p xs/\k=!xs.isEmpty)\/(∃ xs,SqT X.K H p xs/\k=!xs.isEmpty)\/∃ kvs,H p=some (.dK kvs)/\k=!kvs.isEmpty:=e
   rcases e' with ⟨xs,hx,e'⟩ | ⟨xs,hx,e'⟩ | ⟨kvs,hx,e'⟩
   . subst e';obtain⟨its,r,pl,hz⟩:=I.list hx;have hlen:=r.length;exact wpAny_truthy_list pl.isList (by simp only[An];omega) ⟨H,I.tok _,by rw[za9 r];exact q⟩
   . subst e';obtain⟨its,r,pl,hz⟩:=I.tuple hx;have hlen:=r.length;exact truthy_tuple pl (by simp only[An];omega) ⟨H,I.tok _,by rw[za9 r];exact q⟩
   . subst e';obtain⟨hz,hS,vs,r,m⟩:kvs.length<=sizeLine/\(p==sysModules)=false/\∃ vs,KV kvs vs/\s.heap.DictOf (zar X.prog X.w) p vs:=I.hok p _ hx;have hlen:kvs.length=vs.length:=BJ r;exact wpAny_truthy_dict hS m (by omega) ⟨H,I.tok _,by rw[zcm r];exact q⟩
 | _=>exact (show False from e).elim
theorem zdD(ha:PE X a ta)(he:∀ whole,isTrue a X.env whole=(do let v <-whole;standAt a.pos;holding [v] (truthy v))) :
   PT X a (fun σ H Q=>ta σ H fun x H'=>∃ k,TruV X.K x H' k/\Q k H'):=by
 intro pins s σ H Q I h;exact isTrue_plain (thn (ha pins s σ H _ I h) fun v s1 ⟨x,H1,I1,r1,q1⟩=>zfg pins s1 σ H1 x v Q I1 r1 q1) (he _)
theorem zca:OpR X (binaryOp .Add) (fun x y H Q=>∃ i j,x=.str i/\y=.str j/\i.length+j.length<=sizeLine/\Q (.str (i++j)) H):=by
 intro pins s σ H x y v u Q I rx ry h;obtain⟨i,j,rfl,rfl,hz,q⟩:=h;obtain⟨t,rfl⟩:=rx;obtain⟨t',rfl⟩:=ry;exact add_str (fun t' tk=>⟨.str (i++j),H,I.tok _,⟨_,rfl⟩,q⟩) hz
theorem vals1{x:V}{us:List Value}(r:Vals [x] us):∃ u,us=[u]/\RelV x u:=by
 cases r with
 | cons r1 r2=>cases r2;exact⟨_,rfl,r1⟩
theorem vals2{x y:V}{us:List Value}(r:Vals [x,y] us):∃ u w',us=[u,w']/\RelV x u/\RelV y w':=by
 cases r with
 | cons r1 r2 =>
   cases r2 with
   | cons r3 r4=>cases r4;exact⟨_,_,rfl,r1,r3⟩
theorem zdi(hc:X.calm=true):zdk X (.builtin "max") (fun xs H Q=>∃ i j,xs=[.int i,.int j]/\Q (.int (if j > i then j else i)) H):=by
 intro pins s σ H xs us Q I r h;obtain⟨i,j,rfl,q⟩:=h;obtain⟨u,w',rfl,⟨t,rfl⟩,⟨t',rfl⟩⟩:=vals2 r;refine max_two_ints (I.ok.hd hc) fun h' tk k=>⟨_,H,I.kept k,?_,q⟩
 by_cases hj:j > i
 . rw[if_pos hj,if_pos hj];exact⟨_,rfl⟩
 . rw[if_neg hj,if_neg hj];exact⟨_,rfl⟩
theorem zdg(hc:X.calm=true):zdk X (.builtin "min") (fun xs H Q=>∃ i j,xs=[.int i,.int j]/\Q (.int (if j < i then j else i)) H):=by
 intro pins s σ H xs us Q I r h;obtain⟨i,j,rfl,q⟩:=h;obtain⟨u,w',rfl,⟨t,rfl⟩,⟨t',rfl⟩⟩:=vals2 r;refine min_two_ints (I.ok.hd hc) fun h' tk k=>⟨_,H,I.kept k,?_,q⟩
 by_cases hj:j < i
 . rw[if_pos hj,if_pos hj];exact⟨_,rfl⟩
 . rw[if_neg hj,if_neg hj];exact⟨_,rfl⟩
end
theorem zbu{h:Heap}{dx:Addr}{mA:Str->Option Value}(n:h.Ns1 dx mA):∃ od,h.get? dx=some od/\∀ name,C6 name od=some (mA name):=by
 obtain⟨o,es,ep,ho,hd,hk,_,hm⟩:=n;refine⟨o,ho,fun name=>?_⟩;have e:=hm name;unfold nsFind findBy at e;rw[<-Array.find?_toList] at e;unfold C6;rw[hd];dsimp only
 split
 . rename_i y q;rw[q] at e;exact congrArg some e
 . rename_i q;rw[q] at e;have a:es.toList.any (·.refKey)=false:=by
     rw[List.any_eq_false];intro y hy;obtain⟨z,t,hkey⟩:=hk y (Array.mem_toList_iff.mp hy);simp[DictEntry.refKey,hkey]
   have a':¬ es.toList.any (·.refKey)=true:=by rw[a];exact AR
   rw[if_neg a'];exact congrArg some e
theorem RelO.some_of{v:V}{o:Option Value}(r:RelO (some v) o):∃ u,o=some u/\RelV v u:=by
 cases o with
 | none=>exact (show False from r).elim
 | some u=>exact⟨u,rfl,r⟩
section
variable {X:Cx} {pins:List (Addr×Obj)} {σ:St} {H:Hp} {s:Shared} {a C dx:Addr} {fs:List (Str×V)} {f:Str} {v:V} {A:Around} {E:Value->Shared->Prop}
theorem ze3{prog:Program}{w:World}{env:Env}{e:Expr}{f:Str}{pos:Pos}{s:Shared}{Q:Value->Shared->Prop}(hb:attributeBase e f env (eval e env)=eval e env)
   (h:wpAny (model prog w) A (eval e env) (fun o s₁=>wpAny (model prog w) A (getAttr o f true) Q E s₁) E s):wpAny (model prog w) A (eval (.Attribute e f pos) env) Q E s :=
 Attribute_any_ h (by rw[arm_eval_Attribute,hb])
end
structure Room(k:Nat)(A:Around):Prop where
 hd:A.handled=none
 dp:A.depth+3*k+5 < recursionLimit
 un:A.units+16*k+200 < cLine
 gd:A.guards=some []
theorem Room.mono{j k:Nat}{A:Around}(r:Room k A)(h:j<=k):Room j A:=⟨r.hd,by have:=r.dp;omega,by have:=r.un;omega,r.gd⟩
theorem Room.deeper{k:Nat}{A:Around}(r:Room (k+1) A)(env:Env):Room k (A.deeper env) :=
 ⟨r.hd,by have:=r.dp;show A.depth+1+3*k+5 < _;omega,by have:=r.un;show A.units+3+16*k+200 < _;omega,r.gd⟩
theorem zcg{A:Around}{C:Addr}{us:List Value}{kw:List (Str×Value)}:(A.under (.builtin "type.__call__" ⟨.ref C::us,kw⟩)).depth=A.depth+1:=by
 first | rfl | simp[B0,Code.weight,Code.isCreation,Df,Code.isCaller,Code.frames,CH,guardIds]
theorem zcf{A:Around}{C:Addr}{us:List Value}{kw:List (Str×Value)}:(A.under (.builtin "type.__call__" ⟨.ref C::us,kw⟩)).units=A.units+1:=by
 first | rfl | simp[B0,Code.cUnits,Code.frames,CH]
theorem zbJ{A:Around}{C:Addr}{us:List Value}{kw:List (Str×Value)}:(A.under (.builtin "type.__call__" ⟨.ref C::us,kw⟩)).guards=A.guards:=by
 have h:(Code.builtin "type.__call__" ⟨.ref C::us,kw⟩).guards=[]:=by first | rfl | simp[Code.guards,Df,guardIds]
 dsimp only[B0];rw[h]
 cases A.guards <;> rfl
theorem Room.make{k:Nat}{A:Around}(r:Room (k+1) A)(C:Addr)(us:List Value)(kw:List (Str×Value)):Room k (A.under (.builtin "type.__call__" ⟨.ref C::us,kw⟩)) :=
 ⟨r.hd,by have:=r.dp;rw[zcg];omega,by have:=r.un;rw[zcf];omega,by rw[zbJ];exact r.gd⟩
theorem Room.depth{k:Nat}{A:Around}(r:Room k A):A.depth < recursionLimit:=by have:=r.dp;omega
theorem Room.units{k:Nat}{A:Around}(r:Room k A):A.units+64 < cLine:=by have:=r.un;omega
noncomputable def tNil:TA:=fun _ H Q=>Q [] H
noncomputable def zgs(ta:TE)(tr:TA):TA:=fun σ H Q=>ta σ H fun x H1=>tr σ H1 fun xs H2=>Q (x::xs) H2
section
variable {X:Cx} {e:Expr} {es:List Expr} {te:TE} {t:TA} {pos:Pos}
theorem zeB:PA X [] tNil:=fun _ _ _ _ H Q I h=>Calls.spliced_nil ⟨[],H,I,.nil,h⟩
theorem zb5(ha:PE X e te)(hr:PA X es t)(hs:starEach (e::es) X.env=(false,eval e X.env)::starEach es X.env:=by rfl):PA X (e::es) (zgs te t):=by
 intro pos pins s σ H Q I h;rw[hs];show wpAny _ _ (spliced ((false,eval e X.env)::backTo pos (starEach es X.env))) _ _ s;refine Calls.spliced_cons (thn (ha pins s σ H _ I h) ?_);rintro u s1 ⟨x,H1,I1,r1,q1⟩;exact thn (hr pos pins s1 σ H1 _ I1 q1) fun us s2 ⟨xs,H2,I2,r2,q2⟩=>⟨x::xs,H2,I2,.cons r1 r2,q2⟩
noncomputable def tLst(t:TA):TE:=fun σ H Q=>t σ H fun xs H1=>xs.length<=sizeLine/\∀ p,H1 p=none->Q (.ref p) (upd H1 p (.lst xs))
theorem zfx(h:PA X es t):PE X (.List es pos) (tLst t):=by
 intro pins s σ H Q I hq;refine wpAny_List_spliced (thn (h pos pins s σ H _ I hq) fun us s1 ⟨xs,H1,I1,r,z,q⟩=>⟨by rw[<-r.length];exact z,?_⟩);have hf:H1 s1.heap.objs.size=none:=I1.hok.fresh (Aj _);refine⟨.ref s1.heap.objs.size,upd H1 s1.heap.objs.size (.lst xs),I1.laid (t':=s1.toks) (fun b u e=>Af _ e) (Aj _) ?_,rfl,q _ hf⟩;exact⟨z,us,0,r,Aw _ rfl⟩
end
noncomputable abbrev Sp:=List V->Hp->VK->XK->Prop
noncomputable abbrev CXT:=List Env->Hp->Shared->XK->Value->Shared->Prop
structure Env0(P:Program)(w:World)(K:Aa)(mg:Str->Option Value)(base:Heap)(A:Around)(outer:List Env)(s:Shared)(H:Hp):Prop where
 frames:A.frames=some outer
 mod:Mod K mg base
 bs:∀ b o,base.get? b=some o->s.heap.get? b=some o/\H b=none
 bsz:base.objs.size<=s.heap.objs.size
 funs:s.heap.FunFrames base outer
 frf:∀ b∈frs outer,H b=none
 hok:HOk P w H s.heap
 bare:AllBare s.gens
def CE(outer:List Env)(P:Program)(w:World)(H:Hp)(s:Shared)(Q:VK)(u:Value)(s':Shared):Prop :=
 ∃ v H',s'.os=s.os/\AllBare s'.gens/\Un (frs outer) [] H H' s.heap s'.heap/\HOk P w H' s'.heap/\RelV v u/\Q v H'
def CR(CX:CXT)(outer:List Env)(P:Program)(w:World)(H:Hp)(s:Shared)(Q:VK)(E:XK)(r:Result)(s':Shared):Prop :=
 match r with
 | .ok (.ret u)=>CE outer P w H s Q u s'
 | .ok _=>False
 | .error e=>CX outer H s E e s'
structure FnOk(P:Program)(w:World)(K:Aa)(mg:Str->Option Value)(base:Heap)(CX:CXT)(k:Nat)(f:Addr)(fd:FuncData)(ps:List Str)(sp:Sp):Prop where
 len:∀ vs H Q E,sp vs H Q E->vs.length=ps.length
 run:∀ (A:Around) (outer:List Env) (s:Shared) (H:Hp) (args:Args) (us:List Value) (vs:List V) (Q:VK) (E:XK),Room k A->Env0 P w K mg base A outer s H->BindsTo s fd args (ps.zip us)->Vals vs us->sp vs H Q E ->
   codeAny (model P w) A (.call (.ref f) args) (CR CX outer P w H s Q E) s
theorem Env0.make{P:Program}{w:World}{K:Aa}{mg:Str->Option Value}{base:Heap}{A:Around}{outer:List Env}{s:Shared}{H:Hp}(e:Env0 P w K mg base A outer s H)(C:Addr)(us:List Value)(kw:List (Str×Value)) :
   Env0 P w K mg base (A.under (.builtin "type.__call__" ⟨.ref C::us,kw⟩)) outer s H:=⟨by first | exact e.frames | (simpa[B0,Code.envs,CH,pushEnvs] using e.frames),e.mod,e.bs,e.bsz,e.funs,e.frf,e.hok,e.bare⟩
section
variable {X:Cx} {pins:List (Addr×Obj)} {σ:St} {H:Hp} {s s':Shared}
theorem Inv.env0(I:Inv X pins σ H s):Env0 X.prog X.w X.K X.mg X.base X.A X.stack s H :=
 ⟨I.ok.frames,I.ok.mod,I.bs,AE I.ok.bsz I.sz,I.stack,I.stkFree,I.hok,I.bare⟩
theorem Inv.after{Q:VK}{u:Value}(I:Inv X pins σ H s)(h:CE X.stack X.prog X.w H s Q u s'):EP X pins σ Q u s':=by
 obtain⟨v,H',os,bare,un,hok,r,q⟩:=h;obtain⟨hh,g,d,t,os'⟩:=s';obtain rfl:os'=s.os:=os;exact⟨v,H',I.call (h':=hh) (g':=g) (d':=d) (t':=t) (ch:=[]) un hok bare (fun b z=>absurd z (by simp)),r,q⟩
end
noncomputable def zgt(sp:Sp)(dvs:List V)(E:XK)(t:TA):TE:=fun σ H Q=>t σ H fun vs H1=>sp (vs++dvs) H1 Q E
def Binds(K:Aa)(fd:FuncData)(ps:List Str)(ds:List Value):Prop :=
 ∀ (s:Shared) (us:List Value),K.In s.heap->(us++ds).length=ps.length->BindsTo s fd ⟨us,[]⟩ (ps.zip (us++ds))
theorem Binds.all{K:Aa}{fd:FuncData}{ps:List Str}(h:∀ us:List Value,us.length=ps.length->bindArgs fd ⟨us,[]⟩=pure (ps.zip us)):Binds K fd ps []:=fun s us _ hl=>by
 rw[Ad] at hl ⊢;exact .of_eq (h us hl)
def Passes(CX:CXT)(X:Cx)(E:XK):Prop:=∀ (pins:List (Addr×Obj)) (σ:St) (H:Hp) (s:Shared) (e:Value) (s':Shared),Inv X pins σ H s->CX X.stack H s E e s'->X.xe e s'
section
variable {X:Cx} {CX:CXT} {k:Nat} {f C:Addr} {fd:FuncData} {ps:List Str} {sp:Sp} {dvs:List V} {ds:List Value} {E:XK} {x m:Str} {p pos apos:Pos} {e o:Expr} {es:List Expr} {ta:TE} {t:TA}
theorem zfq{pins:List (Addr×Obj)}{σ:St}{H:Hp}{s:Shared}{Q:VK}{us:List Value}{vs:List V}(F:FnOk X.prog X.w X.K X.mg X.base CX k f fd ps sp)(hr:Room k X.A)(hb:Binds X.K fd ps ds)(hd:Vals dvs ds)(hx:Passes CX X E)
   (I:Inv X pins σ H s) (r:Vals vs us) (h:sp (vs++dvs) H Q E):wpAny (model X.prog X.w) X.A (call (.ref f) us) (EP X pins σ Q) X.xe s:=by
 have r2:Vals (vs++dvs) (us++ds):=r.append hd;have hl:(us++ds).length=ps.length:=by rw[<-r2.length];exact F.len _ _ _ _ h
 refine Bw (B1 (F.run X.A X.stack s H ⟨us,[]⟩ (us++ds) (vs++dvs) Q E hr I.env0 (hb s us I.kIn hl) r2 h) fun r s' hq=>?_)
 cases r with
 | error e=>exact hx pins σ H s e s' I hq
 | ok fl =>
   cases fl with
   | ret u=>exact I.after hq
   | next=>exact False.elim hq
   | brk=>exact False.elim hq
   | cont=>exact False.elim hq
theorem zez(F:FnOk X.prog X.w X.K X.mg X.base CX k f fd ps sp)(hr:Room k X.A)(hg:Gl X x)(hm:X.mg x=some (.ref f))(hk:AQ X.K (.ref f)=true)(hb:Binds X.K fd ps ds)(hd:Vals dvs ds)(hx:Passes CX X E)
   (ha:PA X (e::es) t) (hdb:(x==("__debug__":Str))=false:=by decide) (he:starEach (e::es) X.env=(false,eval e X.env)::starEach es X.env:=by rfl) (hpl:(backTo pos (starEach es X.env)).any (·.1)=false:=by rfl) :
   PE X (.Call (.Name x p) (e::es) [] pos) (zgt sp dvs E t):=by
 intro pins s σ H Q I h;refine A1 (zbv I hg hm ?_ hdb);refine CI (h₀:=X.base) I.ok.mod.kin hk (thn (ha pos pins s σ H _ I h) fun us s1 ⟨vs,H1,I1,r,q⟩=>⟨I1.kIn,?_⟩) he hpl;exact zfq F hr hb hd hx I1 r q
end
structure FnScope(N P:List Str)(sc:Scope):Prop where
 kind:sc.kind=.function
 co:sc.isCoroutine=false
 gen:sc.isGenerator=false
 nd:N.Nodup
 pre:N.take P.length=P
 par:∀ x∈P,sc.names.lookup x=some .local\/sc.names.lookup x=some .cell
 nofree:∀ y∈sc.names,y.2≠.free
theorem zbC{kindOf:Str->Option NameKind}{x:Str}:∀ {binds:List (Str×Value)} {m:Str->Option Value},(∀ v,(x,v) ∉ binds)->bindL kindOf binds m x=m x
 | [],_,_=>rfl
 | (n,v)::r,m,h=>by
   unfold bindL;rw[zbC fun w hw=>h w (Al _ hw)]
   split
   . have:x≠n:=by rintro rfl;exact h v Ap
     simp[this]
   . rfl
theorem zbE{kindOf:Str->Option NameKind}{x:Str}:∀ {binds:List (Str×Value)} {m:Str->Option Value},(∀ v,(x,v) ∉ binds)->bindC kindOf binds m x=m x
 | [],_,_=>rfl
 | (n,v)::r,m,h=>by
   unfold bindC;rw[zbE fun w hw=>h w (Al _ hw)]
   split
   . rfl
   . have:x≠n:=by rintro rfl;exact h v Ap
     simp[this]
theorem zbD{kindOf:Str->Option NameKind}{x:Str}{v:Value}:∀ {P:List Str} {vs:List Value} {i:Nat} {m:Str->Option Value},P.Nodup->P[i]?=some x->vs[i]?=some v->kindOf x=some .local ->
   bindL kindOf (P.zip vs) m x=some v
 | [],_,_,_,_,h,_,_=>by simp at h
 | _::_,[],_,_,_,_,h,_=>by simp at h
 | p::P,w::vs,0,m,nd,h1,h2,hk=>by
   simp at h1 h2;subst h1;subst h2;show bindL kindOf ((p,w)::P.zip vs) m p=_;unfold bindL;rw[zbC fun v hv=>(List.nodup_cons.mp nd).1 (Cb hv).1,if_pos hk];simp
 | p::P,w::vs,i+1,m,nd,h1,h2,hk=>by
   show bindL kindOf ((p,w)::P.zip vs) m x=_;unfold bindL;exact zbD (i:=i) (List.nodup_cons.mp nd).2 (by simpa using h1) (by simpa using h2) hk
theorem zbF{kindOf:Str->Option NameKind}{x:Str}{v:Value}:∀ {P:List Str} {vs:List Value} {i:Nat} {m:Str->Option Value},P.Nodup->P[i]?=some x->vs[i]?=some v->kindOf x≠some .local ->
   bindC kindOf (P.zip vs) m x=some v
 | [],_,_,_,_,h,_,_=>by simp at h
 | _::_,[],_,_,_,_,h,_=>by simp at h
 | p::P,w::vs,0,m,nd,h1,h2,hk=>by
   simp at h1 h2;subst h1;subst h2;show bindC kindOf ((p,w)::P.zip vs) m p=_;unfold bindC;rw[zbE fun v hv=>(List.nodup_cons.mp nd).1 (Cb hv).1,if_neg hk];simp
 | p::P,w::vs,i+1,m,nd,h1,h2,hk=>by
   show bindC kindOf ((p,w)::P.zip vs) m x=_;unfold bindC;exact zbF (i:=i) (List.nodup_cons.mp nd).2 (by simpa using h1) (by simpa using h2) hk
noncomputable def start(N:List Str)(vs:List V):St:=vs.map some++A4 (N.length - vs.length) none
noncomputable def cxOf(CX:CXT)(P:Program)(w:World)(K:Aa)(mg:Str->Option Value)(base:Heap)(N:List Str)(qual:Str)(scope:Scope)(f:Addr)(cd:Value)(A:Around)(outer:List Env)(s:Shared)(H:Hp)(E:XK):Cx where
 prog:=P
 w:=w
 K:=K
 mg:=mg
 base:=base
 A:=A.deeper (envOfC qual scope s.heap.objs.size f cd)
 N:=N
 s₀:=s
 H₀:=H
 env:=envOfC qual scope s.heap.objs.size f cd
 outer:=outer
 stack:=envOfC qual scope s.heap.objs.size f cd::outer
 ex:=[]
 calm:=true
 fn:=fun _=>true
 pn:=[]
 xe:=fun e s'=>wpAny (model P w) (A.deeper (envOfC qual scope s.heap.objs.size f cd)) (leaving (envOfC qual scope s.heap.objs.size f cd) e) (fun _ s''=>CX outer H s E e s'') (fun e' s''=>CX outer H s E e' s'') s'
theorem zcv{sc:Scope}{n:Nat}{x:Str}(h:sc.names.lookup x=some .cell):∃ c,(cellsFrom n sc.names []).lookup x=some c:=by
 have q:=Cg sc.names n [] (.inl h);exact Option.isSome_iff_exists.mp q
theorem zc5{CX:CXT}{P:Program}{w:World}{K:Aa}{mg:Str->Option Value}{base:Heap}{N ps:List Str}{qual:Str}{scope:Scope}{f:Addr}{cd:Value}{A:Around}{outer:List Env}{s s1:Shared}{H:Hp}{E:XK}{us:List Value}{vs:List V}
   (S:FnScope N ps scope) (hd:A.handled=none) (e0:Env0 P w K mg base A outer s H) (hl:vs.length=ps.length) (r:Vals vs us)
   (x:InCallC s s.heap.objs.size (bindL (envOfC qual scope s.heap.objs.size f cd).kindOf (ps.zip us) fun _=>none) (cellsFrom (s.heap.objs.size+1) scope.names []) (bindC (envOfC qual scope s.heap.objs.size f cd).kindOf (ps.zip us) fun _=>none) s1) :
   Inv (cxOf CX P w K mg base N qual scope f cd A outer s H E) [] (start N vs) H s1:=by
 have hpl:ps.length<=N.length:=by have:=congrArg List.length S.pre;rw[List.length_take] at this;omega
 obtain⟨h1,tk,rfl,hk⟩:=x.done;have noA:∀ b:Addr,b ∉ (cxOf CX P w K mg base N qual scope f cd A outer s H E).ex:=fun b z=>absurd (show b∈([]:List Addr) from z) (by simp);refine⟨⟨e0.mod,S.kind,rfl,rfl,Aj _,fun y z c h1 h2=>?_,fun y hy=>?_,fun y c _ h=>?_,fun _=>hd,Around.frames_deeper e0.frames,.inr ⟨rfl,rfl⟩,fun b z=>absurd z (noA b),e0.bs,e0.bsz,fun b _ _=>noA b,fun b z=>absurd z (noA b),e0.funs,e0.frf⟩,
   rfl,e0.bare,Un.kept hk,⟨_,x.toInCall.ns,fun i y v h1 h2 h3=>?_⟩,fun y c h=>⟨_,x.cell y c h⟩,e0.hok.fresh (Aj _),fun y c h=>?_,fun p hp=>absurd (show p∈([]:List (Addr×Obj)) from hp) (by simp),e0.hok.kept hk,?_⟩
 . exact name_of_addr x.apart (Aq h1) (Aq h2)
 . have hy:scope.names.lookup y=some .cell\/scope.names.lookup y=some .free:=hy
   rcases hy with hy | hy
   . exact zcv hy
   . exact absurd rfl (S.nofree _ (Aq hy))
 . exact BY (x.above y c (Aq h))
 . have hi:i < vs.length:=by
     unfold start at h2
     by_cases hi:i < vs.length
     . exact hi
     . rw[As (by simpa using hi)] at h2;rw[AZ] at h2
       split at h2 <;> cases h2
   have ha:vs[i]?=some v:=by
     unfold start at h2;rw[Ah (by simpa using hi),AA] at h2
     cases e:vs[i]? with
     | none=>rw[e] at h2;cases h2
     | some a=>rw[e] at h2;cases h2;rfl
   obtain⟨u,hu,rv⟩:=r.get ha;have hp:ps[i]?=some y:=by
     rw[<-S.pre,List.getElem?_take_of_lt (by omega)];exact h1
   have ndP:ps.Nodup:=by rw[<-S.pre];exact S.nd.sublist (List.take_sublist _ _)
   refine⟨u,rv,?_⟩
   rcases S.par y (AF hp) with k | k
   . exact .inl ⟨k,zbD ndP hp hu k⟩
   . obtain⟨c,e⟩:=zcv (n:=s.heap.objs.size+1) k;refine .inr ⟨.inl k,c,e,?_⟩;have q:=x.cell y c e;rw[zbF ndP hp hu (by show scope.names.lookup y≠_;rw[k];decide)] at q;exact q
 . exact e0.hok.fresh (BY (x.above y c (Aq h)))
 . unfold start;show _=N.length;rw[AK,AM,A5];omega
theorem zgH{CX:CXT}{P:Program}{w:World}{K:Aa}{mg:Str->Option Value}{base:Heap}{k:Nat}{f:Addr}{name qual:Str}{params:Arguments}{body:List Stmt}{scope:Scope}{dV kV doc pm cdv ct oc:Value}{an od:Option Addr}
   {osl:Array (Option Value)} {N ps:List Str} {sp:Sp} (lk:K.lookup f=some ⟨oc,od,.func (AS name qual params body scope dV kV doc pm an cdv ct),osl⟩) (hcd:Bo K cdv qual=true) (S:FnScope N ps scope)
   (len:∀ vs H Q E,sp vs H Q E->vs.length=ps.length)
   (hbody:∀ (A:Around) (outer:List Env) (s:Shared) (H:Hp) (vs:List V) (Q:VK) (E:XK),Room k (A.deeper (envOfC qual scope s.heap.objs.size f cdv))->sp vs H Q E ->
     ∃ t,PSs (cxOf CX P w K mg base N qual scope f cdv A outer s H E) body t/\t { nx:=fun _ H'=>Q .non H',rt:=Q } (start N vs) H) :
   FnOk P w K mg base CX (k+1) f (AS name qual params body scope dV kV doc pm an cdv ct) ps sp:=by
 refine⟨len,fun A outer s H args us vs Q E hr e0 hb r hsp=>?_⟩;have hl:=len _ _ _ _ hsp;have KX:K.In s.heap:=e0.mod.kin.keeps fun b o e=>(e0.bs b o e).1;have lim:s.heap.NoLimit:=e0.mod.nolimit.keeps fun b o e=>(e0.bs b o e).1;have hkind:∀ y∈ps.zip us,scope.names.lookup y.1=some .local\/(scope.names.lookup y.1=some .cell/\((cellsFrom (s.heap.objs.size+1) scope.names []).lookup y.1).isSome=true):=by
   rintro ⟨n,v⟩ hy
   rcases S.par n (Cb hy).1 with q | q
   . exact .inl q
   . exact .inr ⟨q,Cg _ _ _ (.inl q)⟩
 refine codeAny_call_function hr.depth (KX _ _ lk) rfl S.co S.gen rfl (PySem.W.codeRec_of KX hcd) (hb _ _ _ _ ?_);refine wpAny_newFunctionEnv_cells S.kind hkind fun env he s1 x=>?_;subst he;refine⟨lim.keeps x.toInCall.keep,codeAny_func ?_⟩;obtain⟨t,ht,hq⟩:=hbody A outer s H vs Q E (hr.deeper _) hsp;have I:Inv (cxOf CX P w K mg base N qual scope f cdv A outer s H E) [] (start N vs) H s1:=zc5 S hr.hd e0 hl r x;refine AH (ht [] s1 (start N vs) H _ I hq) (fun fl s' hs=>?_) fun e s' hs=>hs;have fin:∀ {σ':St} {H':Hp} {v:V} {u:Value},Inv (cxOf CX P w K mg base N qual scope f cdv A outer s H E) [] σ' H' s'->RelV v u->Q v H'->CE outer P w H s Q u s' :=
   fun {σ' H' v u} J rv q=>⟨v,H',J.os,J.bare,J.base,J.hok,rv,q⟩
 cases fl with
 | ret u =>
   obtain⟨v,σ',H',J,rv,q⟩:=hs;exact fin J rv q
 | next =>
   obtain⟨σ',H',J,q⟩:=hs;exact fin (v:=V.non) (u:=AL) J rfl q
 | brk =>
   obtain⟨_,_,_,q⟩:=hs;exact False.elim q
 | cont =>
   obtain⟨_,_,_,q⟩:=hs;exact False.elim q
section
variable {X:Cx} {x:Str} {p pos:Pos} {e:Expr} {es:List Expr} {t:TA} {id T:String} {r:List V->Hp->VK->Prop}
noncomputable def tCB(r:List V->Hp->VK->Prop)(t:TA):TE:=fun σ H Q=>t σ H fun vs H1=>r vs H1 Q
theorem zb4(hc:zdk X (.builtin id) r)(hg:Gl X x)(hm:X.mg x=none)(hv:bootBuiltins x=some (.builtin id))(ha:PA X (e::es) t)(hn:x≠"__name__":=by decide)(hdb:(x==("__debug__":Str))=false:=by decide)
   (he:starEach (e::es) X.env=(false,eval e X.env)::starEach es X.env:=by rfl) (hpl:(backTo pos (starEach es X.env)).any (·.1)=false:=by rfl):PE X (.Call (.Name x p) (e::es) [] pos) (tCB r t):=by
 intro pins s σ H Q I h;refine A1 (zcl I hg hm hv ?_ hn hdb);exact PyProof.Rows.callWith_builtin1 (thn (ha pos pins s σ H _ I h) fun us s1 ⟨vs,H1,I1,r1,q1⟩=>hc pins s1 σ H1 vs us Q I1 r1 q1) he hpl
theorem zcS(hc:zdk X (.type T) r)(hg:Gl X x)(hm:X.mg x=none)(hv:bootBuiltins x=some (.type T))(ha:PA X (e::es) t)(hn:x≠"__name__":=by decide)(hdb:(x==("__debug__":Str))=false:=by decide)
   (he:starEach (e::es) X.env=(false,eval e X.env)::starEach es X.env:=by rfl) (hpl:(backTo pos (starEach es X.env)).any (·.1)=false:=by rfl):PE X (.Call (.Name x p) (e::es) [] pos) (tCB r t):=by
 intro pins s σ H Q I h;refine A1 (zcl I hg hm hv ?_ hn hdb);exact A8 (thn (ha pos pins s σ H _ I h) fun us s1 ⟨vs,H1,I1,r1,q1⟩=>hc pins s1 σ H1 vs us Q I1 r1 q1) he hpl
end
section
variable {κ:Type} [DecidableEq κ]
noncomputable def valV(kvs:List (κ×V))(k:κ):Option V:=(kvs.find? fun kv=>decide (kv.1=k)).map (·.2)
theorem zbS{p:κ×V}{r:List (κ×V)}{k:κ}(e:p.1=k):valV (p::r) k=some p.2:=by simp[valV,AN,e]
theorem zbT{p:κ×V}{r:List (κ×V)}{k:κ}(e:¬ p.1=k):valV (p::r) k=valV r k:=by simp[valV,AN,e]
theorem KV.val{kvs:List (κ×V)}{vs:List (κ×Value)}(r:KV kvs vs)(k:κ):RelO (valV kvs k) (valueAt vs k):=by
 unfold KV at r
 induction r with
 | nil=>exact BQ
 | @cons p q ps qs h t ih =>
   obtain⟨h1,h2⟩:=h
   by_cases e:p.1=k
   . have e':q.1=k:=h1.symm.trans e;have b:valueAt (q::qs) k=some q.2:=by simp[valueAt,AN,e']
     rw[zbS e,b];exact h2
   . have e':¬ q.1=k:=fun z=>e (h1.trans z);have b:valueAt (q::qs) k=valueAt qs k:=by simp[valueAt,AN,e']
     rw[zbT e,b];exact ih
end
theorem zge{P:Program}{w:World}{k:Key}{u:Value}(r:RelV (kV k) u):(zar P w).is k u=true:=by
 cases k with
 | inl i=>obtain⟨t,e⟩:=(show ∃ t,u=CF i t from r);subst e;exact zbI P w i t
 | inr x=>obtain⟨t,e⟩:=(show ∃ t,u=CG x t from r);subst e;exact zbH P w x t
theorem zby{P:Program}{w:World}:∀ {ks:List Key} {us:List Value},Vals (ks.map kV) us->ItemsAre (zar P w) ks us
 | [],_,r=>by rw[B2] at r;cases r;exact .nil
 | k::ks,_,r=>by
   rw[AG] at r
   cases r with
   | cons h t=>exact .cons (zge h) (zby t)
noncomputable abbrev KT (H:Hp):List (List Key×V)->List (List Key×Addr×Value)->Prop:=Paired fun p q=>p.1=q.1/\H q.2.1=some (.tup (p.1.map kV))/\RelV p.2 q.2.2
theorem KT.val{H:Hp}{kvs:List (List Key×V)}{xs:List (List Key×Addr×Value)}(r:KT H kvs xs)(k:List Key):RelO (valV kvs k) ((atKey xs k).map (·.2)):=by
 induction r with
 | nil=>exact BQ
 | @cons p q ps qs h t ih =>
   obtain⟨h1,_,h2⟩:=h
   by_cases e:p.1=k
   . have e':q.1=k:=h1.symm.trans e;have b:atKey (q::qs) k=some q.2:=by simp[atKey,AN,e']
     rw[zbS e,b];exact h2
   . have e':¬ q.1=k:=fun z=>e (h1.trans z);have b:atKey (q::qs) k=atKey qs k:=by simp[atKey,AN,e']
     rw[zbT e,b];exact ih
section
variable {P:Program} {w:World} {H:Hp} {h:Heap} {a:Addr}
theorem zf9{u:HO}(ok:HOk P w H h)(e:Rd H a u):zaV P w H h a u:=e.ok ok
theorem zfZ{kvs:List (Key×V)}(ok:HOk P w H h)(e:Rd H a (.dK kvs)):kvs.length<=sizeLine/\(a==sysModules)=false/\∃ vs,KV kvs vs/\h.DictOf (zar P w) a vs :=
 show zaV P w H h a (.dK kvs) from zf9 ok e
theorem zeM{ks:List Key}(ok:HOk P w H h)(e:H a=some (.tup (ks.map kV))):(tupleKind (zar P w)).is h ks a:=by
 obtain⟨_,its,r,o,h1,h2,_,n,h3⟩:=(show zaV P w H h a (.tup (ks.map kV)) from ok a _ e)
 exact⟨o,its.toArray,n,h1,h2,h3,by simpa using zby r⟩
theorem zfY{kvs:List (List Key×V)}(ok:HOk P w H h)(e:Rd H a (.dT kvs)):kvs.length<=sizeLine/\(a==sysModules)=false /\
   ∃ xs,KT H kvs xs/\h.DictOfH (tupleKind (zar P w)) a xs:=by
 obtain⟨z,y,xs,r,o,es,ep,h1,h2,h3,h4,h5⟩:=(show zaV P w H h a (.dT kvs) from zf9 ok e)
 refine⟨z,y,xs,r,o,es,ep,h1,h2,h3,h4,fun x hx=>?_,h5⟩;have all:∀ {l:List (List Key×V)} {m:List (List Key×Addr×Value)},KT H l m->∀ x∈m,(tupleKind (zar P w)).is h x.1 x.2.1:=by
   intro l m q
   induction q with
   | nil=>intro x hx;exact nomatch hx
   | @cons p q ps qs hq t ih =>
     intro x hx
     rcases List.mem_cons.mp hx with e | hx
     . subst e;exact zeM ok (by rw[<-hq.1];exact hq.2.1)
     . exact ih x hx
 exact all r x hx
end
def DGet(H:Hp)(a:Addr)(y:V)(r:Option V):Prop :=
 (∃ kvs k,Rd H a (.dK kvs)/\y=kV k/\r=valV kvs k)\/∃ kvs k b,Rd H a (.dT kvs)/\y=.ref b/\H b=some (.tup (k.map kV))/\r=valV kvs k
theorem DGet.k{H:Hp}{a:Addr}{kvs:List (Key×V)}{k:Key}(e:H a=some (.dK kvs)):DGet H a (kV k) (valV kvs k):=.inl ⟨kvs,k,.inl e,rfl,rfl⟩
theorem DGet.t{H:Hp}{a b:Addr}{kvs:List (List Key×V)}{k:List Key}(e:H a=some (.dT kvs))(eb:H b=some (.tup (k.map kV))):DGet H a (.ref b) (valV kvs k):=.inr ⟨kvs,k,b,.inl e,rfl,eb,rfl⟩
section
variable {X:Cx} {pins:List (Addr×Obj)} {σ:St} {H:Hp} {s:Shared} {a:Addr} {y v:V} {u r:Value} {o:Option V} {A:Around} {E:Value->Shared->Prop}
theorem zdc{Q:Value->Shared->Prop}(hu:A.units+1 < cLine)(I:Inv X pins σ H s)(g:DGet H a y (some v))(ry:RelV y u)(h:∀ w' s',Inv X pins σ H s'->RelV v w'->Q w' s') :
   wpAny (model X.prog X.w) A (getItem (.ref a) u) Q E s:=by
 rcases g with ⟨kvs,k,e,ey,l⟩ | ⟨kvs,k,b,e,ey,eb,l⟩
 . subst ey;obtain⟨z,hd,vs,rel,dd⟩:=zfZ I.hok e;obtain⟨w',hw,rw'⟩:=RelO.some_of (v:=v) (o:=valueAt vs k) (by rw[l];exact rel.val k);exact wpAny_getItem_of (zge ry) dd.mapOf hw (h w' _ (I.tok _) rw')
 . subst ey
   cases (show u=Ao b from ry)
   obtain⟨z,hd,xs,rel,dd⟩:=zfY I.hok e;obtain⟨w',hw,rw'⟩:=RelO.some_of (v:=v) (o:=(atKey xs k).map (·.2)) (by rw[l];exact rel.val k);obtain⟨p,hp,hp2⟩:=Option.map_eq_some_iff.mp hw;refine wpAny_getItem_heap (tupleKind_room_in1 hu) (zeM I.hok eb) dd hp ?_;rw[hp2];exact h w' _ (I.tok _) rw'
end
def NoSl(i:Expr):Prop:=∀ ov iv,subscripted i false ov iv=operate [ov,iv] (getItem ov iv)
theorem zea{prog:Program}{w:World}{A:Around}{E:Value->Shared->Prop}{s:Shared}{env:Env}{value slice:Expr}{pos:Pos}{T id:String}{Q:Value->Shared->Prop}
   (hl:typeLookup (.type T) "__getitem__"=pure (some (.builtin id))) (hs:NoSl slice)
   (h:wpAny (model prog w) A (eval value env) (fun o s₁=>wpAny (model prog w) A (eval slice env) (fun i s₂=>s₂.TypeIs o T/\wpAny (model prog w) A (getItem o i) Q E s₂) E s₁) E s) :
   wpAny (model prog w) A (eval (.Subscript value slice pos) env) Q E s:=by
 refine Subscript_ (AH h (fun o s₁ h₁=>AH h₁ (fun i s₂ h₂=>?_) fun _ _ x=>x) fun _ _ x=>x);obtain⟨hT,h₂⟩:=h₂;unfold subscriptTail;refine Ab ?_;rw[getitemInPython_of_ne hT.not_modules];refine Ab (wpAny_specialOf hT hl ?_);have fin:wpAny (model prog w) A (subscripted slice false o i) (fun r s₃=>wpAny (model prog w) A (letTemporaryGo value o r >>= fun _=>pure r) Q E s₃) E s₂:=by
   rw[hs o i];exact wpAny_operating (AH h₂ (fun r s₃ h₃=>Ab (wpAny_letTemporaryGo (Ac h₃))) fun _ _ x=>x)
 first
   | exact Ac (Ab fin)
   | exact Ab (Ac (Ab fin))
   | exact Ab fin
theorem zbM{X:Cx}{pins:List (Addr×Obj)}{σ:St}{H:Hp}{s:Shared}{a:Addr}{y:V}{o:Option V}(I:Inv X pins σ H s)(g:DGet H a y o):s.TypeIs (.ref a) "dict":=by
 rcases g with ⟨kvs,k,e,_,_⟩ | ⟨kvs,k,b,e,_,_,_⟩
 . obtain⟨_,_,vs,_,dd⟩:=zfZ I.hok e;exact dd.typeIs
 . obtain⟨_,_,xs,_,dd⟩:=zfY I.hok e;exact dd.typeIs
noncomputable def zgr(td ty:TE):TE:=fun σ H Q=>td σ H fun x H1=>ty σ H1 fun y H2=>∃ a v,x=.ref a/\DGet H2 a y (some v)/\Q v H2
section
variable {X:Cx} {o i e value:Expr} {pos pos' tpos:Pos} {td ty tv:TE}
theorem zey(hu:X.A.units+1 < cLine)(ho:PE X o td)(hi:PE X i ty)(hs:NoSl i):PE X (.Subscript o i pos) (zgr td ty):=by
 intro pins s σ H Q I h;refine zea PySem.F.slot_dict_getitem.lookup hs (thn (ho pins s σ H _ I h) fun u s1 ⟨x,H1,I1,rx,q1⟩=>thn (hi pins s1 σ H1 _ I1 q1) ?_);rintro iv s2 ⟨y,H2,I2,ry,a,v,ex,g,q2⟩;subst ex;obtain rfl:u=Ao a:=rx;exact⟨zbM I2 g,zdc hu I2 g ry fun w' s3 I3 rw'=>⟨v,H2,I3,rw',q2⟩⟩
end
def IsD(H:Hp)(a:Addr):Prop:=(∃ kvs,Rd H a (.dK kvs))\/∃ kvs,Rd H a (.dT kvs)
theorem zfQ{X:Cx}{pins:List (Addr×Obj)}{σ:St}{H:Hp}{s:Shared}{a:Addr}(I:Inv X pins σ H s)(d:IsD H a) :
   s.TypeIs (.ref a) "dict"/\(∀ b,Ao a=.ref b->∃ ob,s.heap.get? b=some ob/\ob.dict=none)/\(a==sysModules)=false:=by
 rcases d with ⟨kvs,e⟩ | ⟨kvs,e⟩
 . obtain⟨_,hd,vs,_,dd⟩:=zfZ I.hok e;refine⟨dd.typeIs,fun b q=>?_,hd⟩;cases q;obtain⟨ob,_,_,h1,h2,_⟩:=dd;exact⟨ob,h1,h2.2.1⟩
 . obtain⟨_,hd,xs,_,dd⟩:=zfY I.hok e;refine⟨dd.typeIs,fun b q=>?_,hd⟩;cases q;obtain⟨ob,_,_,h1,h2,_⟩:=dd;exact⟨ob,h1,h2.2.1⟩
end L2
namespace HT
open PySem PyProof.Rows
section
open PySem.SeqAt
open PySem.MeetsSeq PySem.MeetsSeq2 PySem.MeetsSeq3
end
section
variable {prog:Program} {w:World} {A:Around} {E:Value->Shared->Prop} {s:Shared}
theorem cat_tup{t b:Addr}{vs ws:List Value}{Q:Value->Shared->Prop}(ht:IsTup s.heap t vs.toArray)(hb:IsTup s.heap b ws.toArray)(hv:vs≠[])
   (h1:ws=[]->Q (.ref t) s) (h2:ws≠[]->Q (.ref s.heap.objs.size) { s with heap:=s.heap.push { cls:=.type "tuple",data:=.seq (vs++ws).toArray } })
   (hsz:vs.length+ws.length<=sizeLine):wpAny (model prog w) A (binaryOp .Add (.ref t) (.ref b)) Q E s:=by
 obtain⟨⟨cls,dd,data,sl⟩,ho,hc,n,hd⟩:=id ht;obtain⟨⟨cls2,dd2,data2,sl2⟩,ho2,hc2,n2,hd2⟩:=id hb;simp only at hc hd hc2 hd2;subst hc hd hc2 hd2;have e:vs.toArray++ws.toArray=(vs++ws).toArray:=by simp
 by_cases hw:ws=[]
 . exact concat_meets ⟨_,ho,rfl⟩ ⟨_,ho2,rfl⟩ noFill_tuple_add seq_tuple_add Ci B8 (B3 _ _)
     (tuple_addW1 t b vs.toArray ws.toArray n n2 dd dd2 sl sl2 (by simpa using hv) (by simp[hw])) ⟨ho,ho2,h1 hw⟩
 . refine concat_meets ⟨_,ho,rfl⟩ ⟨_,ho2,rfl⟩ noFill_tuple_add seq_tuple_add Ci B8 (B3 _ _)
     (tuple_addW2 t b vs.toArray ws.toArray n n2 dd dd2 sl sl2 (by simpa using hv) (by simpa using hw) (by rw[An,An];exact hsz)) ⟨ho,ho2,?_⟩
   rw[e];exact h2 hw
end
end HT
namespace L2
open PySem PySem.Spec PyProof.Rows
section
variable {X:Cx} {e:Expr} {te:TE} {lo hi:Option Expr} {tl th:TO} {pos p2:Pos}
noncomputable def zgx(K:Aa):R2:=fun x y H Q=>∃ a b xs ys,x=.ref a/\y=.ref b/\SqT K H a xs/\SqT K H b ys/\xs≠[]/\xs.length+ys.length<=sizeLine /\
 (ys=[]->Q (.ref a) H)/\(ys≠[]->∀ p,H p=none->Q (.ref p) (upd H p (.tup (xs++ys))))
theorem Vals.nil_iff{xs:List V}{us:List Value}(r:Vals xs us):us=[] ↔ xs=[]:=by
 cases r with
 | nil=>simp
 | cons _ _=>simp
theorem zeE:OpR X (binaryOp .Add) (zgx X.K):=by
 intro pins s σ H x y v u Q I rx ry h;obtain⟨a,b,xs,ys,rfl,rfl,ha,hb,hx,hz,q1,q2⟩:=h;cases rx;cases ry;obtain⟨its,r1,p1,_⟩:=I.tuple ha;obtain⟨its2,r2,p2,_⟩:=I.tuple hb;refine HT.cat_tup p1 p2 (fun z=>hx (r1.nil_iff.mp z)) (fun z=>⟨.ref a,H,I,rfl,q1 (r2.nil_iff.mp z)⟩) (fun z=>?_) (by rw[<-r1.length,<-r2.length];exact hz);refine⟨.ref s.heap.objs.size,_,I.laid (t':=s.toks) (o:=.tup (xs++ys)) (fun b ob q=>Af _ q) (Aj _) ?_,rfl,q2 (fun w=>z (r2.nil_iff.mpr w)) _ (I.hok.fresh (Aj _))⟩;exact⟨by rw[AK];exact hz,_,r1.append r2,zbQ.new _ _⟩
end
noncomputable def ixN(n:Nat)(i:Int):Option Nat:=if 0<=i then (if i < n then some i.toNat else none) else if -(n:Int)<=i then some (i+n).toNat else none
noncomputable def atI{α:Type}(xs:List α)(i:Int):Option α:=(ixN xs.length i).bind fun j=>xs[j]?
theorem zeP{n:Nat}{i:Int}{j:Nat}(h:ixN n i=some j):seqIndex? i n=some j/\j < n/\-(n:Int)<=i/\i < n:=by
 unfold ixN at h
 by_cases h0:0<=i
 . rw[if_pos h0] at h
   by_cases h1:i < n
   . rw[if_pos h1] at h;have e:i.toNat=j:=Ai h;exact⟨by rw[seqIndex_of h0 h1,e],by omega,by omega,h1⟩
   . rw[if_neg h1] at h;cases h
 . rw[if_neg h0] at h
   by_cases h1:-(n:Int)<=i
   . rw[if_pos h1] at h;have e:(i+n).toNat=j:=Ai h;exact⟨by rw[seqIndex_neg (by omega) h1,e],by omega,h1,by omega⟩
   . rw[if_neg h1] at h;cases h
theorem zcD{α:Type}{xs:List α}{i:Int}{v:α}(h:atI xs i=some v):∃ j,seqIndex? i xs.length=some j/\xs[j]?=some v/\j < xs.length/\-(xs.length:Int)<=i/\i < xs.length:=by
 unfold atI at h
 cases e:ixN xs.length i with
 | none=>rw[e] at h;cases h
 | some j =>
   rw[e] at h;obtain⟨h1,h2,h3,h4⟩:=zeP e;exact⟨j,h1,h,h2,h3,h4⟩
def zcF(b:Expr):Prop:=∀ o i,subscripted b false o i=operate [o,i] (getItem o i)
def IxR(X:Cx)(r:R2):Prop :=
 ∀ (value slice:Expr) (pins:List (Addr×Obj)) (s:Shared) (σ:St) (H:Hp) (x y:V) (v u:Value) (Q:VK),Inv X pins σ H s->RelV x v->RelV y u->r x y H Q ->
   subscripted slice false v u=operate [v,u] (getItem v u)->wpAny (model X.prog X.w) X.A (subscriptTail value slice v u) (EP X pins σ Q) X.xe s
section
variable {X:Cx} {a b:Expr} {ta tb:TE} {pos:Pos}
theorem zgA{r:R2}(hr:IxR X r)(ha:PE X a ta)(hb:PE X b tb)(hs:zcF b):PE X (.Subscript a b pos) (tOp r ta tb):=by
 intro pins s σ H Q I h;exact Subscript_ (binT ha hb I h fun v u s2 x y H2 I2 rx ry q=>hr a b pins s2 σ H2 x y v u Q I2 rx ry q (hs _ _))
noncomputable def rIxL(K:Aa):R2:=fun x y H Q=>∃ p xs i v,x=.ref p/\y=.int i/\SqL K H p xs/\atI xs i=some v/\Q v H
noncomputable def rIxT(K:Aa):R2:=fun x y H Q=>∃ p xs i v,x=.ref p/\y=.int i/\SqT K H p xs/\atI xs i=some v/\Q v H
noncomputable def rIxS:R2:=fun x y H Q=>∃ z i c,x=.str z/\y=.int i/\z.length<=sizeLine/\atI z.cps.toList i=some c/\Q (.str ⟨#[c]⟩) H
theorem zdr:IxR X (rIxL X.K):=by
 intro value slice pins s σ H x y v u Q I rx ry h hs;obtain⟨p,xs,i,z,rfl,rfl,hq,he,q⟩:=h;cases rx;obtain⟨t,rfl⟩:=ry;obtain⟨its,r,pl,hz⟩:=I.list hq;obtain⟨j,h1,h2,h3,h4,h5⟩:=zcD he;obtain⟨w,ew,rw'⟩:=r.get h2;have hl:=r.length;have hn:=zbL;have fin:EP X pins σ Q w s:=⟨z,H,I,rw',q⟩
 by_cases h0:0<=i
 . have hj:i.toNat=j:=by
     rw[seqIndex_of h0 h5] at h1;exact Ai h1
   exact item_listR pl.isList h0 (by omega) (by rw[hj];simpa using ew) fin hs
 . have hj:(i+(its.toArray.size:Int)).toNat=j:=by
     rw[seqIndex_neg (by omega) h4] at h1;rw[An,<-hl];exact Ai h1
   exact Cj (x:=w) pl.isList.typeIs slot_list_getitem.lookup
     (wpAny_getItem_list_neg (Q:=fun r s'=>r=w/\EP X pins σ Q r s') pl.isList (by omega) (by rw[An] <;> omega) (by omega) (by rw[hj];simpa using ew) ⟨rfl,fin⟩) hs
theorem zfN:IxR X (rIxT X.K):=by
 intro value slice pins s σ H x y v u Q I rx ry h hs;obtain⟨p,xs,i,z,rfl,rfl,hq,he,q⟩:=h;cases rx;obtain⟨t,rfl⟩:=ry;obtain⟨its,r,pl,hz⟩:=I.tuple hq;obtain⟨j,h1,h2,h3,h4,h5⟩:=zcD he;obtain⟨w,ew,rw'⟩:=r.get h2;have hl:=r.length;have hn:=zbL;have fin:EP X pins σ Q w s:=⟨z,H,I,rw',q⟩
 exact Cj (x:=w) pl.typeIs slot_tuple_getitem.lookup
   (getItem_tuple (j:=j) (Q:=fun r s'=>r=w/\EP X pins σ Q r s') pl (by omega) (by omega) (by rw[An,<-hl];exact h1) (by simpa using ew) ⟨rfl,fin⟩) hs
theorem zfO:IxR X rIxS:=by
 intro value slice pins s σ H x y v u Q I rx ry h hs;obtain⟨z,i,c,rfl,rfl,hz,he,q⟩:=h;obtain⟨t,rfl⟩:=rx;obtain⟨t',rfl⟩:=ry;obtain⟨j,h1,h2,h3,h4,h5⟩:=zcD he;have hl:z.cps.toList.length=z.length:=by simp[Str.length]
 rw[hl] at h1 h4 h5;have hn:=zbL;exact tail_any (typeIs_str s z t) slot_str_getitem.lookup (getItem_str (c:=c) (by
   have e1:decide (i < -(2 ^ 63:Int))=false:=decide_eq_false (by omega);have e2:decide (i ≥ 2 ^ 63)=false:=decide_eq_false (by omega);rw[e1,e2,Bool.or_false]) (by rw[h1];simpa using h2) ⟨.str ⟨#[c]⟩,H,I.tok _,⟨_,rfl⟩,q⟩) hs
theorem zaA:zdk X (.builtin "len") (fun xs H Q=>∃ p ys,xs=[.ref p]/\(SqL X.K H p ys\/SqT X.K H p ys)/\Q (.int ys.length) H):=by
 intro pins s σ H xs us Q I r h;obtain⟨p,ys,rfl,hq,q⟩:=h;obtain⟨u,rfl,rx⟩:=vals1 r;cases rx;have hn:=zbL
 rcases hq with hq | hq
 . obtain⟨its,r',pl,hz⟩:=I.list hq;have hlen:=r'.length;exact Calls.call_len_list pl.isList (by simp only[An] <;> omega) ⟨.int ys.length,H,I.tok _,⟨s.toks+1,by rw[An,hlen]⟩,q⟩
 . obtain⟨its,r',pl,hz⟩:=I.tuple hq;have hlen:=r'.length;exact len_tuple pl (by simp only[An] <;> omega) ⟨.int ys.length,H,I.tok _,⟨s.toks+1,by rw[An,hlen]⟩,q⟩
theorem zbm:zdk X (.builtin "len") (fun xs H Q=>∃ z,xs=[.str z]/\z.length<=sizeLine/\Q (.int z.length) H):=by
 intro pins s σ H xs us Q I r h;obtain⟨z,rfl,hz,q⟩:=h;obtain⟨u,rfl,t,rfl⟩:=vals1 r;have hn:=zbL;exact len_str (by omega) ⟨.int z.length,H,I.tok _,⟨_,rfl⟩,q⟩
theorem zaz:zdk X (.type "list") (fun xs H Q=>∃ p ys,xs=[.ref p]/\(SqL X.K H p ys\/SqT X.K H p ys)/\∀ l,H l=none->Q (.ref l) (upd H l (.lst ys))):=by
 intro pins s σ H xs us Q I r h;obtain⟨p,ys,rfl,hq,q⟩:=h;obtain⟨u,rfl,rx⟩:=vals1 r;cases rx;have fin:∀ (its:List Value),Vals ys its->ys.length<=sizeLine->∀ (h':Heap) (c':Nat),(∀ b o',s.heap.get? b=some o'->h'.get? b=some o') ->
     h'.get? s.heap.objs.size=some { cls:=.type "list",dict:=none,data:=.seq its.toArray c',slots:=#[] }->EP X pins σ Q (.ref s.heap.objs.size) { s with heap:=h' }:=fun its r' hz h' c' kp e =>
   ⟨.ref s.heap.objs.size,_,I.laid (t':=s.toks) kp (Aj _) (show zaV X.prog X.w _ h' _ (.lst ys) from ⟨hz,its,c',r',e⟩),rfl,q _ (I.hok.fresh (Aj _))⟩
 rcases hq with hq | hq
 . obtain⟨its,r',pl,hz⟩:=I.list hq;have hlen:=r'.length;obtain⟨o,ho,hc,n,hd⟩:=pl.isList;exact call_list_seq p (.inl rfl) ho hc hd (fun h' c' kp e=>fin its r' hz h' c' kp e) (by simp only[An] <;> omega)
 . obtain⟨its,r',pl,hz⟩:=I.tuple hq;have hlen:=r'.length;obtain⟨o,ho,hc,n,hd⟩:=pl;exact call_list_seq p (.inr rfl) ho hc hd (fun h' c' kp e=>fin its r' hz h' c' kp e) (by simp only[An] <;> omega)
variable {o e:Expr} {es:List Expr} {to:TE} {t:TA} {name:Str} {apos cpos:Pos} {T id:String} {r:V->List V->Hp->VK->Prop}
end
def MtM(X:Cx)(id:String)(r:V->List V->Hp->VK->Prop):Prop :=
 ∀ (pins:List (Addr×Obj)) (s:Shared) (σ:St) (H:Hp) (x:V) (xs:List V) (v:Value) (us:List Value) (Q:VK),Inv X pins σ H s->RelV x v->Vals xs us->r x xs H Q ->
   wpAny (model X.prog X.w) X.A (call (.builtin id) (v::us)) (EP X pins σ Q) X.xe s
theorem Vals.one:∀ {x:V} {us:List Value},Vals [x] us->∃ u,us=[u]/\RelV x u
 | _,_,.cons r .nil=>⟨_,rfl,r⟩
theorem Vals.two{x y:V}{us:List Value}(h:Vals [x,y] us):∃ u v,us=[u,v]/\RelV x u/\RelV y v:=by
 cases h with
 | cons r t =>
   cases t with
   | cons q t =>
     cases t;exact⟨_,_,rfl,r,q⟩
section
variable {X:Cx} {pins:List (Addr×Obj)} {σ:St} {H:Hp} {s:Shared} {l b:Addr} {xs ys zs:List V}
theorem Inv.lset{its its':List Value}{n:Nat}{f:Array Value->Array Value}{t':Nat}(I:Inv X pins σ H s)(hH:H l=some (.lst xs))
   (e:s.heap.get? l=some { cls:=.type "list",data:=.seq its.toArray n }) (hf:f its.toArray=its'.toArray) (hv:Vals ys its') (hz:ys.length<=sizeLine) :
   Inv X pins σ (upd H l (.lst ys)) { s with heap:=s.heap.update l (Obj.mapSeq f),toks:=t' }:=by
 have q:=PySem.IsL.update e f;rw[hf] at q;refine I.write (x:=l) (e:=l) (by rw[hH];exact trivial) (.inl rfl) (fun b' u hb hu=>(Bp s.heap (Obj.mapSeq f) (BD hb)).trans hu) ⟨_,q⟩ ?_;exact⟨hz,its',_,hv,q⟩
theorem Inv.lnew{its:List Value}{t':Nat}(I:Inv X pins σ H s)(hv:Vals ys its)(hz:ys.length<=sizeLine) :
   Inv X pins σ (upd H s.heap.objs.size (.lst ys)) { s with heap:=s.heap.push { cls:=.type "list",data:=.seq its.toArray },toks:=t' } :=
 I.laid (fun _ _ q=>Af _ q) (Aj _) ⟨hz,its,0,hv,Aw _ rfl⟩
theorem Inv.fresh(I:Inv X pins σ H s):H s.heap.objs.size=none:=I.hok.fresh (Aj _)
theorem Inv.lstM(I:Inv X pins σ H s)(hH:H l=some (.lst xs)):xs.length<=sizeLine/\∃ (its:List Value) (n:Nat),Vals xs its/\xs.length=its.length/\s.heap.get? l=some { cls:=.type "list",data:=.seq its.toArray n }:=by
 obtain⟨z,its,n,r,e⟩:=I.hok l _ hH;exact⟨z,its,n,r,r.length,e⟩
end
section
variable {X:Cx}
noncomputable def zeq:V->List V->Hp->VK->Prop:=fun x vs H Q=>∃ l xs y,x=.ref l/\vs=[y]/\H l=some (.lst xs)/\xs.length < sizeLine/\Q .non (upd H l (.lst (xs++[y])))
theorem zcW:MtM X "list.append" zeq:=by
 intro pins s σ H x vs v us Q I rx rv h;obtain⟨l,xs,y,rfl,rfl,hH,hz,q⟩:=h;cases rx;obtain⟨u,rfl,ru⟩:=rv.one;obtain⟨z,its,n,r,hl,e⟩:=I.lstM hH;refine call_meets F.slot_list_append ⟨_,e,rfl⟩ F.entry_list_append (F.args_list_append_2 _ _) (PySem.list_append l its.toArray n u (by rw[An];omega)) ⟨e,?_⟩;refine⟨.non,_,I.lset (its':=its++[u]) hH e (by simp) (r.append (.cons ru .nil)) ?_,rfl,q⟩;rw[AK,Bs];omega
noncomputable def rCat:R2:=fun x y H Q=>∃ l b xs zs,x=.ref l/\y=.ref b/\H l=some (.lst xs)/\H b=some (.lst zs)/\xs.length+zs.length<=sizeLine/\∀ p,H p=none->Q (.ref p) (upd H p (.lst (xs++zs)))
theorem zfC:OpR X (binaryOp .Add) rCat:=by
 intro pins s σ H x y v u Q I rx ry h;obtain⟨l,b,xs,zs,rfl,rfl,hH,hB,hz,q⟩:=h;cases rx;cases ry;obtain⟨z,its,n,r,hl,e⟩:=I.lstM hH;obtain⟨z2,its2,n2,r2,hl2,e2⟩:=I.lstM hB;refine PySem.P.add_list e e2 ?_ (by rw[An,An];omega);have ea:its.toArray++its2.toArray=(its++its2).toArray:=by simp
 rw[ea];exact⟨.ref _,_,I.lnew (t':=s.toks) (r.append r2) (by rw[AK];omega),rfl,q _ I.fresh⟩
end
section
variable {prog:Program} {w:World} {A:Around} {E:Value->Shared->Prop} {s:Shared}
set_option maxRecDepth 100000 in
end
end L2
namespace Att
open PySem PySem.W PySem.Calls PyProof.Rows
theorem zaT{P:Params}{h:Heap}:∀ (ns:List Int) (vs:List Value),WellAll P h vs (ns.map WData.int)->IntsAre vs ns:=by
 intro ns
 induction ns with
 | nil =>
   intro vs w;rw[B2] at w;cases w;exact .nil
 | cons n ns ih =>
   intro vs w;rw[AG] at w
   cases w with
   | cons a b =>
     cases a;exact .cons _ _ (ih _ b)
theorem zcN{l:OpenLaw}{n:Nat}(hn:l.most=some n){P:Params}{h:Heap}{args:List WData}{vals:List Value}
   (hpre:l.row.toRowW.claim.pre args=true) (hwl:WellAll P h vals args) :
   ∃ a vs ns,vals=[Ao a]/\args=[WData.list (ns.map WData.int)]/\h.get? a=some { cls:=.type "list",data:=.seq vs.toArray }/\IntsAre vs ns/\ns.length<=n:=by
 have hsh:WShape.hasAll [] args [.list .int]=true:=(pre_splitW hpre).1;have hc:l.pre.holds [] { args:=args }=true:=(pre_splitW hpre).2;obtain⟨d,r,rfl,h1,h2⟩:=hasAllW_cons hsh;obtain rfl:=hasAllW_nil h2;obtain⟨xs,rfl,h3⟩:=hasW_list h1;obtain⟨ns,rfl⟩:=items_int h3;have hlen:ns.length<=n:=by
   unfold OpenLaw.pre at hc;have h4:(WTm.not (.lt (.lit (.int (n:Int))) (.len (.arg 0)))).holds [] { args:=[.list (ns.map .int)] }=true:=by
     have h4:=(holds_andW hc).1;rw[hn] at h4;exact h4
   have h5:=condW_of h4 (w_not (w_lt w_lit (w_len_list (w_arg rfl))));rw[AM] at h5;refine Nat.le_of_not_lt fun q=>?_;have q':(n:Int) < ((ns.length:Nat):Int):=by omega
   first
     | (rw[decide_eq_true q'] at h5;exact absurd h5 (by decide))
     | (simp at h5;omega)
 cases hwl with
 | cons w1 w2 =>
   cases w2
   cases w1 with
   | list ho hall=>exact⟨_,_,ns,rfl,rfl,ho,zaT ns _ hall,hlen⟩
theorem zcQ(l:OpenLaw)(args:List WData):l.row.toRowW.claim.post args (.bool true) args=true :=
 postW_of (r:=l.row.toRowW) (X:=(true==true))
   (show WShape.has [] (.bool true) .bool=true by first | rfl | decide | simp[WShape.has,WShape.arms,WShape.armsAll])
   (show (WTm.eq .res (.lit (.bool true))).value [] { args:=args,res:=some (.bool true),after:=args }=some (.bool (true==true)) from w_eq_bool (w_res rfl) w_lit) rfl
theorem attach_call{l:OpenLaw}{n:Nat}{q:Program}{loose:List Str}{XP:(Str->Option Value)->Heap->Prop}{YP:World->Heap->Prop}{d:DefRec}
   (hn:l.most=some n) (hdf:d.params.defaults=[])
   (call:∀ (w:World) (s₀ s₁:Shared) (mg mb:Str->Option Value) (fa:Addr) (o:Obj) (pm cd doc:Value) (a:Addr) (vs:List Value) (ns:List Int),
     Ground q loose [] XP w s₀ mg mb s₁.heap->YP w s₁.heap ->
     s₁.heap.get? fa=some o->o.data=.func (docDef d.name d.params d.body d.scope pm cd doc)->s₁.heap.CodeRec cd d.name->mg d.name=some (.ref fa) ->
     s₁.heap.get? a=some { cls:=.type "list",data:=.seq vs.toArray }->IntsAre vs ns->ns.length<=n->s₁.gens=#[] ->
     codeAny (model l.prog w) callerA (.call (.ref fa) ⟨[.ref a],[]⟩) (fun r s'=>r=.ok (.ret (.bool true))/\OldK s₁.heap s'.heap/\s'.os=s₁.os/\AllBare s'.gens) s₁) :
   WalkO q loose XP YP l.row.toRowW d [] (fun f vs=>C0 f vs):=by
 intro w s₀ s₁ mg mb G Y fa o pm cd doc dV kV ho hd hcd hD hmg hg args vals as hpre hlay hrd hwl hlo;obtain rfl:dV=.none:=Dflts.none hD hdf;obtain rfl:kV=.none:=Dflts.noKw hD;obtain⟨a,vs,ns,rfl,rfl,hobj,hints,hlen⟩:=zcN hn hpre hwl;refine enter_call (B1 (call w s₀ s₁ mg mb fa o pm cd doc a vs ns G Y ho (fd_plain hd) hcd hmg hobj hints hlen hg) fun r s' hq=>?_);obtain⟨rfl,h2,h3,h4⟩:=hq;exact⟨.inl ⟨.bool true,.bool true,[],rfl,fun _=>rfl,.bool true,zcQ l _,fun _=>⟨CM,fun _ hm=>(nomatch hm)⟩⟩,h2,h3,h4⟩
end Att
namespace L2
open PySem PySem.Spec PyProof.Rows
theorem zbn:∀ {vs:List Value} {ns:List Int},IntsAre vs ns->Vals (ns.map V.int) vs
 | _,_,.nil=>.nil
 | _,_,.cons n t h=>.cons ⟨t,rfl⟩ (zbn h)
def Only(H:Hp):Prop:=∀ b,H b=none\/∃ o xs,H b=some (.frz o (.lst xs))
theorem zdP{P:Program}{w:World}{K:Aa}{mg mb:Str->Option Value}{CX:CXT}{k:Nat}{fa a:Addr}{fd:FuncData}{x:Str}{sp:Sp}{s₁:Shared}{vs:List Value}{ns:List Int}
   (KX:K.In s₁.heap) (hns:s₁.heap.Ns mainGlobals mg) (hb:s₁.heap.Ns builtinsNs mb) (hbb:∀ x:Str,x≠"__name__"->mb x=bootBuiltins x) (hlim:s₁.heap.NoLimit) (hg:s₁.gens=#[])
   (ha:s₁.heap.get? a=some { cls:=.type "list",data:=.seq vs.toArray }) (hi:IntsAre vs ns) (hl:ns.length<=sizeLine) (hr:Room k callerA)
   (F:∀ base:Heap,K.In base->base.Ns mainGlobals mg->FnOk P w K mg base CX k fa fd [x] sp) (hbind:∀ (s:Shared) (u:Value),BindsTo s fd ⟨[u],[]⟩ [(x,u)])
   (hsp:∀ H:Hp,Only H->SqL K H a (ns.map V.int)->sp [.ref a] H (fun v _=>v=.bl true) fun _ _ _=>False)
   (hCX:∀ H e s',CX [] H s₁ (fun _ _ _=>False) e s'->False) :
   codeAny (model P w) callerA (.call (.ref fa) ⟨[.ref a],[]⟩) (fun r s'=>r=.ok (.ret (.bool true))/\OldK s₁.heap s'.heap/\s'.os=s₁.os/\AllBare s'.gens) s₁:=by
 have rv:=zbn hi;have lenV:=hi.length
 -- from an abstract heap in which nothing but the script may be tracked
 have core:∀ H:Hp,Only H->SqL K H a (ns.map V.int)->HOk P w H s₁.heap->(∀ b,H b≠none->b=a)->(H a≠none->K.lookup a=none) ->
     codeAny (model P w) callerA (.call (.ref fa) ⟨[.ref a],[]⟩) (fun r s'=>r=.ok (.ret (.bool true))/\OldK s₁.heap s'.heap/\s'.os=s₁.os/\AllBare s'.gens) s₁:=by
   intro H hO hS hok hA hK;have base_of:∀ {b:Addr} {o:Obj},s₁.heap.get? b=some o->H b=none->(hidT s₁.heap H).get? b=some o:=fun e n=>zdR e n;have noA:∀ {b:Addr} {o:Obj} {es:Array DictEntry} {ep:Nat},s₁.heap.get? b=some o->o.data=.dict es ep->H b=none:=fun {b o es ep} e d=>by
     cases q:H b with
     | none=>rfl
     | some u =>
       have e':b=a:=hA b (by rw[q];simp);subst e';rw[ha] at e;cases e;have d':Data.seq vs.toArray _=Data.dict es ep:=d;cases d'
   have nsK:∀ {b:Addr} {m:Str->Option Value},s₁.heap.Ns b m->(hidT s₁.heap H).Ns b m:=fun {b m} ⟨o,es,ep,e,d,r⟩=>⟨o,es,ep,base_of e (noA e d),d,r⟩
   have hKb:K.In (hidT s₁.heap H):=fun b o e=>base_of (KX b o e) (by
     cases q:H b with
     | none=>rfl
     | some u =>
       have e':b=a:=hA b (by rw[q];simp);subst e';rw[hK (by rw[q];simp)] at e;cases e)
   have hM:Mod K mg (hidT s₁.heap H):=⟨hKb,nsK hns,⟨mb,nsK hb,hbb⟩,let ⟨mc,h1,h2⟩:=hlim;⟨mc,nsK h1,h2⟩⟩
   have e0:Env0 P w K mg (hidT s₁.heap H) callerA [] s₁ H:=⟨rfl,hM,fun b o e=>zeF e,Nat.le_of_eq (zc7 _ _),trivial,fun b hb=>absurd (show b∈([]:List Addr) from hb) (by simp),hok,.of_eq hg⟩
   refine B1 ((F _ hKb (nsK hns)).run callerA [] s₁ H ⟨[.ref a],[]⟩ [.ref a] [.ref a] _ _ hr e0 (hbind s₁ (.ref a)) (.cons rfl .nil) (hsp H hO hS)) fun r s' h=>?_
   cases r with
   | error e=>exact (hCX H e s' h).elim
   | ok fl =>
     cases fl with
     | next=>exact False.elim h
     | brk=>exact False.elim h
     | cont=>exact False.elim h
     | ret u =>
       obtain⟨v,H',os,bare,un,hok',r',q⟩:=h;have q':v=.bl true:=q;subst q';obtain rfl:u=Value.bool true:=r';refine⟨rfl,OldK.of_keep fun b o e=>?_,os,bare⟩
       cases q:H b with
       | none=>exact un.keep b o e q (by intro z;exact absurd (show b∈([]:List Addr) from z) (by simp)) (by simp)
       | some u =>
         rcases hO b with z | ⟨ob,xs,z⟩
         . rw[q] at z;cases z
         . have z2:=un.frzs b ob _ z;obtain⟨e1,_⟩:=hok b _ z;obtain⟨e2,_⟩:=hok' b _ z2;rw[e] at e1;cases e1;exact e2
 cases hk:K.lookup a with
 | some o =>
   -- the script is one of the module's own objects
   have e:=KX a o hk;rw[ha] at e;cases e;refine core (fun _=>none) (fun _=>.inl rfl) (.inr ⟨_,vs.toArray,_,hk,rfl,rfl,rfl,by rw[An,lenV];exact hl,by simpa using rv⟩) (fun b u z=>by have z':(none:Option HO)=some u:=z;cases z') (fun b z=>absurd rfl z) fun z=>absurd rfl z
 | none =>
   refine core (fun b=>if b=a then some (.frz { cls:=.type "list",data:=.seq vs.toArray } (.lst (ns.map V.int))) else none) (fun b=>?_) (.inl (.inr ⟨{ cls:=.type "list",data:=.seq vs.toArray },if_pos rfl⟩)) (fun b u z=>?_) (fun b z=>?_) fun _=>hk
   . by_cases hb:b=a
     . exact .inr ⟨_,_,if_pos hb⟩
     . exact .inl (if_neg hb)
   . by_cases hb:b=a
     . have z':=(if_pos hb).symm.trans z;cases z';subst hb;exact⟨ha,by rw[AM];exact hl,vs,_,rv,ha⟩
     . have z':=(if_neg hb).symm.trans z;cases z'
   . by_cases hb:b=a
     . exact hb
     . exact absurd (if_neg hb) z
theorem walk_of{l:PySem.W.OpenLaw}{n k:Nat}{q:Program}{loose:List Str}{XP:(Str->Option Value)->Heap->Prop}{YP:World->Heap->Prop}{d:DefRec}{K:Params->Aa}{CX:World->CXT}{sp:World->Sp}{x:Str}
   (hn:l.most=some n) (hn2:n<=sizeLine) (hdf:d.params.defaults=[]) (hr:Room k callerA)
   (hY:∀ (w:World) (h:Heap),YP w h->(K w.params).In h)
   (F:∀ (w:World) (mg:Str->Option Value) (fa:Addr) (h:Heap),(K w.params).In h->h.Ns mainGlobals mg->mg d.name=some (.ref fa) ->
     ∃ fd:FuncData,(∀ (s:Shared) (u:Value),BindsTo s fd ⟨[u],[]⟩ [(x,u)]) /\
       ∀ base:Heap,(K w.params).In base->base.Ns mainGlobals mg->FnOk l.prog w (K w.params) mg base (CX w) k fa fd [x] (sp w))
   (hsp:∀ (w:World) (H:Hp) (a:Addr) (ns:List Int),ns.length<=n->Only H->SqL (K w.params) H a (ns.map V.int)->sp w [.ref a] H (fun v _=>v=.bl true) fun _ _ _=>False)
   (hCX:∀ (w:World) (H:Hp) (s:Shared) (e:Value) (s':Shared),CX w [] H s (fun _ _ _=>False) e s'->False) :
   PySem.W.WalkO q loose XP YP l.row.toRowW d [] (fun f vs=>C0 f vs):=by
 refine Att.attach_call hn hdf fun w s₀ s₁ mg mb fa o pm cd doc a vs ns G Y ho hd hcd hmg hobj hints hlen hg=>?_;have KX:=hY w _ Y;obtain⟨fd,hb,hF⟩:=F w mg fa _ KX G.T.g hmg;exact zdP KX G.T.g G.T.b G.T.builtins G.T.nolimit hg hobj hints (AE hlen hn2) hr hF hb (fun H hO hS=>hsp w H a ns hlen hO hS) fun H e s'=>hCX w H s₁ e s'
noncomputable def inClass(s:Stmt)(j:Nat):Stmt:=match s with
 | .ClassDef _ _ _ body _ _ _ _ _ _ _=>body.getD j (.Pass ⟨0,0,0,0⟩)
 | _=>.Pass ⟨0,0,0,0⟩
noncomputable def zax(s:Stmt):Arguments:=match s with
 | .FunctionDef _ a _ _ _ _ _ _ _ _=>a
 | _=>{ posonlyargs:=[],args:=[],vararg:=none,kwonlyargs:=[],kw_defaults:=[],kwarg:=none,defaults:=[] }
noncomputable def zap(s:Stmt):List Stmt:=match s with
 | .FunctionDef _ _ b _ _ _ _ _ _ _=>b
 | _=>[]
noncomputable def zad(s:Stmt):Scope:=match s with
 | .FunctionDef _ _ _ _ _ _ sc _ _ _=>sc
 | _=>{ kind:=.function,names:=[],isGenerator:=false,isCoroutine:=false }
noncomputable abbrev CX0:CXT:=fun _ _ _ _ _ _=>False
noncomputable abbrev E0:XK:=fun _ _ _=>False
theorem zgC{X:Cx}:Passes CX0 X E0:=fun _ _ _ _ _ _ _ h=>h.elim
structure Fun(K:Aa)(x qual:Str)(st:Stmt)(f:Addr)(fd:FuncData):Prop where
 ex:∃ (oc:Value) (od:Option Addr) (kV doc pm:Value) (an:Option Addr) (cdv ct:Value) (osl:Array (Option Value)),
   fd=AS x qual (zax st) (zap st) (zad st) .none kV doc pm an cdv ct/\K.lookup f=some ⟨oc,od,.func fd,osl⟩/\Bo K cdv qual=true
 kp:AQ K (.ref f)=true
section
variable {P:Program} {w:World} {K:Aa} {mg:Str->Option Value} {base:Heap}
theorem Fun.ok{x qual:Str}{st:Stmt}{f:Addr}{fd:FuncData}{N ps:List Str}{k:Nat}{sp:Sp}(F:Fun K x qual st f fd)(S:FnScope N ps (zad st))(len:∀ vs H Q E,sp vs H Q E->vs.length=ps.length)
   (hbody:∀ (cdv:Value) (A:Around) (outer:List Env) (s:Shared) (H:Hp) (vs:List V) (Q:VK) (E:XK),Room k (A.deeper (envOfC qual (zad st) s.heap.objs.size f cdv))->sp vs H Q E ->
     ∃ t,PSs (cxOf CX0 P w K mg base N qual (zad st) f cdv A outer s H E).nox (zap st) t/\t { nx:=fun _ H'=>Q .non H',rt:=Q } (start N vs) H):FnOk P w K mg base CX0 (k+1) f fd ps sp:=by
 obtain⟨oc,od,kV,doc,pm,an,cdv,ct,osl,rfl,lk,hcd⟩:=F.ex;refine zgH lk hcd S len fun A outer s H vs Q E hr hsp=>?_;obtain⟨t,h,q⟩:=hbody cdv A outer s H vs Q E hr hsp;exact⟨t,h.nox,q⟩
theorem Fun.binds{x qual:Str}{st:Stmt}{f:Addr}{fd:FuncData}{ps:List Str}(F:Fun K x qual st f fd)
   (h:∀ (kV doc pm:Value) (an:Option Addr) (cdv ct:Value) (us:List Value),us.length=ps.length->bindArgs (AS x qual (zax st) (zap st) (zad st) .none kV doc pm an cdv ct) ⟨us,[]⟩=pure (ps.zip us)):Binds K fd ps []:=by
 obtain⟨oc,od,kV,doc,pm,an,cdv,ct,osl,rfl,lk,hcd⟩:=F.ex;exact .all (h kV doc pm an cdv ct)
theorem zc8{x qual:Str}{st:Stmt}{f:Addr}{oc:Value}{od an:Option Addr}{osl:Array (Option Value)}{kV doc pm cdv ct:Value}(l:K.lookup f=some ⟨oc,od,.func (AS x qual (zax st) (zap st) (zad st) .none kV doc pm an cdv ct),osl⟩)
   (c:Bo K cdv qual=true) (k:AQ K (.ref f)=true):Fun K x qual st f (AS x qual (zax st) (zap st) (zad st) .none kV doc pm an cdv ct):=⟨⟨oc,od,kV,doc,pm,an,cdv,ct,osl,rfl,l,c⟩,k⟩
end
theorem zfd{A:Around}{k:Nat}(hr:Room k A):A.units+1 < cLine:=BH (Cz (by decide:1<=64) _) hr.units
theorem zcK{n:Nat}(h:n<=1000):n < sizeLine:=BH h (by decide)
section
variable {X:Cx}
theorem pv(i:Nat){x:Str}{pos:Pos}(hN:X.N[i]?=some x:=by rfl)(hv:Vis X.env.scope x:=by first | exact Co rfl | exact BI (Co rfl) | exact BI (BI rfl))(hd:(x==("__debug__":Str))=false:=by decide)
   (hcd:(x==("__classdict__":Str))=false:=by decide):PE X (.Name x pos) (tVar i):=zew hN hv hd hcd
end
end L2
namespace L2.MP
open PySem PySem.Spec PyProof.Rows
inductive D where
 | non | bl (b:Bool) | int (i:Int) | str (x:Str) | tup (xs:List D) | ref (n:Nat) | kl (xs:List D) | fn (x:Str) | er (b:Bool) (c:Str) (f:Option (Str×Int))
inductive O where
 | lst (xs:List D) | fz (xs:List D) | dk (kvs:List (Key×D)) | dt (kvs:List (List Key×D)) | fk (kvs:List (Key×D)) | ft (kvs:List (List Key×D)) | ob (C:Addr) (fs:List (Str×D)) | sz (n:Nat) | dz
noncomputable abbrev Sto:=List O
noncomputable abbrev Rho:=List (Option D)
structure Kp(H H':Hp):Prop where
 tup:∀ a xs,H a=some (.tup xs)->H' a=some (.tup xs)
 frz:∀ a o u,H a=some (.frz o u)->H' a=some (.frz o u)
def SqF(K:Aa)(H:Hp)(a:Addr)(xs:List V):Prop :=
 (∃ o,H a=some (.frz o (.lst xs)))\/∃ (o:Obj) (its:Array Value) (n:Nat),K.lookup a=some o/\o.cls=.type "list"/\o.dict=none/\o.data=.seq its n/\its.size<=sizeLine/\Vals xs its.toList
theorem SqF.sq{K:Aa}{H:Hp}{a:Addr}{xs:List V}(h:SqF K H a xs):SqL K H a xs:=by
 rcases h with h | h
 . exact .inl (.inr h)
 . exact .inr h
theorem SqF.kp{K:Aa}{H H':Hp}{a:Addr}{xs:List V}(T:Kp H H')(h:SqF K H a xs):SqF K H' a xs:=by
 rcases h with ⟨o,h⟩ | h
 . exact .inl ⟨o,T.frz _ _ _ h⟩
 . exact .inr h
def FnA(K:Aa)(x:Str)(a:Addr):Prop:=CJ K mainGlobals x=some (some (.ref a))
def ErZ(C a:Addr)(od:Option Addr)(h:Heap):Prop:=∃ o fs,h.get? a=some o/\o.cls=.ref C/\o.dict=od/\o.data=.fields fs
noncomputable def ErR(K:Aa)(H:Hp)(v:V)(c:Str):Option (Str×Int)->Prop
 | none=>∃ a C o,v=.ref a/\FnA K c C/\H a=some (.frz o (.ext (ErZ C a none)))
 | some (f,n)=>∃ a C o dx o',v=.ref a/\FnA K c C/\H a=some (.frz o (.ext (ErZ C a (some dx))))/\H dx=some (.frz o' (.xd [(f,.int n)]))
theorem ErR.kp{K:Aa}{H H':Hp}{v:V}{c:Str}{f:Option (Str×Int)}(T:∀ a o u,H a=some (.frz o u)->(∀ ps,u≠.dT ps)->H' a=some (.frz o u))(h:ErR K H v c f):ErR K H' v c f:=by
 cases f with
 | none =>
   obtain⟨a,C,o,e,q,r⟩:=h;exact⟨a,C,o,e,q,T _ _ _ r (by simp)⟩
 | some p =>
   obtain⟨a,C,o,dx,o',e,q,r,z⟩:=h;exact⟨a,C,o,dx,o',e,q,T _ _ _ r (by simp),T _ _ _ z (by simp)⟩
mutual
noncomputable def Rep(K:Aa)(H:Hp)(io:List Addr):V->D->Prop
 | v,.non=>v=.non
 | v,.bl b=>v=.bl b
 | v,.int i=>v=.int i
 | v,.str x=>v=.str x
 | v,.tup ds=>∃ a xs,v=.ref a/\H a=some (.tup xs)/\Reps K H io xs ds
 | v,.ref n=>∃ a,v=.ref a/\io[n]?=some a
 | v,.kl ds=>∃ a xs,v=.ref a/\SqF K H a xs/\Reps K H io xs ds
 | v,.fn x=>∃ a,v=.ref a/\FnA K x a
 | v,.er b c f=>b=true/\ErR K H v c f
noncomputable def Reps(K:Aa)(H:Hp)(io:List Addr):List V->List D->Prop
 | xs,[]=>xs=[]
 | xs,d::ds=>∃ y ys,xs=y::ys/\Rep K H io y d/\Reps K H io ys ds
end
mutual
theorem Rep.mono{K:Aa}{H H':Hp}{io ka:List Addr}(T:Kp H H'):∀ {v:V} {d:D},Rep K H io v d->Rep K H' (io++ka) v d
 | _,.non,h=>h
 | _,.bl _,h=>h
 | _,.int _,h=>h
 | _,.str _,h=>h
 | _,.tup ds,h=>by
   obtain⟨a,xs,e,q,r⟩:=h;exact⟨a,xs,e,T.tup a xs q,Reps.mono T r⟩
 | _,.ref n,h=>by
   obtain⟨a,e,q⟩:=h;exact⟨a,e,by rw[Ah (List.getElem?_eq_some_iff.mp q).1];exact q⟩
 | _,.kl ds,h=>by
   obtain⟨a,xs,e,q,r⟩:=h;exact⟨a,xs,e,q.kp T,Reps.mono T r⟩
 | _,.fn _,h=>h
 | _,.er _ _ _,h=>⟨h.1,h.2.kp fun a o u q _=>T.frz a o u q⟩
theorem Reps.mono{K:Aa}{H H':Hp}{io ka:List Addr}(T:Kp H H'):∀ {xs:List V} {ds:List D},Reps K H io xs ds->Reps K H' (io++ka) xs ds
 | _,[],h=>h
 | _,d::ds,h=>by
   obtain⟨y,ys,e,r,rs⟩:=h;exact⟨y,ys,e,Rep.mono T r,Reps.mono T rs⟩
end
section
variable {K:Aa} {H H' H1 H2:Hp} {io ka kb:List Addr} {st st':Sto} {xs ys:List V} {ds es:List D}
theorem Reps.length:∀ {xs:List V} {ds:List D},Reps K H io xs ds->xs.length=ds.length
 | _,[],h=>by rw[show _=[] from h];rfl
 | _,d::ds,h=>by
   obtain⟨y,ys,e,_,rs⟩:=h;rw[e,Br,Br,Reps.length rs]
theorem Reps.get:∀ {xs:List V} {ds:List D} {i:Nat} {d:D},Reps K H io xs ds->ds[i]?=some d->∃ v,xs[i]?=some v/\Rep K H io v d
 | _,[],_,_,_,e=>by simp at e
 | _,a::ds,0,d,h,e=>by
   obtain⟨y,ys,rfl,r,_⟩:=h;have e':a=d:=by simpa using e
   subst e';exact⟨y,rfl,r⟩
 | _,a::ds,i+1,d,h,e=>by
   obtain⟨y,ys,rfl,_,rs⟩:=h;exact Reps.get (i:=i) rs (by simpa using e)
theorem Reps.append:∀ {xs ys:List V} {ds es:List D},Reps K H io xs ds->Reps K H io ys es->Reps K H io (xs++ys) (ds++es)
 | _,_,[],_,h,q=>by rw[show _=[] from h];exact q
 | _,_,d::ds,_,h,q=>by
   obtain⟨y,ys,rfl,r,rs⟩:=h;exact⟨y,_,rfl,r,Reps.append rs q⟩
theorem Reps.nil:Reps K H io [] []:=rfl
theorem Reps.cons{v:V}{d:D}(r:Rep K H io v d)(rs:Reps K H io xs ds):Reps K H io (v::xs) (d::ds):=⟨v,xs,rfl,r,rs⟩
theorem Reps.one{d:D}(r:Reps K H io xs [d]):∃ v,xs=[v]/\Rep K H io v d:=by
 obtain⟨y,ys,rfl,r,e⟩:=r
 cases (show ys=[] from e)
 exact⟨y,rfl,r⟩
theorem Reps.two{d e:D}(r:Reps K H io xs [d,e]):∃ v u,xs=[v,u]/\Rep K H io v d/\Rep K H io u e:=by
 obtain⟨y,ys,rfl,r,q⟩:=r;obtain⟨v,rfl,q'⟩:=q.one;exact⟨y,v,rfl,r,q'⟩
noncomputable abbrev KR (κ:Type) (K:Aa) (H:Hp) (io:List Addr):List (κ×V)->List (κ×D)->Prop:=Paired fun (p:κ×V) (q:κ×D)=>p.1=q.1/\Rep K H io p.2 q.2
def SetZ(a:Addr)(n:Nat)(h:Heap):Prop:=∃ o es ep t,h.get? a=some o/\o.ExactSet/\o.data=.set es ep t/\es.size < scanBound/\t.fits es.size=true/\es.size=n
def DzZ(a:Addr)(h:Heap):Prop:=∃ o es ep,h.get? a=some o/\o.ExactDict/\o.data=.dict es ep
noncomputable def OR(K:Aa)(H:Hp)(io:List Addr)(a:Addr):O->Prop
 | .lst ds=>∃ xs,H a=some (.lst xs)/\Reps K H io xs ds
 | .fz ds=>∃ o xs,H a=some (.frz o (.lst xs))/\Reps K H io xs ds
 | .dk kvs=>∃ ps,H a=some (.dK ps)/\KR Key K H io ps kvs
 | .dt kvs=>∃ ps,H a=some (.dT ps)/\KR (List Key) K H io ps kvs
 | .fk kvs=>∃ o ps,H a=some (.frz o (.dK ps))/\KR Key K H io ps kvs
 | .ft kvs=>∃ o ps,H a=some (.frz o (.dT ps))/\KR (List Key) K H io ps kvs
 | .ob C fs=>∃ dx ps,H a=some (.ins C dx ps)/\KR Str K H io ps fs
 | .sz n=>H a=some (.ext (SetZ a n))
 | .dz=>H a=some (.ext (DzZ a))
structure StR(K:Aa)(H:Hp)(io:List Addr)(st:Sto):Prop where
 len:io.length=st.length
 nd:io.Nodup
 ob:∀ (n:Nat) (a:Addr) (o:O),io[n]?=some a->st[n]?=some o->OR K H io a o
structure EnvR(K:Aa)(H:Hp)(io:List Addr)(σ:St)(ρ:Rho):Prop where
 len:σ.length=ρ.length
 at_:∀ (i:Nat) (d:D),ρ[i]?=some (some d)->∃ v,σ[i]?=some (some v)/\Rep K H io v d
structure Ext(io ka:List Addr)(H H':Hp):Prop where
 keep:∀ b o,H b=some o->b ∉ io->H' b=some o
 fresh:∀ b,b∈ka->H b=none
 frz:∀ b o u,H b=some (.frz o u)->H' b=some (.frz o u)
theorem OR.stands{a:Addr}{o:O}(h:OR K H io a o):∃ u,H a=some u/\∀ xs,u≠.tup xs/\∀ ob,u≠.frz ob (.tup xs):=by
 cases o with
 | lst ds=>obtain⟨xs,e,_⟩:=h;exact⟨_,e,fun _=>⟨by simp,by simp⟩⟩
 | fz ds=>obtain⟨ob,xs,e,_⟩:=h;exact⟨_,e,fun _=>⟨by simp,by simp⟩⟩
 | dk kvs=>obtain⟨xs,e,_⟩:=h;exact⟨_,e,fun _=>⟨by simp,by simp⟩⟩
 | dt kvs=>obtain⟨xs,e,_⟩:=h;exact⟨_,e,fun _=>⟨by simp,by simp⟩⟩
 | fk kvs=>obtain⟨ob,xs,e,_⟩:=h;exact⟨_,e,fun _=>⟨by simp,by simp⟩⟩
 | ft kvs=>obtain⟨ob,xs,e,_⟩:=h;exact⟨_,e,fun _=>⟨by simp,by simp⟩⟩
 | ob C fs=>obtain⟨dx,xs,e,_⟩:=h;exact⟨_,e,fun _=>⟨by simp,by simp⟩⟩
 | sz n=>exact⟨_,h,fun _=>⟨by simp,by simp⟩⟩
 | dz=>exact⟨_,h,fun _=>⟨by simp,by simp⟩⟩
theorem StR.mem(S:StR K H io st){a:Addr}(h:a∈io):∃ u,H a=some u/\∀ xs,u≠.tup xs/\∀ ob,u≠.frz ob (.tup xs):=by
 obtain⟨n,hn,e⟩:=List.getElem_of_mem h;have h1:io[n]?=some a:=by rw[AX hn,e]
 have h2:n < st.length:=by rw[<-S.len];exact hn
 exact (S.ob n a _ h1 (AX h2)).stands
theorem Ext.sqT(S:StR K H io st)(E:Ext io ka H H'):∀ a xs,H a=some (.tup xs)->H' a=some (.tup xs):=by
 intro a xs h;refine E.keep _ _ h fun m=>?_;obtain⟨u,e,q⟩:=S.mem m;rw[h] at e;exact (q xs).1 (Ai e).symm
theorem Ext.kp(S:StR K H io st)(E:Ext io ka H H'):Kp H H':=⟨E.sqT S,E.frz⟩
theorem Ext.refl:Ext io [] H H:=⟨fun _ _ h _=>h,fun _ h=>absurd h (by simp),fun _ _ _ h=>h⟩
theorem Ext.trans(S1:StR K H1 (io++ka) st)(E1:Ext io ka H H1)(E2:Ext (io++ka) kb H1 H2):Ext io (ka++kb) H H2 where
 keep:=fun b o h n=>E2.keep b o (E1.keep b o h n) fun m=>by
   rcases List.mem_append.mp m with m | m
   . exact n m
   . rw[E1.fresh b m] at h;cases h
 fresh:=fun b m=>by
   rcases List.mem_append.mp m with m | m
   . exact E1.fresh b m
   . have h1:=E2.fresh b m
     cases e:H b with
     | none=>rfl
     | some o =>
       by_cases hb:b∈io
       . obtain⟨u,e',_⟩:=S1.mem (A9 _ hb);rw[e'] at h1;cases h1
       . rw[E1.keep b o e hb] at h1;cases h1
 frz:=fun b o u h=>E2.frz b o u (E1.frz b o u h)
theorem Ext.app(E:Ext io (ka++[]) H H'):Ext io ka H H':=by rw[Ad] at E;exact E
theorem Rep.ext{v:V}{d:D}(S:StR K H io st)(E:Ext io ka H H')(h:Rep K H io v d):Rep K H' (io++ka) v d:=Rep.mono (E.kp S) h
theorem Reps.ext(S:StR K H io st)(E:Ext io ka H H')(h:Reps K H io xs ds):Reps K H' (io++ka) xs ds:=Reps.mono (E.kp S) h
theorem EnvR.ext{σ:St}{ρ:Rho}(h:EnvR K H io σ ρ)(S:StR K H io st)(E:Ext io ka H H'):EnvR K H' (io++ka) σ ρ :=
 ⟨h.len,fun i d e=>let ⟨v,q,r⟩:=h.at_ i d e;⟨v,q,r.ext S E⟩⟩
theorem EnvR.set{σ:St}{ρ:Rho}{v:V}{d:D}(i:Nat)(h:EnvR K H io σ ρ)(r:Rep K H io v d):EnvR K H io (σ.set i (some v)) (ρ.set i (some d)):=by
 refine⟨by rw[C1,C1];exact h.len,fun j e q=>?_⟩
 by_cases hij:i=j
 . subst hij;rw[CN] at q;rw[if_pos rfl] at q
   split at q
   . rename_i hl
     cases (Ai (Ai q))
     exact⟨v,by rw[CN,if_pos rfl,if_pos (by rw[h.len];exact hl)],r⟩
   . cases q
 . rw[Ba hij] at q;obtain⟨u,q',r'⟩:=h.at_ j e q;exact⟨u,by rw[Ba hij];exact q',r'⟩
theorem StR.nil(S:StR K H io st):StR K H (io++[]) st:=by rw[Ad];exact S
theorem KR.mono{κ:Type}{ps:List (κ×V)}{kvs:List (κ×D)}(T:Kp H H')(h:KR κ K H io ps kvs):KR κ K H' (io++ka) ps kvs:=Paired.mapP h fun _ _ z=>⟨z.1,Rep.mono T z.2⟩
theorem OR.mono{a:Addr}{o:O}(T:Kp H H')(e:H' a=H a)(h:OR K H io a o):OR K H' (io++ka) a o:=by
 cases o with
 | lst ds=>obtain⟨xs,q,r⟩:=h;exact⟨xs,e.trans q,Reps.mono T r⟩
 | fz ds=>obtain⟨ob,xs,q,r⟩:=h;exact⟨ob,xs,e.trans q,Reps.mono T r⟩
 | dk kvs=>obtain⟨xs,q,r⟩:=h;exact⟨xs,e.trans q,KR.mono T r⟩
 | dt kvs=>obtain⟨xs,q,r⟩:=h;exact⟨xs,e.trans q,KR.mono T r⟩
 | fk kvs=>obtain⟨ob,xs,q,r⟩:=h;exact⟨ob,xs,e.trans q,KR.mono T r⟩
 | ft kvs=>obtain⟨ob,xs,q,r⟩:=h;exact⟨ob,xs,e.trans q,KR.mono T r⟩
 | ob C fs=>obtain⟨dx,xs,q,r⟩:=h;exact⟨dx,xs,e.trans q,KR.mono T r⟩
 | sz n=>exact e.trans h
 | dz=>exact e.trans h
theorem zcd{p:Addr}{o:HO}(S:StR K H io st)(hp:H p=none):Ext io [] H (upd H p o)/\StR K (upd H p o) (io++[]) st:=by
 have E:Ext io [] H (upd H p o):=⟨fun b u h _=>by rw[zaf (zac h hp)];exact h,fun _ h=>absurd h (by simp),fun b u v h=>by rw[zaf (zac h hp)];exact h⟩
 refine⟨E,?_⟩;refine⟨by rw[Ad];exact S.len,by rw[Ad];exact S.nd,fun n a ob h1 h2=>?_⟩;rw[Ad] at h1;obtain⟨u,hu,_⟩:=(S.ob n a ob h1 h2).stands;exact OR.mono (E.kp S) (zaf (zac hu hp)) (S.ob n a ob h1 h2)
theorem zfF{p:Addr}{o:HO}{ob:O}(S:StR K H io st)(hp:H p=none)(new:∀ H',Kp H H'->H' p=some o->OR K H' (io++[p]) p ob):Ext io [p] H (upd H p o)/\StR K (upd H p o) (io++[p]) (st++[ob]):=by
 have E:Ext io [p] H (upd H p o):=⟨fun b u h _=>by rw[zaf (zac h hp)];exact h,fun b h=>by rw[List.mem_singleton.mp h];exact hp,fun b u v h=>by rw[zaf (zac h hp)];exact h⟩
 have np:p ∉ io:=fun m=>by
   obtain⟨u,hu,_⟩:=S.mem m;rw[hp] at hu;cases hu
 refine⟨E,by simp[S.len],?_,fun n a ob' h1 h2=>?_⟩
 . rw[CO];refine⟨S.nd,by simp,fun a ha b hb=>?_⟩;rw[List.mem_singleton.mp hb];rintro rfl;exact np ha
 . by_cases hn:n < io.length
   . rw[Ah hn] at h1;rw[Ah (by rw[<-S.len];exact hn)] at h2;obtain⟨u,hu,_⟩:=(S.ob n a ob' h1 h2).stands;exact OR.mono (E.kp S) (zaf (zac hu hp)) (S.ob n a ob' h1 h2)
   . have hl:n < (io++[p]).length:=(List.getElem?_eq_some_iff.mp h1).1;rw[AK,Bs] at hl;have e:n=io.length:=by omega
     subst e;rw[As (Aj _),Bx] at h1;rw[S.len,As (Aj _),Bx] at h2
     cases (Ai h1)
     cases (Ai h2)
     exact new _ (E.kp S) zai
end
noncomputable abbrev ME:=Rho->Sto->Option (D×Sto)
noncomputable abbrev MT:=Rho->Sto->Option (Bool×Sto)
noncomputable abbrev MA:=Rho->Sto->Option (List D×Sto)
inductive Fl where
 | nx (ρ:Rho) | rt (d:D) | bk (ρ:Rho) | ct (ρ:Rho)
noncomputable abbrev MS:=Rho->Sto->Option (Fl×Sto)
noncomputable abbrev MG:=D->Rho->Sto->Option (Rho×Sto)
noncomputable abbrev MGs:=List D->Rho->Sto->Option (Rho×Sto)
def Bh(K:Aa)(io:List Addr)(H:Hp)(st':Sto)(d:D)(Q:VK):Prop:=∀ v H' ka,Ext io ka H H'->StR K H' (io++ka) st'->Rep K H' (io++ka) v d->Q v H'
inductive tE (K:Aa) (m:ME) (σ:L2.St) (H:Hp) (Q:VK):Prop
 | mk (ρ:Rho) (st:Sto) (io:List Addr) (d:D) (st':Sto) (h1:EnvR K H io σ ρ) (h2:StR K H io st) (h3:m ρ st=some (d,st')) (h4:Bh K io H st' d Q)
inductive tT (K:Aa) (m:MT) (σ:L2.St) (H:Hp) (Q:Bool->Hp->Prop):Prop
 | mk (ρ:Rho) (st:Sto) (io:List Addr) (b:Bool) (st':Sto) (h1:EnvR K H io σ ρ) (h2:StR K H io st) (h3:m ρ st=some (b,st')) (h4:∀ H' ka,Ext io ka H H'->StR K H' (io++ka) st'->Q b H')
inductive tA (K:Aa) (m:MA) (σ:L2.St) (H:Hp) (Q:List V->Hp->Prop):Prop
 | mk (ρ:Rho) (st:Sto) (io:List Addr) (ds:List D) (st':Sto) (h1:EnvR K H io σ ρ) (h2:StR K H io st) (h3:m ρ st=some (ds,st')) (h4:∀ vs H' ka,Ext io ka H H'->StR K H' (io++ka) st'->Reps K H' (io++ka) vs ds->Q vs H')
noncomputable def tS(K:Aa)(m:MS):TS:=fun N σ H=>∃ ρ st io f st',EnvR K H io σ ρ/\StR K H io st/\m ρ st=some (f,st') /\
 match f with
 | .nx ρ'=>∀ σ' H' ka,Ext io ka H H'->StR K H' (io++ka) st'->EnvR K H' (io++ka) σ' ρ'->N.nx σ' H'
 | .bk ρ'=>∀ σ' H' ka,Ext io ka H H'->StR K H' (io++ka) st'->EnvR K H' (io++ka) σ' ρ'->N.bk σ' H'
 | .ct ρ'=>∀ σ' H' ka,Ext io ka H H'->StR K H' (io++ka) st'->EnvR K H' (io++ka) σ' ρ'->N.ct σ' H'
 | .rt d=>Bh K io H st' d N.rt
inductive tG (K:Aa) (m:MG) (v:V) (σ:L2.St) (H:Hp) (Q:L2.St->Hp->Prop):Prop
 | mk (d:D) (ρ:Rho) (st:Sto) (io:List Addr) (ρ':Rho) (st':Sto) (h0:Rep K H io v d) (h1:EnvR K H io σ ρ) (h2:StR K H io st) (h3:m d ρ st=some (ρ',st')) (h4:∀ σ' H' ka,Ext io ka H H'->StR K H' (io++ka) st'->EnvR K H' (io++ka) σ' ρ'->Q σ' H')
inductive tGs (K:Aa) (m:MGs) (vs:List V) (σ:L2.St) (H:Hp) (Q:L2.St->Hp->Prop):Prop
 | mk (ds:List D) (ρ:Rho) (st:Sto) (io:List Addr) (ρ':Rho) (st':Sto) (h0:Reps K H io vs ds) (h1:EnvR K H io σ ρ) (h2:StR K H io st) (h3:m ds ρ st=some (ρ',st')) (h4:∀ σ' H' ka,Ext io ka H H'->StR K H' (io++ka) st'->EnvR K H' (io++ka) σ' ρ'->Q σ' H')
def SE(X:Cx)(e:Expr)(m:ME):Prop:=PE X e (tE X.K m)
def SB(X:Cx)(e:Expr)(m:MT):Prop:=PT X e (tT X.K m)
def SA(X:Cx)(es:List Expr)(m:MA):Prop:=PA X es (tA X.K m)
def SS(X:Cx)(s:Stmt)(m:MS):Prop:=PS X s (tS X.K m)
def SSs(X:Cx)(s:List Stmt)(m:MS):Prop:=PSs X s (tS X.K m)
def SG(X:Cx)(e:Expr)(m:MG):Prop:=PG X e (tG X.K m)
def SGs(X:Cx)(e:List Expr)(m:MGs):Prop:=PGs X e (tGs X.K m)
section
variable {X:Cx} {e a b c:Expr} {es:List Expr} {st1 st2:Stmt} {rest body orelse:List Stmt} {pos:Pos} {m ma mb mc:ME} {mt mu:MT} {mm:MA} {ms mq mr:MS} {mg:MG} {mgs:MGs}
theorem PE.imp{t u:TE}(h:PE X e t)(k:∀ σ H Q,u σ H Q->t σ H Q):PE X e u:=fun pins s σ H Q I q=>h pins s σ H Q I (k σ H Q q)
theorem PT.imp{t u:TT}(h:PT X e t)(k:∀ σ H Q,u σ H Q->t σ H Q):PT X e u:=fun pins s σ H Q I q=>h pins s σ H Q I (k σ H Q q)
theorem PA.imp{t u:TA}(h:PA X es t)(k:∀ σ H Q,u σ H Q->t σ H Q):PA X es u:=fun p pins s σ H Q I q=>h p pins s σ H Q I (k σ H Q q)
theorem PS.imp{t u:TS}(h:PS X st1 t)(k:∀ N σ H,u N σ H->t N σ H):PS X st1 u:=fun pins s σ H N I q=>h pins s σ H N I (k N σ H q)
theorem PSs.imp{t u:TS}(h:PSs X rest t)(k:∀ N σ H,u N σ H->t N σ H):PSs X rest u:=fun pins s σ H N I q=>h pins s σ H N I (k N σ H q)
theorem PG.imp{t u:TG}(h:PG X e t)(k:∀ v σ H Q,u v σ H Q->t v σ H Q):PG X e u:=fun pins s σ H v w Q I r q=>h pins s σ H v w Q I r (k v σ H Q q)
theorem PGs.imp{t u:TGs}(h:PGs X es t)(k:∀ v σ H Q,u v σ H Q->t v σ H Q):PGs X es u:=fun pins s σ H v w Q I r q=>h pins s σ H v w Q I r (k v σ H Q q)
theorem zab{α β:Type}{x:Option α}{f:α->Option β}{y:β}(h:x.bind f=some y):∃ z,x=some z/\f z=some y:=by
 cases x with
 | none=>cases h
 | some z=>exact⟨z,rfl,h⟩
variable {K:Aa} {H H1 H2:Hp} {io ka kb:List Addr} {st st':Sto}
theorem Bh.now{d:D}{Q:VK}{v:V}(h:Bh K io H st d Q)(S:StR K H io st)(r:Rep K H io v d):Q v H:=h v H [] Ext.refl S.nil (by rw[Ad];exact r)
theorem Bh.on{d:D}{Q:VK}(h:Bh K io H st' d Q)(S1:StR K H1 (io++ka) st)(E:Ext io ka H H1):Bh K (io++ka) H1 st' d Q:=fun v H' kb E' S' r =>
 h v H' (ka++kb) (E.trans S1 E') (by rw[<-Ag];exact S') (by rw[<-Ag];exact r)
noncomputable def mVar(i:Nat):ME:=fun ρ st=>match ρ[i]? with
 | some (some d)=>some (d,st)
 | _=>none
theorem zak(i:Nat){x:Str}{pos:Pos}(hN:X.N[i]?=some x:=by rfl)(hv:Vis X.env.scope x:=by first | exact Co rfl | exact BI (Co rfl) | exact BI (BI rfl))(hd:(x==("__debug__":Str))=false:=by decide)
   (hcd:(x==("__classdict__":Str))=false:=by decide):SE X (.Name x pos) (mVar i):=PE.imp (zew hN hv hd hcd) <| by
 rintro σ H Q ⟨ρ,st,io,d,st',E,S,e,k⟩;unfold mVar at e
 split at e
 . rename_i d' he;cases e;obtain⟨v,hv,r⟩:=E.at_ i _ he;exact⟨v,hv,k.now S r⟩
 . cases e
noncomputable def mCon(d:D):ME:=fun _ st=>some (d,st)
theorem zaK{i j pos}:SE X (.Constant (.int i) j pos) (mCon (.int i)):=PE.imp zfy <| by
 rintro σ H Q ⟨ρ,st,io,d,st',E,S,e,k⟩
 cases e;exact k.now S rfl
theorem zfm{b j pos}:SE X (.Constant (.bool b) j pos) (mCon (.bl b)):=PE.imp zgB <| by
 rintro σ H Q ⟨ρ,st,io,d,st',E,S,e,k⟩
 cases e;exact k.now S rfl
noncomputable abbrev G2:=D->D->Sto->Option (D×Sto)
inductive r2M (K:Aa) (g:G2) (x y:V) (H:Hp) (Q:VK):Prop
 | mk (dx dy:D) (st:Sto) (io:List Addr) (d:D) (st':Sto) (h0:Rep K H io x dx) (h1:Rep K H io y dy) (h2:StR K H io st) (h3:g dx dy st=some (d,st')) (h4:Bh K io H st' d Q)
def OpM(X:Cx)(f:Value->Value->Sem Value)(g:G2):Prop:=OpR X f (r2M X.K g)
noncomputable def mBin(g:G2)(ma mb:ME):ME:=fun ρ st=>(ma ρ st).bind fun (x,s1)=>(mb ρ s1).bind fun (y,s2)=>g x y s2
theorem za6{g:G2}{σ:L2.St}{H:Hp}{Q:VK}(h:tE K (mBin g ma mb) σ H Q):tOp (r2M K g) (tE K ma) (tE K mb) σ H Q:=by
 obtain⟨ρ,st,io,d,st',E,S,e,k⟩:=h;obtain⟨⟨x,s1⟩,e1,e⟩:=zab e;obtain⟨⟨y,s2⟩,e2,e3⟩:=zab e;refine⟨ρ,st,io,x,s1,E,S,e1,fun v1 H1 k1 X1 S1 R1=>?_⟩;refine⟨ρ,s1,io++k1,y,s2,E.ext S X1,S1,e2,fun v2 H2 k2 X2 S2 R2=>?_⟩;exact⟨x,y,s2,(io++k1)++k2,d,st',R1.ext S1 X2,R2,S2,e3,(k.on S1 X1).on S2 X2⟩
theorem zaL{op:Operator}{g:G2}(ho:OpM X (binaryOp op) g)(ha:SE X a ma)(hb:SE X b mb):SE X (.BinOp a op b pos) (mBin g ma mb):=PE.imp (zgz ho ha hb) fun _ _ _ h=>za6 h
noncomputable def mTst(m:ME):MT:=fun ρ st=>(m ρ st).bind fun (x,s1)=>match x with
 | .bl b=>some (b,s1)
 | _=>none
theorem zfe{ρ:Rho}{b:Bool}(e:mTst m ρ st=some (b,st')):m ρ st=some (.bl b,st'):=by
 obtain⟨⟨x,s1⟩,e1,e⟩:=zab e;dsimp only at e
 split at e
 . cases e;exact e1
 . cases e
theorem zbo{σ:L2.St}{H:Hp}{Q:Bool->Hp->Prop}(h:tT K (mTst m) σ H Q):tE K m σ H fun x H'=>∃ b,x=.bl b/\Q b H':=by
 obtain⟨ρ,st,io,b,st',E,S,e,k⟩:=h;exact⟨ρ,st,io,_,st',E,S,zfe e,fun v H' ka X' S' R'=>⟨b,R',k H' ka X' S'⟩⟩
theorem zcO{op:CmpOp}{g:G2}(ho:OpM X (compareOp op) g)(ha:SE X a ma)(hb:SE X b mb)(hm:behindInMarks op b=false):SB X (.Compare a [op] [b] pos) (mTst (mBin g ma mb)) :=
 PT.imp (zer ho ha hb hm) fun σ H Q h=>za6 (zbo h)
theorem zfp(h:SE X a m)(he:∀ whole,isTrue a X.env whole=(do let v <-whole;standAt a.pos;holding [v] (truthy v)):=by intro _;rfl):SB X a (mTst m) :=
 PT.imp (zdD h he) fun σ H Q h=>by
   obtain⟨ρ,st,io,b,st',E,S,e,k⟩:=zbo h;refine⟨ρ,st,io,b,st',E,S,e,fun v H' ka X' S' R'=>?_⟩;obtain⟨c,hc,q⟩:=k v H' ka X' S' R';subst hc;exact⟨c,rfl,q⟩
noncomputable def zd6(m:MT):MT:=fun ρ st=>(m ρ st).map fun (b,s)=>(!b,s)
theorem zeo(h:SB X a mt):SB X (.UnaryOp .Not a pos) (zd6 mt):=PT.imp (zfr h) <| by
 rintro σ H Q ⟨ρ,st,io,b,st',E,S,e,k⟩;unfold zd6 at e
 cases e1:mt ρ st with
 | none=>rw[e1] at e;cases e
 | some p=>rw[e1] at e;cases e;exact⟨ρ,st,io,_,_,E,S,e1,fun H' ka X' S'=>k H' ka X' S'⟩
noncomputable def mOrT(m n:MT):MT:=fun ρ st=>(m ρ st).bind fun (b,s)=>if b=true then some (true,s) else n ρ s
def SW(X:Cx)(e:Expr)(m:MT):Prop:=PW X e (tT X.K m)
theorem PW.imp{t u:TT}(h:PW X e t)(k:∀ σ H Q,u σ H Q->t σ H Q):PW X e u:=fun w pins s σ H Q I q=>h w pins s σ H Q I (k σ H Q q)
theorem SW.sb(h:SW X a mt):SB X a mt:=PW.pt h
theorem zd9(ha:SB X a mt):SW X (.BoolOp .Or [a] pos) mt:=pw_or1 ha
theorem zdH{n:MT}{σ:L2.St}{ρ:Rho}{Q:Bool->Hp->Prop}{b:Bool}{s1:Sto}(E:EnvR K H io σ ρ)(S:StR K H io st)(X1:Ext io ka H H1)(S1:StR K H1 (io++ka) s1)(e:n ρ s1=some (b,st'))(k:∀ H' ka,Ext io ka H H'->StR K H' (io++ka) st'->Q b H'):tT K n σ H1 Q :=
 ⟨ρ,s1,io++ka,b,st',E.ext S X1,S1,e,fun H' kb X' S'=>k H' (ka++kb) (X1.trans S1 X') (by rw[<-Ag];exact S')⟩
theorem zfb{rs:List Expr}(ha:SB X a mt)(hb:SW X (.BoolOp .Or (b::rs) pos) mu):SW X (.BoolOp .Or (a::b::rs) pos) (mOrT mt mu):=PW.imp (pw_or ha hb) <| by
 rintro σ H Q ⟨ρ,st,io,v,st',E,S,e,k⟩;obtain⟨⟨x,s1⟩,e1,e⟩:=zab e;refine⟨ρ,st,io,x,s1,E,S,e1,fun H1 k1 X1 S1=>?_⟩
 cases x with
 | false=>rw[if_neg (by decide)];exact zdH E S X1 S1 e k
 | true =>
   rw[if_pos rfl];have e':some (true,s1)=some (v,st'):=e;cases e';exact k H1 k1 X1 S1
end
end L2.MP
set_option linter.unusedVariables false
namespace L2.MP
open PySem PySem.Spec PyProof.Rows
section
variable {X:Cx} {e a b c:Expr} {es:List Expr} {st1 st2:Stmt} {rest body orelse:List Stmt} {pos:Pos} {m ma mb mc:ME} {mt mu:MT} {mm:MA} {ms mq mr:MS} {mg:MG} {mgs:MGs}
variable {K:Aa} {H H1 H2:Hp} {io ka kb:List Addr} {st st':Sto}
noncomputable def mNil:MA:=fun _ st=>some ([],st)
noncomputable def zah(m:ME)(mm:MA):MA:=fun ρ st=>(m ρ st).bind fun (x,s1)=>(mm ρ s1).bind fun (xs,s2)=>some (x::xs,s2)
theorem zam:SA X [] mNil:=PA.imp zeB <| by
 rintro σ H Q ⟨ρ,st,io,ds,st',E,S,e,k⟩
 cases e;exact k [] H [] Ext.refl S.nil Reps.nil
theorem zaa(ha:SE X e m)(hr:SA X es mm)(hs:starEach (e::es) X.env=(false,eval e X.env)::starEach es X.env:=by rfl):SA X (e::es) (zah m mm):=PA.imp (zb5 ha hr hs) <| by
 rintro σ H Q ⟨ρ,st,io,ds,st',E,S,e,k⟩;obtain⟨⟨x,s1⟩,e1,e⟩:=zab e;obtain⟨⟨xs,s2⟩,e2,e⟩:=zab e;cases e;refine⟨ρ,st,io,x,s1,E,S,e1,fun v1 H1 k1 X1 S1 R1=>⟨ρ,s1,io++k1,xs,_,E.ext S X1,S1,e2,fun vs H2 k2 X2 S2 R2=>?_⟩⟩;exact k _ H2 (k1++k2) (X1.trans S1 X2) (by rw[<-Ag];exact S2) (by rw[<-Ag];exact Reps.cons (R1.ext S1 X2) R2)
noncomputable def fits(n:Nat):Bool:=decide (n<=sizeLine)
noncomputable def mLst(mm:MA):ME:=fun ρ st=>(mm ρ st).bind fun (xs,s)=>if fits xs.length=true then some (.ref s.length,s++[.lst xs]) else none
theorem zag{α:Type}{c:Prop}[Decidable c]{x:Option α}{y:α}(h:(if c then x else none)=some y):c/\x=some y:=by
 by_cases hc:c
 . rw[if_pos hc] at h;exact⟨hc,h⟩
 . rw[if_neg hc] at h;cases h
theorem Bh.tup{ds:List D}{vs:List V}{Q:VK}{p:Addr}(k:Bh K io H st (.tup ds) Q)(S:StR K H io st)(R:Reps K H io vs ds)(hp:H p=none):Q (.ref p) (upd H p (.tup vs)):=by
 obtain⟨E,S'⟩:=zcd (o:=.tup vs) S hp;refine k _ _ [] E S' ⟨p,vs,rfl,zai,R.ext S E⟩
theorem getElem?_len{α:Type}(l:List α)(x:α):(l++[x])[l.length]?=some x:=by
 rw[As (Aj _),Bx];rfl
theorem Bh.lst{ds:List D}{vs:List V}{Q:VK}{p:Addr}(k:Bh K io H (st++[.lst ds]) (.ref st.length) Q)(S:StR K H io st)(R:Reps K H io vs ds)(hp:H p=none):Q (.ref p) (upd H p (.lst vs)):=by
 obtain⟨E,S'⟩:=zfF (o:=.lst vs) (ob:=.lst ds) S hp fun H' T e=>⟨vs,e,Reps.mono T R⟩
 exact k _ _ [p] E S' ⟨p,rfl,by rw[<-S.len];exact getElem?_len io p⟩
theorem zaY(h:SA X es mm):SE X (.List es pos) (mLst mm):=PE.imp (zfx h) <| by
 rintro σ H Q ⟨ρ,st,io,d,st',E,S,e,k⟩;obtain⟨⟨xs,s1⟩,e1,e⟩:=zab e;obtain⟨hf,e⟩:=zag e;cases e;refine⟨ρ,st,io,xs,_,E,S,e1,fun vs H1 k1 X1 S1 R1=>⟨by rw[R1.length];exact of_decide_eq_true hf,fun p hp=>(k.on S1 X1).lst S1 R1 hp⟩⟩
noncomputable abbrev GN:=List D->Sto->Option (D×Sto)
inductive rNM (K:Aa) (g:GN) (xs:List V) (H:Hp) (Q:VK):Prop
 | mk (ds:List D) (st:Sto) (io:List Addr) (d:D) (st':Sto) (h1:Reps K H io xs ds) (h2:StR K H io st) (h3:g ds st=some (d,st')) (h4:Bh K io H st' d Q)
def zbg(X:Cx)(f:Value)(g:GN):Prop:=zdk X f (rNM X.K g)
noncomputable def zau(g:GN)(mm:MA):ME:=fun ρ st=>(mm ρ st).bind fun (xs,s)=>g xs s
theorem zbb{g:GN}{σ:L2.St}{Q:VK}(h:tE K (zau g mm) σ H Q):tCB (rNM K g) (tA K mm) σ H Q:=by
 obtain⟨ρ,st,io,d,st',E,S,e,k⟩:=h;obtain⟨⟨xs,s1⟩,e1,e⟩:=zab e;exact⟨ρ,st,io,xs,s1,E,S,e1,fun vs H1 k1 X1 S1 R1=>⟨xs,s1,io++k1,d,st',R1,S1,e,k.on S1 X1⟩⟩
theorem zb2{x:Str}{p:Pos}{id:String}{g:GN}(hc:zbg X (.builtin id) g)(hg:Gl X x)(hm:X.mg x=none)(hv:bootBuiltins x=some (.builtin id))(ha:SA X (e::es) mm)(hn:x≠"__name__":=by decide)(hdb:(x==("__debug__":Str))=false:=by decide)
   (he:starEach (e::es) X.env=(false,eval e X.env)::starEach es X.env:=by rfl) (hpl:(backTo pos (starEach es X.env)).any (·.1)=false:=by rfl):SE X (.Call (.Name x p) (e::es) [] pos) (zau g mm) :=
 PE.imp (zb4 hc hg hm hv ha hn hdb he hpl) fun _ _ _ h=>zbb h
theorem zcM{x:Str}{p:Pos}{T:String}{g:GN}(hc:zbg X (.type T) g)(hg:Gl X x)(hm:X.mg x=none)(hv:bootBuiltins x=some (.type T))(ha:SA X (e::es) mm)(hn:x≠"__name__":=by decide)(hdb:(x==("__debug__":Str))=false:=by decide)
   (he:starEach (e::es) X.env=(false,eval e X.env)::starEach es X.env:=by rfl) (hpl:(backTo pos (starEach es X.env)).any (·.1)=false:=by rfl):SE X (.Call (.Name x p) (e::es) [] pos) (zau g mm) :=
 PE.imp (zcS hc hg hm hv ha hn hdb he hpl) fun _ _ _ h=>zbb h
noncomputable def spM(K:Aa)(n:Nat)(g:GN):Sp:=fun vs H Q _=>∃ ds st io d st',vs.length=n/\Reps K H io vs ds/\StR K H io st/\g ds st=some (d,st')/\Bh K io H st' d Q
theorem zen{x:Str}{p:Pos}{k:Nat}{f:Addr}{fd:FuncData}{ps:List Str}{n:Nat}{g:GN}(F:FnOk X.prog X.w X.K X.mg X.base CX0 k f fd ps (spM X.K n g))(hr:Room k X.A)(hg:Gl X x)(hm:X.mg x=some (.ref f))(hk:AQ X.K (.ref f)=true)(hb:Binds X.K fd ps [])
   (ha:SA X (e::es) mm) (hdb:(x==("__debug__":Str))=false:=by decide) (he:starEach (e::es) X.env=(false,eval e X.env)::starEach es X.env:=by rfl) (hpl:(backTo pos (starEach es X.env)).any (·.1)=false:=by rfl) (hn:(e::es).length=n:=by rfl)
   (hl:∀ ρ st xs s,mm ρ st=some (xs,s)->xs.length=n) :
   SE X (.Call (.Name x p) (e::es) [] pos) (zau g mm):=PE.imp (zez F hr hg hm hk hb .nil zgC ha hdb he hpl) <| by
 rintro σ H Q ⟨ρ,st,io,d,st',E,S,e,k⟩;obtain⟨⟨xs,s1⟩,e1,e⟩:=zab e;refine⟨ρ,st,io,xs,s1,E,S,e1,fun vs H1 k1 X1 S1 R1=>⟨xs,s1,io++k1,d,st',?_,?_,S1,e,k.on S1 X1⟩⟩
 . rw[Ad,R1.length];exact hl _ _ _ _ e1
 . rw[Ad];exact R1
theorem zdK{ρ:Rho}{st:Sto}{xs:List D}{s:Sto}(h:mNil ρ st=some (xs,s)):xs.length=0:=by cases h;rfl
theorem zcX{ρ:Rho}{st:Sto}{xs:List D}{s:Sto}{n:Nat}(hr:∀ ρ st xs s,mm ρ st=some (xs,s)->xs.length=n)(h:zah m mm ρ st=some (xs,s)):xs.length=n+1:=by
 obtain⟨⟨x,s1⟩,e1,e⟩:=zab h;obtain⟨⟨ys,s2⟩,e2,e⟩:=zab e;cases e;rw[Br,hr _ _ _ _ e2]
noncomputable def Wn(K:Aa)(io:List Addr)(H:Hp)(st':Sto)(N:Ends):Fl->Prop
 | .nx ρ'=>∀ σ' H' ka,Ext io ka H H'->StR K H' (io++ka) st'->EnvR K H' (io++ka) σ' ρ'->N.nx σ' H'
 | .bk ρ'=>∀ σ' H' ka,Ext io ka H H'->StR K H' (io++ka) st'->EnvR K H' (io++ka) σ' ρ'->N.bk σ' H'
 | .ct ρ'=>∀ σ' H' ka,Ext io ka H H'->StR K H' (io++ka) st'->EnvR K H' (io++ka) σ' ρ'->N.ct σ' H'
 | .rt d=>Bh K io H st' d N.rt
inductive tSi (K:Aa) (m:MS) (N:Ends) (σ:L2.St) (H:Hp):Prop
 | mk (ρ:Rho) (st:Sto) (io:List Addr) (f:Fl) (st':Sto) (h1:EnvR K H io σ ρ) (h2:StR K H io st) (h3:m ρ st=some (f,st')) (h4:Wn K io H st' N f)
theorem zbh{N:Ends}{σ:L2.St}{H:Hp}:tS K ms N σ H ↔ tSi K ms N σ H:=by
 constructor
 . rintro ⟨ρ,st,io,f,st',E,S,e,k⟩;exact⟨ρ,st,io,f,st',E,S,e,by cases f <;> exact k⟩
 . rintro ⟨ρ,st,io,f,st',E,S,e,k⟩;exact⟨ρ,st,io,f,st',E,S,e,by cases f <;> exact k⟩
theorem zcU{P:L2.St->Hp->Prop}{ρ':Rho}(h:∀ σ' H' ka,Ext io ka H H'->StR K H' (io++ka) st'->EnvR K H' (io++ka) σ' ρ'->P σ' H')(X1:Ext io ka H H1)(S1:StR K H1 (io++ka) st) :
   ∀ σ' H' kb,Ext (io++ka) kb H1 H'->StR K H' ((io++ka)++kb) st'->EnvR K H' ((io++ka)++kb) σ' ρ'->P σ' H':=fun σ' H' kb E' S' R' =>
 h σ' H' (ka++kb) (X1.trans S1 E') (by rw[<-Ag];exact S') (by rw[<-Ag];exact R')
theorem Wn.on{N:Ends}{f:Fl}(h:Wn K io H st' N f)(X1:Ext io ka H H1)(S1:StR K H1 (io++ka) st):Wn K (io++ka) H1 st' N f:=by
 cases f with
 | nx ρ'=>exact zcU h X1 S1
 | bk ρ'=>exact zcU h X1 S1
 | ct ρ'=>exact zcU h X1 S1
 | rt d=>exact Bh.on h S1 X1
theorem zfa{N:Ends}{σ:L2.St}{ρ:Rho}{f:Fl}(E:EnvR K H io σ ρ)(S:StR K H io st)(e:ms ρ st=some (f,st'))(w:Wn K io H st' N f):tS K ms N σ H:=zbh.mpr ⟨ρ,st,io,f,st',E,S,e,w⟩
theorem zff{N:Ends}{σ:L2.St}{ρ:Rho}{f:Fl}{s1:Sto}(X1:Ext io ka H H1)(S1:StR K H1 (io++ka) s1)(E:EnvR K H1 (io++ka) σ ρ)(e:ms ρ s1=some (f,st'))(w:Wn K io H st' N f):tS K ms N σ H1 :=
 zfa E S1 e (w.on X1 S1)
noncomputable def zdJ:MS:=fun ρ st=>some (.nx ρ,st)
theorem zec:SSs X [] zdJ:=PSs.imp zes fun N σ H h=>by
 obtain⟨ρ,st,io,f,st',E,S,e,w⟩:=zbh.mp h;cases e;exact w σ H [] Ext.refl S.nil (by rw[Ad];exact E)
noncomputable def mSeq(m n:MS):MS:=fun ρ st=>(m ρ st).bind fun (f,s)=>match f with
 | .nx ρ1=>n ρ1 s
 | f=>some (f,s)
theorem zdv(h1:SS X st1 ms)(h2:SSs X rest mq):SSs X (st1::rest) (mSeq ms mq):=PSs.imp (zdE h1 h2) fun N σ H h=>by
 obtain⟨ρ,st,io,f,st',E,S,e,w⟩:=zbh.mp h;obtain⟨⟨f1,s1⟩,e1,e⟩:=zab e;refine zfa E S e1 ?_
 cases f1 with
 | nx ρ1=>exact fun σ' H' ka X' S' R'=>zff X' S' R' e w
 | bk ρ1=>cases e;exact w
 | ct ρ1=>cases e;exact w
 | rt d=>cases e;exact w
theorem zeb(h1:SS X st1 ms):SSs X [st1] ms:=zdm h1
noncomputable def mRet(m:ME):MS:=fun ρ st=>(m ρ st).map fun (d,s)=>(.rt d,s)
theorem zae{α β:Type}{x:Option α}{f:α->β}{y:β}(h:x.map f=some y):∃ z,x=some z/\f z=y:=by
 cases x with
 | none=>cases h
 | some z=>exact⟨z,rfl,Ai h⟩
theorem zcI(he:SE X e m):SS X (.Return (some e) pos) (mRet m):=PS.imp (zft he) fun N σ H h=>by
 obtain⟨ρ,st,io,f,st',E,S,e,w⟩:=zbh.mp h;obtain⟨⟨d,s1⟩,e1,e⟩:=zae e;cases e;exact⟨ρ,st,io,d,_,E,S,e1,w⟩
noncomputable def mIf(c:MT)(m n:MS):MS:=fun ρ st=>(c ρ st).bind fun (b,s)=>if b=true then m ρ s else n ρ s
theorem zgu(hc:SB X c mt)(h1:SSs X body ms)(h2:SSs X orelse mq):SS X (.If c body orelse pos) (mIf mt ms mq):=PS.imp (zgy hc h1 h2) fun N σ H h=>by
 obtain⟨ρ,st,io,f,st',E,S,e,w⟩:=zbh.mp h;obtain⟨⟨x,s1⟩,e1,e⟩:=zab e;refine⟨ρ,st,io,x,s1,E,S,e1,fun H1 k1 X1 S1=>?_⟩
 cases x with
 | true=>rw[if_pos rfl];exact zff X1 S1 (E.ext S X1) e w
 | false=>rw[if_neg (by decide)];exact zff X1 S1 (E.ext S X1) e w
noncomputable def gNm(i:Nat):MG:=fun d ρ st=>some (ρ.set i (some d),st)
theorem zeg{i:Nat}{x:Str}(hN:X.N.Nodup)(hi:X.N[i]?=some x)(hx:Loc X.env.scope x)(hf:X.fn x=true\/X.env.scope.names.lookup x=some .local:=by first | exact .inl rfl | exact .inr rfl | assumption):SG X (.Name x pos) (gNm i) :=
 PG.imp (zeu hN hi hx hf) <| by
   rintro v σ H Q ⟨d,ρ,st,io,ρ',st',R,E,S,e,k⟩;cases e;exact k _ H [] Ext.refl S.nil (by rw[Ad];exact E.set i R)
noncomputable def gN0:MGs:=fun ds ρ st=>match ds with
 | []=>some (ρ,st)
 | _=>none
noncomputable def gC(g:MG)(h:MGs):MGs:=fun ds ρ st=>match ds with
 | d::r=>(g d ρ st).bind fun (ρ1,s1)=>h r ρ1 s1
 | []=>none
theorem zef:SGs X [] gN0:=PGs.imp zet <| by
 rintro v σ H Q ⟨ds,ρ,st,io,ρ',st',R,E,S,e,k⟩
 cases ds with
 | nil=>cases e;exact⟨R,k σ H [] Ext.refl S.nil (by rw[Ad];exact E)⟩
 | cons d r=>cases e
theorem zb1(h1:SG X e mg)(h2:SGs X es mgs)(hs:(assignEach (e::es) X.env).map (·.2)=assign e X.env::(assignEach es X.env).map (·.2):=by rfl):SGs X (e::es) (gC mg mgs) :=
 PGs.imp (zdG h1 h2 hs) <| by
   rintro v σ H Q ⟨ds,ρ,st,io,ρ',st',R,E,S,e,k⟩
   cases ds with
   | nil=>cases e
   | cons d r =>
     obtain⟨y,ys,rfl,r1,rs⟩:=R;obtain⟨⟨ρ1,s1⟩,e1,e⟩:=zab e;refine⟨y,ys,rfl,d,ρ,st,io,ρ1,s1,r1,E,S,e1,fun σ1 H1 k1 X1 S1 E1=>?_⟩;exact⟨r,ρ1,s1,io++k1,ρ',st',rs.ext S X1,E1,S1,e,zcU k X1 S1⟩
noncomputable def gTp(n:Nat)(h:MGs):MG:=fun d ρ st=>match d with
 | .tup ds=>if ds.length=n then h ds ρ st else none
 | _=>none
theorem zfj{k:Nat}{n:Nat}(hc:X.calm=true)(h:SGs X es mgs)(hn:(assignEach es X.env).length=n:=by rfl)(hst:(assignEach es X.env).findIdx? (·.1)=none:=by rfl):SG X (.Tuple es k pos) (gTp n mgs) :=
 PG.imp (zfw hc h hn hst) <| by
   rintro v σ H Q ⟨d,ρ,st,io,ρ',st',R,E,S,e,k⟩
   cases d with
   | tup ds =>
     obtain⟨a,xs,rfl,hq,rs⟩:=R;obtain⟨hl,e⟩:=zag e;exact⟨a,xs,rfl,SqT.of hq,by rw[rs.length];exact hl,ds,ρ,st,io,ρ',st',rs,E,S,e,k⟩
   | _=>cases e
noncomputable def mAsg(m:ME)(g:MG):MS:=fun ρ st=>(m ρ st).bind fun (d,s1)=>(g d ρ s1).map fun (ρ',s2)=>(.nx ρ',s2)
theorem zfh{i:Nat}{x:Str}{pos':Pos}(hN:X.N.Nodup)(hi:X.N[i]?=some x)(hx:Loc X.env.scope x)(he:SE X e m)(hs:swapsWith e (some (.Name x pos')) pos.line X.env=pure false:=by rfl)(hf:X.fn x=true\/X.env.scope.names.lookup x=some .local:=by first | exact .inl rfl | exact .inr rfl | assumption) :
   SS X (.Assign [.Name x pos'] e pos) (mAsg m (gNm i)):=PS.imp (zfs hN hi hx he hs hf) fun N σ H h=>by
 obtain⟨ρ,st,io,f,st',E,S,e,w⟩:=zbh.mp h;obtain⟨⟨x,s1⟩,e1,e⟩:=zab e;obtain⟨⟨ρ',s2⟩,e2,e⟩:=zae e;cases e;cases e2;exact⟨ρ,st,io,x,_,E,S,e1,fun v1 H1 k1 X1 S1 R1=>w _ H1 k1 X1 S1 ((E.ext S X1).set i R1)⟩
structure Wk where
 ds:List D
 g:List (Nat×List D)
def stays(W:Wk)(st:Sto):Prop:=∀ p,p∈W.g->st[p.1]?=some (.lst p.2)\/st[p.1]?=some (.fz p.2)
structure ItOk(K:Aa)(H0:Hp)(io:List Addr)(W:Wk)(J:It):Prop where
 go:∀ i d H ka st,W.ds[i]?=some d->Ext io ka H0 H->StR K H (io++ka) st->stays W st->J.go i H/\∀ x H',J.yld i H x H'->Ext (io++ka) [] H H'/\StR K H' (io++ka) st/\Rep K H' (io++ka) x d
 stop:∀ H ka st,Ext io ka H0 H->StR K H (io++ka) st->stays W st->J.stop W.ds.length H
 stop':∀ H ka st i,W.ds.length<=i->Ext io ka H0 H->StR K H (io++ka) st->stays W st->J.stop i H
noncomputable abbrev MI:=Rho->Sto->Option (Wk×Sto)
inductive tI (K:Aa) (m:MI) (σ:L2.St) (H:Hp) (R:It->Hp->Prop):Prop
 | mk (ρ:Rho) (st:Sto) (io:List Addr) (W:Wk) (st':Sto) (h1:EnvR K H io σ ρ) (h2:StR K H io st) (h3:m ρ st=some (W,st')) (h4:∀ J H' ka,Ext io ka H H'->StR K H' (io++ka) st'->ItOk K H' (io++ka) W J->R J H')
def SI(X:Cx)(tg iter:Expr)(m:MI):Prop:=PI X tg iter (tI X.K m)
theorem PI.imp{tg iter:Expr}{t u:TI}(h:PI X tg iter t)(k:∀ σ H R,u σ H R->t σ H R):PI X tg iter u:=fun pins s σ H R I q=>h pins s σ H R I (k σ H R q)
end
mutual
noncomputable def D.eqb:D->D->Bool
 | .non,.non=>true
 | .bl a,.bl b=>a==b
 | .int a,.int b=>decide (a=b)
 | .str a,.str b=>decide (a=b)
 | .tup a,.tup b=>D.eqbs a b
 | .ref a,.ref b=>decide (a=b)
 | .kl a,.kl b=>D.eqbs a b
 | .fn a,.fn b=>decide (a=b)
 | .er a b c,.er a2 b2 c2=>decide (a=a2/\b=b2/\c=c2)
 | _,_=>false
noncomputable def D.eqbs:List D->List D->Bool
 | [],[]=>true
 | a::as,b::bs=>D.eqb a b&&D.eqbs as bs
 | _,_=>false
end
mutual
theorem D.eqb_refl:∀ a:D,D.eqb a a=true
 | .non=>rfl
 | .bl a=>by simp[D.eqb]
 | .int a=>by simp[D.eqb]
 | .str a=>by simp[D.eqb]
 | .tup a=>by rw[D.eqb];exact D.eqbs_refl a
 | .ref a=>by simp[D.eqb]
 | .kl a=>by rw[D.eqb];exact D.eqbs_refl a
 | .fn a=>by simp[D.eqb]
 | .er a b c=>by simp[D.eqb]
theorem D.eqbs_refl:∀ a:List D,D.eqbs a a=true
 | []=>rfl
 | a::as=>by rw[D.eqbs,D.eqb_refl a,D.eqbs_refl as];rfl
end
mutual
theorem D.eq_of:∀ {a b:D},D.eqb a b=true->a=b
 | .non,b,h=>by cases b <;> simp[D.eqb] at h ⊢
 | .bl a,b,h=>by cases b <;> simp[D.eqb] at h ⊢;exact h
 | .int a,b,h=>by cases b <;> simp[D.eqb] at h ⊢;exact h
 | .str a,b,h=>by cases b <;> simp[D.eqb] at h ⊢;exact h
 | .tup a,.tup b,h=>by rw[D.eqb] at h;rw[D.eqs_of h]
 | .tup a,.non,h=>by simp[D.eqb] at h
 | .tup a,.bl _,h=>by simp[D.eqb] at h
 | .tup a,.int _,h=>by simp[D.eqb] at h
 | .tup a,.str _,h=>by simp[D.eqb] at h
 | .tup a,.ref _,h=>by simp[D.eqb] at h
 | .tup a,.kl _,h=>by simp[D.eqb] at h
 | .tup a,.fn _,h=>by simp[D.eqb] at h
 | .tup a,.er _ _ _,h=>by simp[D.eqb] at h
 | .kl a,.kl b,h=>by rw[D.eqb] at h;rw[D.eqs_of h]
 | .kl a,.non,h=>by simp[D.eqb] at h
 | .kl a,.bl _,h=>by simp[D.eqb] at h
 | .kl a,.int _,h=>by simp[D.eqb] at h
 | .kl a,.str _,h=>by simp[D.eqb] at h
 | .kl a,.ref _,h=>by simp[D.eqb] at h
 | .kl a,.tup _,h=>by simp[D.eqb] at h
 | .kl a,.fn _,h=>by simp[D.eqb] at h
 | .kl a,.er _ _ _,h=>by simp[D.eqb] at h
 | .fn a,b,h=>by cases b <;> simp[D.eqb] at h ⊢;exact h
 | .er a b c,d,h=>by cases d <;> simp[D.eqb] at h ⊢;exact h
 | .ref a,b,h=>by cases b <;> simp[D.eqb] at h ⊢;exact h
theorem D.eqs_of:∀ {a b:List D},D.eqbs a b=true->a=b
 | [],[],_=>rfl
 | [],_::_,h=>by simp[D.eqbs] at h
 | _::_,[],h=>by simp[D.eqbs] at h
 | a::as,b::bs,h=>by
   rw[D.eqbs,Az] at h;rw[D.eq_of h.1,D.eqs_of h.2]
end
noncomputable instance:DecidableEq D:=fun a b=>if h:D.eqb a b=true then .isTrue (D.eq_of h) else .isFalse fun e=>h (by rw[e];exact D.eqb_refl b)
noncomputable def zcq(st:Sto)(n:Nat)(ds:List D):Bool:=match st[n]? with
 | some (.lst xs)=>D.eqbs xs ds
 | some (.fz xs)=>D.eqbs xs ds
 | _=>false
theorem zc6{st:Sto}{n:Nat}{ds:List D}(h:zcq st n ds=true):st[n]?=some (.lst ds)\/st[n]?=some (.fz ds):=by
 unfold zcq at h
 split at h
 . rename_i xs e;rw[D.eqs_of h] at e;exact .inl e
 . rename_i xs e;rw[D.eqs_of h] at e;exact .inr e
 . cases h
theorem zcp{st:Sto}{n:Nat}{ds:List D}(h:st[n]?=some (.lst ds)):zcq st n ds=true:=by unfold zcq;rw[h];exact D.eqbs_refl ds
section
variable {X:Cx} {e a b c:Expr} {es:List Expr} {st1 st2:Stmt} {rest body orelse:List Stmt} {pos:Pos} {m ma mb mc:ME} {mt mu:MT} {mm:MA} {ms mq mr:MS} {mg:MG} {mgs:MGs} {mi:MI}
variable {K:Aa} {H H1 H2:Hp} {io ka kb:List Addr} {st st':Sto}
noncomputable def walked(W:Wk)(st:Sto):Bool:=W.g.all fun p=>zcq st p.1 p.2
theorem zaB{W:Wk}(h:walked W st=true):stays W st:=fun p hp=>zc6 (List.all_eq_true.mp h p hp)
noncomputable def zch(W:Wk)(g:MG)(m:MS):List D->Rho->Sto->Option (Fl×Sto)
 | [],ρ,st=>if walked W st=true then some (.nx ρ,st) else none
 | d::ds,ρ,st=>if walked W st=true then (g d ρ st).bind fun (ρ1,s1)=>(m ρ1 s1).bind fun (f,s2)=>match f with
   | .nx ρ2=>zch W g m ds ρ2 s2
   | .ct ρ2=>zch W g m ds ρ2 s2
   | .bk ρ2=>some (.nx ρ2,s2)
   | .rt d=>some (.rt d,s2) else none
noncomputable def mFor(mi:MI)(g:MG)(m:MS):MS:=fun ρ st=>(mi ρ st).bind fun (W,s)=>zch W g m W.ds ρ s
theorem zfi{tg iter:Expr}(hp:PassesOwn (model X.prog X.w) X.A X.env X.xe)(hc:X.calm=true)(hi:SI X tg iter mi)(hg:SG X tg mg)(hb:SSs X body ms)
   (hs:∀ x,foldedSetIterable iter X.env x=pure x:=by intro _;rfl):SS X (.For tg iter body [] pos) (mFor mi mg ms):=PS.imp (zfu hp hc hi hg hb hs) fun N σ H h=>by
 obtain⟨ρ,st,io,f,st',E,S,e,w⟩:=zbh.mp h;obtain⟨⟨W,s1⟩,e1,e⟩:=zab e;refine⟨ρ,st,io,W,s1,E,S,e1,fun J H1 k1 X1 S1 IO=>?_⟩;refine⟨fun i n σ2 H2=>n=W.ds.length - i/\∃ ρ2 s2 k2,Ext (io++k1) k2 H1 H2/\StR X.K H2 ((io++k1)++k2) s2/\EnvR X.K H2 ((io++k1)++k2) σ2 ρ2/\zch W mg ms (W.ds.drop i) ρ2 s2=some (f,st'),
   ⟨_,rfl,ρ,s1,[],Ext.refl,by rw[Ad];exact S1,by rw[Ad];exact E.ext S X1,by rw[C7];exact e⟩,?_⟩
 rintro i n σ2 H2 ⟨rfl,ρ2,s2,k2,X2,S2,E2,e2⟩;have w2:Wn X.K ((io++k1)++k2) H2 st' N f:=(w.on X1 S1).on X2 S2
 cases hd:W.ds[i]? with
 | none =>
   have hl:W.ds.length<=i:=List.getElem?_eq_none_iff.mp hd;rw[Ck hl] at e2;obtain⟨hw,e2⟩:=zag e2;cases e2;refine .inl ⟨?_,w2 σ2 H2 [] Ext.refl S2.nil (by rw[Ad];exact E2)⟩
   -- the end may lie behind
   by_cases hi:i=W.ds.length
   . rw[hi];exact IO.stop H2 k2 _ X2 S2 (zaB hw)
   . exact IO.stop' H2 k2 _ i hl X2 S2 (zaB hw)
 | some d =>
   have hl:i < W.ds.length:=(List.getElem?_eq_some_iff.mp hd).1;have hdr:W.ds.drop i=d::W.ds.drop (i+1):=by
     rw[BR hl,(List.getElem?_eq_some_iff.mp hd).2]
   rw[hdr] at e2;obtain⟨hw,e2⟩:=zag e2;obtain⟨⟨ρ3,s3⟩,e3,e2⟩:=zab e2;obtain⟨⟨f4,s4⟩,e4,e2⟩:=zab e2;obtain⟨go,yl⟩:=IO.go i d H2 k2 s2 hd X2 S2 (zaB hw);refine .inr ⟨go,fun σ5 H5=>∃ ρ5 s5 k5,Ext (io++k1) k5 H1 H5/\StR X.K H5 ((io++k1)++k5) s5/\EnvR X.K H5 ((io++k1)++k5) σ5 ρ5/\zch W mg ms (W.ds.drop (i+1)) ρ5 s5=some (f,st'),
     fun σ5 H5 h5=>⟨W.ds.length - (i+1),by omega,rfl,h5⟩,fun x H' y=>?_⟩
   obtain⟨X3,S3,R3⟩:=yl x H' y;have X23:Ext (io++k1) k2 H1 H':=(X2.trans S2 X3).app;refine⟨d,ρ2,s2,(io++k1)++k2,ρ3,s3,R3,?_,S3,e3,fun σ6 H6 k6 X6 S6 E6=>?_⟩
   . have:=E2.ext S2 X3;rw[Ad] at this;exact this
   . refine zfa E6 S6 e4 ?_;have X26:=X23.trans S3 X6;have S6':StR X.K H6 ((io++k1)++(k2++k6)) s3:=by rw[<-Ag];exact S6
     have fin:∀ {ρ7:Rho},zch W mg ms (W.ds.drop (i+1)) ρ7 s4=some (f,st')->∀ σ7 H7 k7,Ext ((io++k1)++k2++k6) k7 H6 H7->StR X.K H7 ((io++k1)++k2++k6++k7) s4->EnvR X.K H7 ((io++k1)++k2++k6++k7) σ7 ρ7 ->
         ∃ ρ5 s5 k5,Ext (io++k1) k5 H1 H7/\StR X.K H7 ((io++k1)++k5) s5/\EnvR X.K H7 ((io++k1)++k5) σ7 ρ5/\zch W mg ms (W.ds.drop (i+1)) ρ5 s5=some (f,st'):=by
       intro ρ7 e7 σ7 H7 k7 X7 S7 E7;rw[Ag (io++k1)] at X7;rw[Ag (io++k1),Ag (io++k1)] at S7 E7;exact⟨ρ7,s4,(k2++k6)++k7,X26.trans S6' X7,S7,E7,e7⟩
     cases f4 with
     | nx ρ7=>exact fin e2
     | ct ρ7=>exact fin e2
     | bk ρ7 =>
       cases e2;exact ((w.on X1 S1).on X23 S3).on X6 S6
     | rt dd =>
       cases e2;exact ((w.on X1 S1).on X23 S3).on X6 S6
end
section
variable {X:Cx} {e a b c:Expr} {es:List Expr} {st1 st2:Stmt} {rest body orelse:List Stmt} {pos:Pos} {m ma mb mc:ME} {mt mu:MT} {mm:MA} {ms mq mr:MS} {mg:MG} {mgs:MGs} {mi:MI}
variable {K:Aa} {H H1 H2:Hp} {io ka kb:List Addr} {st st':Sto}
theorem zci{ρ:Rho}{x:D}{xs:List D}{s s1 s2:Sto}(h1:m ρ s=some (x,s1))(h2:mm ρ s1=some (xs,s2)):zah m mm ρ s=some (x::xs,s2):=by
 unfold zah;rw[h1];show Dh (mm ρ s1) _=_;rw[h2];rfl
noncomputable def zbK(st:Sto)(n:Nat):Option (List D):=match st[n]? with
 | some (.lst ds)=>some ds
 | some (.fz ds)=>some ds
 | _=>none
theorem za4{n:Nat}{p:Addr}{ds:List D}(S:StR K H io st)(hn:io[n]?=some p)(h:zbK st n=some ds):∃ xs,SqL K H p xs/\Reps K H io xs ds:=by
 unfold zbK at h
 split at h
 . rename_i o he;cases h;obtain⟨xs,e,r⟩:=S.ob n p _ hn he;exact⟨xs,SqL.of e,r⟩
 . rename_i o he;cases h;obtain⟨ob,xs,e,r⟩:=S.ob n p _ hn he;exact⟨xs,.inl (.inr ⟨ob,e⟩),r⟩
 . cases h
theorem zaR{io ka:List Addr}{n:Nat}{p:Addr}(h:io[n]?=some p):(io++ka)[n]?=some p:=by
 rw[Ah (List.getElem?_eq_some_iff.mp h).1];exact h
noncomputable def run(lo:Int)(n:Nat):List D:=(Bm n).map fun (k:Nat)=>D.int (lo+(k:Int))
theorem zbq(lo:Int)(n:Nat):(run lo n).length=n:=by unfold run;rw[AM,List.length_range]
theorem run_get{lo:Int}{n i:Nat}{d:D}(h:(run lo n)[i]?=some d):i < n/\d=.int (lo+(i:Int)):=by
 have hi:i < n:=by
   have q:=(List.getElem?_eq_some_iff.mp h).1
   rwa [zbq] at q
 unfold run at h;rw[AA,CA hi] at h;exact⟨hi,(Ai h).symm⟩
theorem zfP(lo:Int)(n:Nat):ItOk K H io ⟨run lo n,[]⟩ (Itr lo n) where
 go:=fun i d H1 k1 s hd X1 S1 hs=>by
   obtain⟨hi,rfl⟩:=run_get hd;refine⟨hi,fun x H' y=>?_⟩;obtain⟨rfl,rfl⟩:=y;exact⟨Ext.refl,S1,rfl⟩
 stop:=fun H1 k1 s X1 S1 hs=>by
   show n<=_;rw[zbq];exact Aj _
 stop':=fun H1 k1 s i hi X1 S1 hs=>by
   show n<=i;have hi:(run lo n).length<=i:=hi
   rwa [zbq] at hi
noncomputable def small(j:Int):Bool:=decide (-(2 ^ 62)<=j)&&decide (j < 2 ^ 62)
theorem zbX{j:Int}(h:small j=true):-(2 ^ 62)<=j/\j < 2 ^ 62:=by
 unfold small at h;rw[Az] at h;exact⟨of_decide_eq_true h.1,of_decide_eq_true h.2⟩
noncomputable def mR1(m:ME):MI:=fun ρ st=>(m ρ st).bind fun (d,s)=>match d with
 | .int j=>if small j=true then some (⟨run 0 j.toNat,[]⟩,s) else none
 | _=>none
theorem zbp{tg a:Expr}{p pos:Pos}(hg:Gl X "range")(hm:X.mg "range"=none)(ha:SE X a m)(hs:starEach [a] X.env=[(false,eval a X.env)]:=by rfl):SI X tg (.Call (.Name "range" p) [a] [] pos) (mR1 m) :=
 PI.imp (zcR hg hm (zaa ha zam hs) hs) <| by
   rintro σ H R ⟨ρ,st,io,W,st',E,S,e,k⟩;obtain⟨⟨d,s1⟩,e1,e⟩:=zab e;dsimp only at e
   split at e
   . rename_i j;obtain⟨hj,e⟩:=zag e;cases e;refine⟨ρ,st,io,[.int j],_,E,S,(zci e1 rfl),fun vs H1 k1 X1 S1 R1=>?_⟩;obtain⟨v,rfl,rfl⟩:=R1.one;exact⟨j,rfl,(zbX hj).1,(zbX hj).2,k _ H1 k1 X1 S1 (zfP 0 _)⟩
   . cases e
end
noncomputable def rho(n:Nat)(ds:List D):Rho:=ds.map some++A4 (n - ds.length) none
noncomputable def fnM(n:Nat)(m:MS):GN:=fun ds st=>(m (rho n ds) st).bind fun (f,s)=>match f with
 | .rt d=>some (d,s)
 | .nx _=>some (.non,s)
 | _=>none
theorem zdb{K:Aa}{H:Hp}{io:List Addr}{N:List Str}{vs:List V}{ds:List D}(R:Reps K H io vs ds):EnvR K H io (start N vs) (rho N.length ds):=by
 have hl:=R.length;refine⟨by unfold start rho;simp[hl],fun i d h=>?_⟩;unfold rho at h;unfold start
 by_cases hi:i < ds.length
 . rw[Ah (by simpa using hi),AA] at h
   cases e:ds[i]? with
   | none=>rw[e] at h;cases h
   | some d' =>
     rw[e] at h
     cases (Ai (Ai h))
     obtain⟨v,hv,r⟩:=R.get e;exact⟨v,by rw[Ah (by simpa[hl] using hi),AA,hv];rfl,r⟩
 . rw[As (by simpa using hi),AZ] at h
   split at h <;> cases h
section
variable {P:Program} {w:World} {K:Aa} {mg:Str->Option Value} {base:Heap}
theorem fn_m{x qual:Str}{st:Stmt}{f:Addr}{fd:FuncData}{N ps:List Str}{k:Nat}{m:MS}(F:Fun K x qual st f fd)(S:FnScope N ps (zad st))
   (hbody:∀ (cdv:Value) (A:Around) (outer:List Env) (s:Shared) (H:Hp) (E:XK),Room k (A.deeper (envOfC qual (zad st) s.heap.objs.size f cdv)) ->
     SSs (cxOf CX0 P w K mg base N qual (zad st) f cdv A outer s H E).nox (zap st) m):FnOk P w K mg base CX0 (k+1) f fd ps (spM K ps.length (fnM N.length m)):=by
 refine F.ok S (fun vs H Q E ⟨_,_,_,_,_,h,_⟩=>h) fun cdv A outer s H vs Q E hr h=>?_;obtain⟨ds,st0,io,d,st',hl,R,SR,e,k'⟩:=h;refine⟨_,hbody cdv A outer s H E hr,?_⟩;obtain⟨⟨fl,s1⟩,e1,e⟩:=zab e;refine zfa (zdb R) SR e1 ?_
 cases fl with
 | rt dd=>cases e;exact k'
 | nx ρ=>cases e;exact fun σ' H' ka X' S' E'=>k' .non H' ka X' S' rfl
 | bk ρ=>cases e
 | ct ρ=>cases e
end
noncomputable def clOf(cells:List (Str×Addr)):List (Str×NameKind)->List (Str×Addr)->List (Str×Addr)
 | [],acc=>acc
 | (n,k)::r,acc=>if k==.free then clOf cells r ((n,(cells.lookup n).getD 0)::acc) else clOf cells r acc
theorem zaO{env:Env}(f:Str×NameKind->List (Str×Addr)->Sem (ForInStep (List (Str×Addr))))
   (hf:∀ n k acc,f (n,k) acc=if k==.free then (do let c <-cellOf env n;pure (.yield ((n,c)::acc))) else pure (.yield acc)) :
   ∀ (names:List (Str×NameKind)) (acc:List (Str×Addr)),(∀ n,(n,Am)∈names->∃ c,env.cells.lookup n=some c)->(forIn names acc f:Sem (List (Str×Addr)))=pure (clOf env.cells names acc)
 | [],acc,_=>by rw[C8];rfl
 | (n,k)::r,acc,h=>by
   rw[List.forIn_cons,hf];unfold clOf
   cases hk:k==Am with
   | false =>
     rw[if_neg (by simp),if_neg (by simp)];have:=zaO f hf r acc fun m hm=>h m (Al _ hm);rw[<-this];rfl
   | true =>
     rw[if_pos rfl,if_pos rfl];have hk':k=Am:=by simpa using hk
     obtain⟨c,hc⟩:=h n (by rw[hk'];exact Ap);have:=zaO f hf r ((n,c)::acc) fun m hm=>h m (Al _ hm);rw[hc,B4,<-this];unfold cellOf;rw[hc];rfl
theorem zct{env:Env}{scope:Scope}(h:∀ n,(n,Am)∈scope.names->∃ c,env.cells.lookup n=some c):closureFor scope env=pure (clOf env.cells scope.names []):=by
 unfold closureFor;have:=zaO (env:=env) (fun x acc=>(match x with | (n,k)=>if k==.free then (do let c <-cellOf env n;pure (.yield ((n,c)::acc))) else pure (.yield acc))) (fun _ _ _=>rfl) scope.names [] h;refine Eq.trans ?_ this;simp only[bind_pure]
theorem zbl{cells:List (Str×Addr)}:∀ {names:List (Str×NameKind)} {acc:List (Str×Addr)} {p:Str×Addr},p∈clOf cells names acc->p∈acc\/((p.1,Am)∈names/\p.2=(cells.lookup p.1).getD 0)
 | [],acc,p,h=>.inl h
 | (n,k)::r,acc,p,h=>by
   unfold clOf at h
   cases hk:k==Am with
   | false =>
     rw[hk,if_neg (by simp)] at h
     rcases zbl h with h | h
     . exact .inl h
     . exact .inr ⟨Al _ h.1,h.2⟩
   | true =>
     rw[hk,if_pos rfl] at h;have hk':k=Am:=by simpa using hk
     rcases zbl h with h | h
     . rcases List.mem_cons.mp h with h | h
       . subst h;exact .inr ⟨by rw[hk'];exact Ap,rfl⟩
       . exact .inl h
     . exact .inr ⟨Al _ h.1,h.2⟩
theorem za5{cells:List (Str×Addr)}:∀ {names:List (Str×NameKind)} {acc:List (Str×Addr)} {x:Str},((x,Am)∈names\/(acc.lookup x).isSome=true)->((clOf cells names acc).lookup x).isSome=true
 | [],acc,x,h=>by
   rcases h with h | h
   . exact absurd h (by simp)
   . exact h
 | (n,k)::r,acc,x,h=>by
   unfold clOf
   cases hk:k==Am with
   | false =>
     rw[if_neg (by simp)];refine za5 ?_
     rcases h with h | h
     . rcases List.mem_cons.mp h with h | h
       . have:k=Am:=(AB h).2.symm;rw[this] at hk;exact absurd hk (by decide)
       . exact .inl h
     . exact .inr h
   | true =>
     rw[if_pos rfl];refine za5 ?_
     by_cases hx:x=n
     . subst hx;exact .inr (by simp)
     . rcases h with h | h
       . rcases List.mem_cons.mp h with h | h
         . exact absurd (AB h).1 hx
         . exact .inl h
       . refine .inr ?_;rw[Ax];have:(x==n)=false:=by simpa using hx
         rw[this];exact h
theorem za2:∀ {names:List (Str×NameKind)} {n:Nat} {acc:List (Str×Addr)} {p:Str×Addr},p∈cellsFrom n names acc->p∈acc\/n<=p.2
 | [],_,_,_,h=>.inl h
 | (x,k)::r,n,acc,p,h=>by
   unfold cellsFrom at h
   split at h
   . rcases za2 h with h | h
     . rcases List.mem_cons.mp h with h | h
       . subst h;exact .inr (Aj _)
       . exact .inl h
     . exact .inr (AV h)
   . exact za2 h
theorem zaH:∀ {names:List (Str×NameKind)} {n:Nat} {acc:List (Str×Addr)},(acc.Pairwise fun x y=>x.2≠y.2)->(∀ p∈acc,p.2 < n)->(cellsFrom n names acc).Pairwise fun x y=>x.2≠y.2
 | [],_,_,h,_=>h
 | (x,k)::r,n,acc,h,hl=>by
   unfold cellsFrom
   split
   . refine zaH (List.pairwise_cons.mpr ⟨fun y hy e=>?_,h⟩) fun p hp=>?_
     . have q:=hl y hy;have e':n=y.2:=e;rw[<-e'] at q;exact AD _ q
     . rcases List.mem_cons.mp hp with rfl | hp
       . exact Nat.lt_succ_self _
       . exact BN (hl p hp)
   . exact zaH h hl
theorem zb6:∀ {names:List (Str×NameKind)} {n:Nat} {acc:List (Str×Addr)} {x:Str},((x,Ar)∈names\/(acc.lookup x).isSome=true)->((cellsFrom n names acc).lookup x).isSome=true
 | [],n,acc,x,h=>by
   rcases h with h | h
   . exact absurd h (by simp)
   . exact h
 | (m,k)::r,n,acc,x,h=>by
   unfold cellsFrom
   cases hk:k==Ar with
   | false =>
     rw[if_neg (by simp)];refine zb6 ?_
     rcases h with h | h
     . rcases List.mem_cons.mp h with h | h
       . have:k=Ar:=(AB h).2.symm;rw[this] at hk;exact absurd hk (by decide)
       . exact .inl h
     . exact .inr h
   | true =>
     rw[if_pos rfl];refine zb6 ?_
     by_cases hx:x=m
     . subst hx;exact .inr (by simp)
     . rcases h with h | h
       . rcases List.mem_cons.mp h with h | h
         . exact absurd (AB h).1 hx
         . exact .inl h
       . refine .inr ?_;rw[Ax];have:(x==m)=false:=by simpa using hx
         rw[this];exact h
theorem za1:∀ {names:List (Str×NameKind)} {n:Nat} {acc:List (Str×Addr)} {x:Str},(x,Ar) ∉ names->(cellsFrom n names acc).lookup x=acc.lookup x
 | [],_,_,_,_=>rfl
 | (m,k)::r,n,acc,x,h=>by
   unfold cellsFrom
   cases hk:k==Ar with
   | false=>rw[if_neg (by simp)];exact za1 fun q=>h (Al _ q)
   | true =>
     rw[if_pos rfl,za1 fun q=>h (Al _ q),Ax];have hk':k=Ar:=by simpa using hk
     have:(x==m)=false:=by
       cases e:x==m with
       | false=>rfl
       | true=>exact absurd (by rw[hk',show x=m by simpa using e];exact Ap) h
     rw[this]
theorem zb7:∀ {names:List (Str×NameKind)} {n:Nat} {acc:List (Str×Addr)} {x:Str} {c:Addr},(x,Ar)∈names->(cellsFrom n names acc).lookup x=some c->n<=c
 | [],_,_,_,_,h,_=>absurd h (by simp)
 | (m,k)::r,n,acc,x,c,h,e=>by
   unfold cellsFrom at e
   cases hk:k==Ar with
   | false =>
     rw[hk,if_neg (by simp)] at e
     rcases List.mem_cons.mp h with h | h
     . have:k=Ar:=(AB h).2.symm;rw[this] at hk;exact absurd hk (by decide)
     . exact zb7 h e
   | true =>
     rw[hk,if_pos rfl] at e
     by_cases hr:(x,Ar)∈r
     . exact AV (zb7 hr e)
     . rw[za1 hr] at e
       rcases List.mem_cons.mp h with h | h
       . have hx:x=m:=(AB h).1;subst hx;rw[List.lookup_cons_self] at e;exact Nat.le_of_eq (Ai e)
       . exact absurd h hr
theorem za0:∀ {names:List (Str×NameKind)} {h:Heap} {acc:List (Str×Addr)} {p:Str×Addr},p∈cellsFrom h.objs.size names acc->p∈acc\/(pushCells h names).IsCell p.2 none
 | [],_,_,_,h=>.inl h
 | (x,k)::r,h,acc,p,e=>by
   unfold cellsFrom at e;unfold pushCells
   split at e
   . rename_i hk;rw[if_pos hk];have sz:(h.push { cls:=.type "cell",data:=.cell none }).objs.size=h.objs.size+1:=A6 ..;rw[<-sz] at e
     rcases za0 e with q | q
     . rcases List.mem_cons.mp q with q | q
       . subst q;exact .inr ⟨_,By _ _ _ _ (Aw _ rfl),rfl⟩
       . exact .inl q
     . exact .inr q
   . rename_i hk;rw[if_neg hk];exact za0 e
noncomputable def zaN(X:Cx)(scope:Scope)(N':List Str)(cells:List (Str×Addr))(C:Addr)(s0:Shared)(H0:Hp)(ex:List Addr):Cx :=
 { X with N:=N',s₀:=s0,H₀:=H0,env:=compEnvC scope cells C X.env,outer:=X.stack,ex:=ex,fn:=fun x=>scope.names.any fun p=>p.1==x&&p.2==.cell,pn:=[],xe:=fun _ _=>False }
structure CompS(X:Cx)(scope:Scope)(N':List Str)(nt:Nat)(fr:List Nat):Prop where
 kind:scope.kind=.function
 nd:(scope.names.map (·.1)).Nodup
 len:N'.length=nt+fr.length
 cap:∀ (i j:Nat) (x:Str),fr[i]?=some j->N'[nt+i]?=some x->X.N[j]?=some x/\(x,Am)∈scope.names
 out:∀ x,(x,Am)∈scope.names->X.env.kindOf x=some .cell\/X.env.kindOf x=some .free
theorem lookup_mem:∀ {l:List (Str×NameKind)} {x:Str} {k:NameKind},(l.map (·.1)).Nodup->(x,k)∈l->l.lookup x=some k
 | [],_,_,_,h=>absurd h (by simp)
 | (n,j)::r,x,k,nd,h=>by
   rw[AG,C2] at nd;rw[Ax]
   rcases List.mem_cons.mp h with h | h
   . cases h;simp
   . have:x≠n:=fun e=>nd.1 (by rw[<-e];exact List.mem_map.mpr ⟨_,h,rfl⟩);have:(x==n)=false:=by simpa using this
     rw[this];exact lookup_mem nd.2 h
theorem zaq{env:Env}:∀ {l:List (Str×NameKind)} {x:Str} {k:NameKind},(l.map fun (n,k)=>if (k==Am&&env.scope.kind==.function&&env.kindOf n==some .cell) then (n,Ar) else (n,k)).lookup x=some k ->
   ∃ k',l.lookup x=some k'/\(k'=k\/k'=.free)
 | [],_,_,h=>by simp at h
 | (n,j)::r,x,k,h=>by
   rw[AG] at h;dsimp only at h
   by_cases hc:(j==Am&&env.scope.kind==.function&&env.kindOf n==some .cell)=true
   . rw[if_pos hc,Ax] at h;rw[Ax]
     cases hx:x==n with
     | true =>
       have:j=.free:=by
         rw[Az,Az] at hc;simpa using hc.1.1
       exact⟨j,rfl,.inr this⟩
     | false=>rw[hx] at h;exact zaq h
   . rw[if_neg hc,Ax] at h;rw[Ax]
     cases hx:x==n with
     | true=>rw[hx] at h;cases h;exact⟨j,rfl,.inl rfl⟩
     | false=>rw[hx] at h;exact zaq h
theorem zay{env:Env}:∀ {l:List (Str×NameKind)} {x:Str},l.lookup x=some .free ->
   (l.map fun (n,k)=>if (k==Am&&env.scope.kind==.function&&env.kindOf n==some .cell) then (n,Ar) else (n,k)).lookup x=some .cell \/
   (l.map fun (n,k)=>if (k==Am&&env.scope.kind==.function&&env.kindOf n==some .cell) then (n,Ar) else (n,k)).lookup x=some .free
 | [],_,h=>by simp at h
 | (n,j)::r,x,h=>by
   rw[AG];dsimp only;rw[Ax] at h
   by_cases hc:(j==Am&&env.scope.kind==.function&&env.kindOf n==some .cell)=true
   . rw[if_pos hc,Ax]
     cases hx:x==n with
     | true=>exact .inl rfl
     | false=>rw[hx] at h;exact zay h
   . rw[if_neg hc,Ax]
     cases hx:x==n with
     | true=>rw[hx] at h;cases h;exact .inr rfl
     | false=>rw[hx] at h;exact zay h
section
variable {X:Cx} {scope:Scope} {N':List Str} {nt:Nat} {fr:List Nat} {pins:List (Addr×Obj)} {σ:L2.St} {H:Hp} {s:Shared}
noncomputable abbrev clX (X:Cx) (scope:Scope):List (Str×Addr):=clOf X.env.cells scope.names []
noncomputable abbrev zaP (X:Cx) (scope:Scope) (C:Nat):List (Str×Addr):=cellsFrom (C+1) scope.names (clX X scope)
theorem zcu(Z:CompS X scope N' nt fr)(ok:X.Ok){p:Str×Addr}(h:p∈clX X scope):(p.1,Am)∈scope.names/\X.env.cells.lookup p.1=some p.2:=by
 rcases zbl h with h | ⟨h1,h2⟩
 . exact absurd h (by simp)
 . obtain⟨c,hc⟩:=ok.has p.1 (Z.out p.1 h1);rw[hc,B4] at h2;exact⟨h1,by rw[hc,h2]⟩
theorem zde(Z:CompS X scope N' nt fr)(ok:X.Ok){x:Str}(h:(x,Am)∈scope.names):∃ c,X.env.cells.lookup x=some c/\∀ C,(zaP X scope C).lookup x=some c:=by
 obtain⟨c,hc⟩:=ok.has x (Z.out x h);refine⟨c,hc,fun C=>?_⟩;have no:(x,Ar) ∉ scope.names:=fun q=>by
   have a:=lookup_mem Z.nd h;have b:=lookup_mem Z.nd q;rw[a] at b;cases b
 rw[za1 no];have q:=za5 (cells:=X.env.cells) (acc:=[]) (.inl h);obtain⟨c',e⟩:=Option.isSome_iff_exists.mp q;have:=(zcu Z ok (Aq e)).2;have this:X.env.cells.lookup x=some c':=this;rw[hc] at this;rw[e,this]
theorem zd0(Z:CompS X scope N' nt fr)(ok:X.Ok):(clX X scope).Pairwise fun x y=>x.2≠y.2:=by
 have gen:∀ (names:List (Str×NameKind)) (acc:List (Str×Addr)),(∀ n,(n,Am)∈names->∃ c,X.env.cells.lookup n=some c)->(names.map (·.1)).Nodup->(∀ p∈acc,p.1 ∉ names.map (·.1)/\X.env.cells.lookup p.1=some p.2)->(acc.Pairwise fun x y=>x.2≠y.2) ->
     (clOf X.env.cells names acc).Pairwise fun x y=>x.2≠y.2:=by
   intro names
   induction names with
   | nil=>intro acc _ _ _ h;exact h
   | cons p r ih =>
     intro acc hf nd ha hp;obtain⟨n,k⟩:=p;rw[AG,C2] at nd;unfold clOf
     cases hk:k==Am with
     | false =>
       rw[if_neg (by simp)];exact ih acc (fun m hm=>hf m (Al _ hm)) nd.2 (fun q hq=>⟨fun z=>(ha q hq).1 (by rw[AG];exact Al _ z),(ha q hq).2⟩) hp
     | true =>
       rw[if_pos rfl];have hk':k=Am:=by simpa using hk
       obtain⟨c,hc⟩:=hf n (by rw[hk'];exact Ap);refine ih _ (fun m hm=>hf m (Al _ hm)) nd.2 (fun q hq=>?_) (List.pairwise_cons.mpr ⟨fun y hy e=>?_,hp⟩)
       . rcases List.mem_cons.mp hq with rfl | hq
         . exact⟨nd.1,by rw[hc];rfl⟩
         . exact⟨fun z=>(ha q hq).1 (by rw[AG];exact Al _ z),(ha q hq).2⟩
       . have e1:(X.env.cells.lookup n).getD 0=y.2:=e;rw[hc,B4] at e1;have e2:=(ha y hy).2;rw[<-e1] at e2;have:=ok.inj _ _ _ e2 hc;exact (ha y hy).1 (by rw[this,AG];exact Ap)
 exact gen scope.names [] (fun n hn=>ok.has n (Z.out n hn)) Z.nd (fun p hp=>absurd hp (by simp)) CM
theorem zdY{M:Model}{A:Around}{E:Value->Shared->Prop}{env:Env}{cl:List (Str×Addr)}{Q:Env->Shared->Prop}
   (h:Q { scope:=scope,locals:=s.heap.objs.size,globals:=env.globals,cells:=cellsFrom (s.heap.objs.size+1) scope.names cl,qual:=env.qual,func:=none,code:=env.code,frame:=env.frame,builtins:=env.builtins }
     { s with heap:=pushCells (s.heap.push { cls:=.type "dict",data:=.dict #[] }) scope.names }) :
   wpAny M A (newFunctionEnv scope env.globals cl [] env.qual none .none (some env)) Q E s:=by
 simp only[newFunctionEnv,Option.isSome_some,if_true];refine Ab (wpAny_alloc ?_);refine Ab (wpAny_layCells _ (fun name kind cells=>by cases hkc:kind==Ar <;> simp[hkc]) _ _ _ _ ?_);rw[show ({ s with heap:=s.heap.push { cls:=.type "dict",data:=.dict #[] } }:Shared).heap.objs.size=s.heap.objs.size+1 from A6 ..];rw[C8];exact Ab (Ac (Ac h))
noncomputable def zdd(σ:L2.St)(nt:Nat)(fr:List Nat):L2.St:=A4 nt none++fr.map fun (j:Nat)=>(σ[j]?).join
theorem zdQ{fp:List Addr}(Z:CompS X scope N' nt fr)(I:Inv X pins σ H s)(hf:∀ b∈fp,FpOk X pins H b)(hlt:∀ b∈fp,b < s.heap.objs.size) :
   Inv (zaN X scope N' (zaP X scope s.heap.objs.size) s.heap.objs.size s H fp) [] (zdd σ nt fr) H { s with heap:=pushCells (s.heap.push { cls:=.type "dict",data:=.dict #[] }) scope.names }:=by
 have ok:=I.ok;have kp:∀ b o,s.heap.get? b=some o->(pushCells (s.heap.push { cls:=.type "dict",data:=.dict #[] }) scope.names).get? b=some o:=fun b o e=>By _ _ b o (Af _ e);have clt:∀ p∈clX X scope,p.2 < s.heap.objs.size:=fun p hp=>by
   obtain⟨_,e⟩:=zcu Z ok hp;obtain⟨v,q⟩:=I.cell p.1 p.2 e;exact q.lt
 have sz:(s.heap.push { cls:=.type "dict",data:=.dict #[] }).objs.size=s.heap.objs.size+1:=A6 ..;have cells:∀ x c,(zaP X scope s.heap.objs.size).lookup x=some c->(X.env.cells.lookup x=some c)\/(s.heap.objs.size+1<=c/\(pushCells (s.heap.push { cls:=.type "dict",data:=.dict #[] }) scope.names).IsCell c none):=fun x c e=>by
   have m:=Aq e
   rcases za2 m with h | h
   . exact .inl (zcu Z ok h).2
   . refine .inr ⟨h,?_⟩;have m':(x,c)∈cellsFrom (s.heap.push { cls:=.type "dict",data:=.dict #[] }).objs.size scope.names (clX X scope):=by rw[sz];exact m
     rcases za0 m' with q | q
     . have l:=clt _ q;exact absurd (Ak l (AV h)) (AD _)
     . exact q
 refine⟨⟨ok.mod,Z.kind,ok.glob,ok.blt,Aj _,fun x y c h1 h2=>?_,fun x hx=>?_,fun x c h1 h2=>?_,ok.hd,ok.frames,.inl rfl,fun b hb=>?_,I.bs,AE ok.bsz I.sz,fun b o e hb=>?_,fun b hb=>?_,I.stack,I.stkFree⟩,
   rfl,I.bare,Un.kept kp,⟨fun _=>none,?_,fun i x v h1 h2 h3=>?_⟩,fun x c e=>?_,I.hok.fresh (Aj _),fun x c e=>?_,fun p hp=>absurd hp (by simp[zaN]),I.hok.kept kp,?_⟩
 . exact name_of_addr (zaH (zd0 Z ok) fun p hp=>BN (clt p hp)) (Aq h1) (Aq h2)
 . have hx:(relabel scope X.env).names.lookup x=some .cell\/(relabel scope X.env).names.lookup x=some .free:=hx;have q:(x,Ar)∈scope.names\/(x,Am)∈scope.names:=by
     rcases hx with hx | hx
     . obtain⟨k',e,z | z⟩:=zaq hx
       . subst z;exact .inl (Aq e)
       . subst z;exact .inr (Aq e)
     . obtain⟨k',e,z | z⟩:=zaq hx
       . subst z;exact .inr (Aq e)
       . subst z;exact .inr (Aq e)
   refine Option.isSome_iff_exists.mp (zb6 (n:=s.heap.objs.size+1) (acc:=clX X scope) ?_)
   rcases q with q | q
   . exact .inl q
   . exact .inr (za5 (.inl q))
 . have h1:(scope.names.any fun p=>p.1==x&&p.2==Ar)=true:=h1;obtain⟨p,hp,e⟩:=List.any_eq_true.mp h1;rw[Az] at e;have e1:p.1=x:=by simpa using e.1
   have e2:p.2=Ar:=by simpa using e.2
   have hm:(x,Ar)∈scope.names:=by rw[<-e1,<-e2];exact hp
   exact AV (zb7 hm h2)
 . refine⟨Ay (hlt b hb),fun x c e z=>?_⟩
   rcases cells x c e with q | ⟨q,_⟩
   . exact (hf b hb).2.2.2.2.1 x c q z
   . have l:=hlt b hb;rw[<-z] at l;exact absurd (Ak l (AV q)) (AD _)
 . rcases (hf b hb).2.2.2.1 with z | z
   . exact ok.noex b o e z
   . exact absurd (Ak (Ae e) (AE ok.bsz z)) (AD _)
 . intro hs
   rcases List.mem_cons.mp (I.stkSub b hs) with e | e
   . exact (hf b hb).2.1 e
   . exact (hf b hb).2.2.1 e
 . exact (Heap.Ns.new s.heap (.type "dict")).keeps (By _ _)
 . -- a captured name
   have hi:nt<=i:=by
     by_cases hi:i < nt
     . unfold zdd at h2;rw[Ah (by simpa using hi),AZ,if_pos hi] at h2;cases h2
     . omega
   obtain⟨i',rfl⟩:∃ i',i=nt+i':=⟨i - nt,by omega⟩
   unfold zdd at h2;rw[As (by simp),A5,Nat.add_sub_cancel_left,AA] at h2
   cases ej:fr[i']? with
   | none=>rw[ej] at h2;cases h2
   | some j =>
     rw[ej] at h2;have h2:(σ[j]?).join=some v:=Ai h2;have h2:σ[j]?=some (some v):=by
       cases q:σ[j]? with
       | none=>rw[q] at h2;cases h2
       | some w=>rw[q] at h2;cases w with
         | none=>cases h2
         | some w=>cases h2;rfl
     obtain⟨hN,hfree⟩:=Z.cap i' j x ej h1;obtain⟨c,hc,hcc⟩:=zde Z ok hfree;have ho:=Z.out x hfree;obtain⟨m,hn,hl⟩:=I.loc;obtain⟨u,r,l⟩:=hl j x v hN h2 (ho.elim (fun z=>.inr (.inl z)) fun z=>.inr (.inr z));refine⟨u,r,.inr ⟨?_,c,hcc _,?_⟩⟩
     . exact zay (lookup_mem Z.nd hfree)
     . rcases l with ⟨k,_⟩ | ⟨_,c',e',z⟩
       . rcases ho with q | q
         . rw[k] at q;cases q
         . rw[k] at q;cases q
       . rw[hc] at e';cases e';exact z.keeps kp
 . rcases cells x c e with q | ⟨_,q⟩
   . obtain⟨v,z⟩:=I.cell x c q;exact⟨v,z.keeps kp⟩
   . exact⟨none,q⟩
 . rcases cells x c e with q | ⟨q,_⟩
   . exact I.freeC x c q
   . exact I.hok.fresh (AV q)
 . show _=N'.length;unfold zdd;rw[Z.len,AK,A5,AM]
end
noncomputable abbrev FF:Value->Shared->Prop:=fun _ _=>False
theorem zbN{prog:Program}{w:World}{A:Around}{R:Result->Shared->Prop}{s:Shared}{elt target iter:Expr}{ifs:List Expr}{scope:Scope}{pos:Pos}{it acc:Value}{env:Env}(I:Nat->Shared->Prop)
   (turn:∀ n s,I n s->wpAny (model prog w) A (pyNext it) (fun r s1=>match r with
     | none=>R (.ok .next) s1
     | some v=>wpAny (model prog w) A (letOwnedTupleGo target it v) (fun _ s1=>wpAny (model prog w) A (assign target env v) (fun _ s2 =>
         wpAny (model prog w) A (forIn ifs true fun c r=>if r=true then do let ok <-isTrue c env (eval c env);pure (Bz ok) else pure (Bz r)) (fun ok s3 =>
           if ok=true then wpAny (model prog w) A (eval elt env) (fun x s4 =>
             wpAny (model prog w) A (call (.builtin "list.append") [acc,x]) (fun _ s5=>∃ m,m < n/\I m s5) FF s4) FF s3
           else ∃ m,m < n/\I m s3) FF s2) FF s1) FF s1) FF s)
   (n:Nat) (h:I n s) :
   codeAny (model prog w) A (.compLoop (.ListComp elt [⟨target,iter,ifs,0⟩] scope pos) 0 it acc env) R s:=by
 refine codeAny_loop rfl I (fun n s hI=>?_) n h;show wpAny _ A ((compTurn (.ListComp elt [⟨target,iter,ifs,0⟩] scope pos) 0 it acc env).onRaise (fun x=>do noteFrame x env;theTreesLotGoes x)) _ _ s;refine wpAny_noted ?_;rw[compTurn_list];refine Ab (wpAny_standAt (Ab (AH (turn n s hI) (fun r s₁ h₁=>?_) fun _ _ h'=>False.elim h')))
 cases r with
 | none=>exact Ac h₁
 | some v =>
   refine Ab (AH h₁ (fun _ s₂ h₂=>?_) fun _ _ h'=>False.elim h');refine Ab (AH h₂ (fun _ s₂ h₂=>Ab (AH h₂ (fun ok s₃ h₃=>?_) fun _ _ h'=>False.elim h')) fun _ _ h'=>False.elim h')
   cases ok with
   | false=>exact Ac ⟨rfl,h₃⟩
   | true =>
     exact Ab (Ab (AH h₃ (fun x s₄ h₄=>Ab (AH h₄ (fun _ s₅ h₅=>Ac (Ac ⟨rfl,h₅⟩)) fun _ _ h'=>False.elim h')) fun _ _ h'=>False.elim h'))
noncomputable def mCI(W:Wk)(g:MG)(c:MT)(m:ME):List D->Rho->Sto->Option (List D×Sto)
 | [],ρ,st=>if walked W st=true then some ([],st) else none
 | d::ds,ρ,st=>if walked W st=true then (g d ρ st).bind fun (ρ1,s1)=>(c ρ1 s1).bind fun (b,s2) =>
     if b=true then (m ρ1 s2).bind fun (x,s3)=>(mCI W g c m ds ρ1 s3).map fun (xs,s4)=>(x::xs,s4) else mCI W g c m ds ρ1 s2 else none
noncomputable def rho0(ρ:Rho)(nt:Nat)(fr:List Nat):Rho:=A4 nt none++fr.map fun (j:Nat)=>(ρ[j]?).join
noncomputable def zeK(mi:MI)(nt:Nat)(fr:List Nat)(g:MG)(c:MT)(m:ME):ME:=fun ρ st=>(mi ρ st).bind fun (W,s1)=>(mCI W g c m W.ds (rho0 ρ nt fr) s1).bind fun (xs,s2) =>
 if fits xs.length=true then some (.ref s2.length,s2++[.lst xs]) else none
def SC(X:Cx)(ifs:List Expr)(m:MT):Prop:=∀ (pins:List (Addr×Obj)) (s:Shared) (σ:L2.St) (H:Hp) (Q:Bool->Hp->Prop),Inv X pins σ H s->tT X.K m σ H Q ->
 wpAny (model X.prog X.w) X.A (forIn ifs true fun c r=>if r=true then do let ok <-isTrue c X.env (eval c X.env);pure (Bz ok) else pure (Bz r)) (TP X pins σ Q) X.xe s
theorem zfo{X:Cx}{c:Expr}{m:MT}(h:SB X c m):SC X [c] m:=fun pins s σ H Q I q=>PySem.wpAny_tests_one (h pins s σ H Q I q)
section
variable {K:Aa} {H H1:Hp} {io ka:List Addr} {st:Sto} {σ:L2.St} {ρ:Rho}
theorem zdU{nt:Nat}{fr:List Nat}(h:EnvR K H io σ ρ):EnvR K H io (zdd σ nt fr) (rho0 ρ nt fr):=by
 refine⟨by unfold zdd rho0;simp,fun i d e=>?_⟩;unfold rho0 at e;unfold zdd
 by_cases hi:i < nt
 . rw[Ah (by simpa using hi),AZ,if_pos hi] at e;cases e
 . rw[As (by simpa using hi),A5,AA] at e ⊢
   cases ej:fr[i - nt]? with
   | none=>rw[ej] at e;cases e
   | some j =>
     rw[ej] at e;have e:(ρ[j]?).join=some d:=Ai e;have e:ρ[j]?=some (some d):=by
       cases q:ρ[j]? with
       | none=>rw[q] at e;cases e
       | some w=>rw[q] at e;cases w with
         | none=>cases e
         | some w=>cases e;rfl
     obtain⟨v,hv,r⟩:=h.at_ j d e;exact⟨v,by simp[hv],r⟩
theorem adopt{p:Addr}{xs:List V}{ds:List D}(S:StR K H io st)(hp:H p=some (.lst xs))(np:p ∉ io)(R:Reps K H io xs ds):StR K H (io++[p]) (st++[.lst ds]):=by
 refine⟨by simp[S.len],?_,fun n a ob h1 h2=>?_⟩
 . rw[CO];refine⟨S.nd,by simp,fun a ha b hb=>?_⟩;rw[List.mem_singleton.mp hb];rintro rfl;exact np ha
 . by_cases hn:n < io.length
   . rw[Ah hn] at h1;rw[Ah (by rw[<-S.len];exact hn)] at h2;exact OR.mono ⟨fun _ _ h=>h,fun _ _ _ h=>h⟩ rfl (S.ob n a ob h1 h2)
   . have hl:n < (io++[p]).length:=(List.getElem?_eq_some_iff.mp h1).1;rw[AK,Bs] at hl;have e:n=io.length:=by omega
     subst e;rw[As (Aj _),Bx] at h1;rw[S.len,As (Aj _),Bx] at h2
     cases (Ai h1)
     cases (Ai h2)
     exact⟨xs,hp,Reps.mono ⟨fun _ _ h=>h,fun _ _ _ h=>h⟩ R⟩
end
section
variable {X:Cx} {scope:Scope} {N':List Str} {nt:Nat} {fr:List Nat} {elt tg iter:Expr} {ifs:List Expr} {pos:Pos} {mi:MI} {g:MG} {c:MT} {m:ME}
structure CompEnd(X:Cx)(pins:List (Addr×Obj))(σ:L2.St)(H:Hp)(io:List Addr)(d:D)(st':Sto)(Dd C:Addr)(H5:Hp)(s6:Shared):Prop where
 inv:Inv X pins σ H5 s6
 ns:∃ m,s6.heap.Ns C m
 free:H5 C=none
 ne:C≠X.env.locals
 young:X.s₀.heap.objs.size<=C
 cells:∀ x c,X.env.cells.lookup x=some c->c≠C
 pin:∀ p∈X.pn++pins,p.1≠C
 val:∃ ka,Ext io ka H H5/\StR X.K H5 (io++ka) st'/\Rep X.K H5 (io++ka) (.ref Dd) d
inductive CompI (X Y:Cx) (W:Wk) (tn:Nat->Heap->Prop) (fp io:List Addr) (H1:Hp) (Dd:Addr) (g:MG) (c:MT) (m:ME) (t2:Sto) (xs:List D) (n:Nat) (s5:Shared):Prop
 | mk (i:Nat) (σ5:L2.St) (H5:Hp) (ρ5:Rho) (st5:Sto) (k5:List Addr) (ac rs:List D) (h0:n=W.ds.length - i) (h1:Inv Y [] σ5 H5 s5) (h2:tn i s5.heap) (h3:∀ b∈fp,H5 b=none) (h4:Ext io k5 H1 H5) (h5:Dd ∉ k5) (h6:StR X.K H5 (io++k5) st5) (h7:EnvR X.K H5 (io++k5) σ5 ρ5) (h8:∃ vs,H5 Dd=some (.lst vs)/\Reps X.K H5 (io++k5) vs ac) (h9:mCI W g c m (W.ds.drop i) ρ5 st5=some (rs,t2)) (h10:xs=ac++rs)
theorem zdX(hx:X.xe=FF)(hc:X.calm=true)(Z:CompS X scope N' nt fr)(hi:SI X tg iter mi)
   (hg:∀ C s0 H0 fp,SG (zaN X scope N' (zaP X scope C) C s0 H0 fp) tg g) (ht:∀ C s0 H0 fp,SC (zaN X scope N' (zaP X scope C) C s0 H0 fp) ifs c) (he:∀ C s0 H0 fp,SE (zaN X scope N' (zaP X scope C) C s0 H0 fp) elt m)
   (hs:∀ x,foldedSetIterable iter X.env x=pure x) {pins:List (Addr×Obj)} {s:Shared} {σ:L2.St} {H:Hp} {ρ:Rho} {st st':Sto} {io:List Addr} {d:D} {use:Option (Value->Sem Unit)} {Qf:Value->Shared->Prop} {ps:Pos}
   (I:Inv X pins σ H s) (E:EnvR X.K H io σ ρ) (S:StR X.K H io st) (e:zeK mi nt fr g c m ρ st=some (d,st'))
   (kf:∀ Dd C H5 s6,CompEnd X pins σ H io d st' Dd C H5 s6->compPost (model X.prog X.w) X.A X.xe use Qf (.ref Dd) C (.ok .next) s6) :
   wpAny (model X.prog X.w) X.A (comprehension (.ListComp elt [⟨tg,iter,ifs,0⟩] scope pos) scope X.env ps (newList []) false (eval iter X.env) use) Qf X.xe s:=by
 obtain⟨⟨W,t1⟩,e1,e⟩:=zab e;obtain⟨⟨xs,t2⟩,e2,e⟩:=zab e;obtain⟨hfit,e⟩:=zag e;cases e;refine wpAny_comprehension_free (use:=use) rfl hs (zct fun n hn=>I.ok.has n (Z.out n hn)) Z.kind (fun x hx hl=>by
   obtain⟨n,k⟩:=x
   cases (show k=.local from hl)
   exact lookup_mem Z.nd hx) ?_
 refine thn (hi pins s σ H (fun J H1=>∃ ka,Ext io ka H H1/\StR X.K H1 (io++ka) t1/\ItOk X.K H1 (io++ka) W J) I ⟨ρ,st,io,W,t1,E,S,e1,fun J H' ka X' S' O'=>⟨ka,X',S',O'⟩⟩) fun v sa ha=>?_;refine thn ha ?_;rintro itv s2 ⟨it,fp,tn,J,H1,eit,I1,T,tn0,fpok,k1,X1,S1,IO⟩;subst eit;refine AW ?_
 -- the new list
 have hD:H1 s2.heap.objs.size=none:=I1.hok.fresh (Aj _);have I3:Inv X pins σ (upd H1 s2.heap.objs.size (.lst [])) { s2 with heap:=s2.heap.push { cls:=.type "list",data:=.seq ([]:List Value).toArray },toks:=s2.toks }:=I1.lnew .nil (Bc _);obtain⟨X2,S2a⟩:=zcd (o:=.lst []) S1 hD;rw[Ad] at S2a;have S2:StR X.K (upd H1 s2.heap.objs.size (.lst [])) (io++k1) t1:=S2a;clear S2a;generalize hH3:upd H1 s2.heap.objs.size (.lst [])=H3 at I3 X2 S2;have H3D:H3 s2.heap.objs.size=some (.lst []):=by rw[<-hH3];exact zai
 generalize hD':s2.heap.objs.size=Dd at hD I3 X2 S2 hH3 H3D ⊢;generalize hs3:({ s2 with heap:=s2.heap.push { cls:=.type "list",data:=.seq ([]:List Value).toArray },toks:=s2.toks }:Shared)=s3 at I3;have fplt:∀ b∈fp,b < s3.heap.objs.size:=fun b hb=>by
   obtain⟨o,ho,_⟩:=T.obj 0 _ tn0 b hb;rw[<-hs3];exact Ak (Ae ho) (by show _<=(s2.heap.push _).objs.size;rw[A6];exact BG _)
 have fpD:∀ b∈fp,b≠Dd:=fun b hb z=>by
   obtain⟨o,ho,_⟩:=T.obj 0 _ tn0 b hb;have:=Ae ho;rw[z,<-hD'] at this;exact AD _ this
 have fp3:∀ b∈fp,FpOk X pins H3 b:=fun b hb=>⟨by rw[<-hH3,zaf (fpD b hb)];exact (fpok b hb).1,(fpok b hb).2⟩
 have tn3:tn 0 s3.heap:=T.keep 0 _ _ tn0 fun b _ o ho=>by rw[<-hs3];exact Af _ ho
 refine zdY ?_;have I4:=zdQ (fp:=fp) Z I3 fp3 fplt;have tn4:tn 0 (pushCells (s3.heap.push { cls:=.type "dict",data:=.dict #[] }) scope.names):=T.keep 0 _ _ tn3 fun b _ o ho=>By _ _ _ _ (Af _ ho);generalize hs4:({ s3 with heap:=pushCells (s3.heap.push { cls:=.type "dict",data:=.dict #[] }) scope.names }:Shared)=s4 at I4;have tn4:tn 0 s4.heap:=by rw[<-hs4];exact tn4
 show codeAny (model X.prog X.w) X.A (.compStart (.ListComp elt [⟨tg,iter,ifs,0⟩] scope pos) 0 (.ref it) (.ref Dd) (zaN X scope N' (zaP X scope s3.heap.objs.size) s3.heap.objs.size s3 H3 fp).env) _ _;generalize hY:zaN X scope N' (zaP X scope s3.heap.objs.size) s3.heap.objs.size s3 H3 fp=Y at I4;have yP:Y.prog=X.prog:=by rw[<-hY];rfl
 have yW:Y.w=X.w:=by rw[<-hY];rfl
 have yK:Y.K=X.K:=by rw[<-hY];rfl
 have yC:Y.calm=true:=by rw[<-hY];exact hc
 have yA:Y.A=X.A:=by rw[<-hY];rfl
 have yx:Y.xe=FF:=by rw[<-hY];rfl
 have hg:=hg s3.heap.objs.size s3 H3 fp;have ht:=ht s3.heap.objs.size s3 H3 fp;have he:=he s3.heap.objs.size s3 H3 fp;rw[hY] at hg ht he;have yex:Y.ex=fp:=by rw[<-hY];rfl
 have yfs:∀ b∈fp,b ∉ Y.fs:=fun b hb hs=>by
   rw[<-hY] at hs;have hs:b∈frs X.stack:=hs
   rcases List.mem_cons.mp (I3.stkSub b hs) with z | z
   . exact (fp3 b hb).2.1 z
   . exact (fp3 b hb).2.2.1 z
 have yL:Y.env.locals=s3.heap.objs.size:=by rw[<-hY];rfl
 -- the loop
 have hio:Dd ∉ io++k1:=fun hm=>by
   obtain⟨u,hu,_⟩:=S1.mem hm;rw[hD] at hu;cases hu
 have start:∀ {H':Hp} {sx:Shared} {σ':L2.St},Inv Y [] σ' H' sx->(∀ b∈fp,H' b=none)->∀ b∈fp,FpOk Y [] H' b:=fun {H' sx σ'} I' hn b hb=>by
   refine⟨hn b hb,fun z=>?_,yfs b hb,.inl (by rw[yex];exact hb),fun x cc e z=>?_,fun p hp=>absurd hp (by rw[<-hY];simp[zaN])⟩
   . rw[yL] at z;exact absurd (fplt b hb) (by rw[z];exact AD _)
   . exact (I'.ok.exf b (by rw[yex];exact hb)).2 x cc e z
 have loop:∀ sx:Shared,Inv Y [] (zdd σ nt fr) H3 sx->tn 0 sx.heap->codeAny (model X.prog X.w) X.A (.compLoop (.ListComp elt [⟨tg,iter,ifs,0⟩] scope pos) 0 (.ref it) (.ref Dd) Y.env) (compPost (model X.prog X.w) X.A X.xe use Qf (.ref Dd) s3.heap.objs.size) sx:=by
   intro sx Ix tnx;refine zbN (CompI X Y W tn fp (io++k1) H1 Dd g c m t2 xs) ?_ (W.ds.length - 0)
     ⟨0,zdd σ nt fr,H3,rho0 ρ nt fr,t1,[],[],xs,rfl,Ix,tnx,fun b hb=>(fp3 b hb).1,X2,by simp,S2.nil,by rw[Ad];exact zdU (by have:=(E.ext S X1).ext S1 X2;rw[Ad] at this;exact this),⟨[],H3D,rfl⟩,by rw[C7];exact e2,rfl⟩
   rintro n s5 ⟨i,σ5,H5,ρ5,st5,k5,ac,rs,rfl,I5,tn5,fr5,X25,nk5,S5,E5,⟨vs,hvs,Rvs⟩,e5,exs⟩;have nD:∀ {kk:List Addr},Dd ∉ kk->Dd ∉ (io++k1)++kk:=fun {kk} hk hm=>(List.mem_append.mp hm).elim hio hk;have nF:∀ {kk jj:List Addr} {Ha Hb:Hp} {vv:List V},Ext jj kk Ha Hb->Ha Dd=some (.lst vv)->Dd ∉ kk:=fun {kk jj Ha Hb vv} Xx hv hm=>by
     have q:=Xx.fresh Dd hm;rw[hv] at q;cases q
   cases hd:W.ds[i]? with
   | none =>
     have hl:W.ds.length<=i:=List.getElem?_eq_none_iff.mp hd;rw[Ck hl] at e5;obtain⟨hw,e5⟩:=zag e5;cases e5;have:=T.done Y yP yW yK yC i [] s5 σ5 H5 FF I5 (start I5 fr5) tn5 (IO.stop' H5 k5 _ i hl X25 S5 (zaB hw));rw[yA] at this;refine thn this ?_;rintro r s6 ⟨hr,I6⟩;subst hr;obtain⟨mm,hn,_⟩:=id I6.loc;rw[yL] at hn
     -- back in the frame
     have base:Un (frs X.stack) fp H3 H5 s3.heap s6.heap:=by
       have b:=I6.base;rw[<-hY] at b;exact b
     have os:s6.os=s3.os:=by
       have b:=I6.os;rw[<-hY] at b;exact b
     have free:H5 s3.heap.objs.size=none:=by
       have b:=I6.free;rw[yL] at b;exact b
     have hok:HOk X.prog X.w H5 s6.heap:=by
       have b:=I6.hok;rw[yP,yW] at b;exact b
     have I7:Inv X pins σ H5 s6:=Inv.call' (s':=s6) (ch:=fp) I3 os base hok I6.bare fun b hb=>⟨(fp3 b hb).2.2.2.1,(fp3 b hb).2.1,(fp3 b hb).2.2.2.2.1,(fp3 b hb).2.2.2.2.2⟩
     have np:Dd ∉ (io++k1)++k5:=nD nk5;rw[Ad] at exs;subst exs;have SA:=adopt S5 hvs np Rvs;have X6:Ext io (k1++k5) H H5:=X1.trans S1 X25;have lt3:X.env.locals < s3.heap.objs.size:=I3.lt;refine kf Dd s3.heap.objs.size H5 s6 ⟨I7,⟨mm,hn⟩,free,BZ lt3,I3.sz,fun x cc e z=>?_,fun p hp z=>?_,?_⟩
     . obtain⟨vv,q⟩:=I3.cell x cc e;have:=q.lt;rw[z] at this;exact AD _ this
     . have:=Ae (I3.pin p hp).1;rw[z] at this;exact AD _ this
     refine⟨(k1++k5)++[Dd],⟨fun b o hb nb=>X6.keep b o hb nb,fun b hb=>?_,X6.frz⟩,(by simpa using SA),⟨Dd,rfl,?_⟩⟩
     . rcases List.mem_append.mp hb with hb | hb
       . exact X6.fresh b hb
       . rw[List.mem_singleton.mp hb]
         cases q:H Dd with
         | none=>rfl
         | some o =>
           by_cases hb:Dd∈io
           . exact absurd (A9 _ hb) hio
           . have:=X1.keep Dd o q hb;rw[hD] at this;cases this
     . have:=getElem?_len ((io++k1)++k5) Dd;rw[<-S5.len];simpa using this
   | some dd =>
     have hl:i < W.ds.length:=(List.getElem?_eq_some_iff.mp hd).1;have hdr:W.ds.drop i=dd::W.ds.drop (i+1):=by
       rw[BR hl,(List.getElem?_eq_some_iff.mp hd).2]
     rw[hdr] at e5;obtain⟨hw,e5⟩:=zag e5;obtain⟨⟨ρ6,t6⟩,e6,e5⟩:=zab e5;obtain⟨⟨b7,t7⟩,e7,e5⟩:=zab e5;obtain⟨go,yl⟩:=IO.go i dd H5 k5 st5 hd X25 S5 (zaB hw);have hit:=T.item Y yP yW yK yC i [] s5 σ5 H5 FF I5 (start I5 fr5) tn5 go;rw[yA] at hit;refine thn hit ?_;rintro r s6 ⟨u,hr,h6⟩;subst hr;refine thn h6 ?_;rintro _ s7 ⟨x,H7,I7,r7,y7,tn7,fr7⟩;obtain⟨X7,S7,R7⟩:=yl x H7 y7;have X57:Ext (io++k1) k5 H1 H7:=(X25.trans S5 X7).app;have hv7:H7 Dd=some (.lst vs):=X7.keep _ _ hvs (nD nk5);have E7:EnvR X.K H7 ((io++k1)++k5) σ5 ρ5:=by
       have:=E5.ext S5 X7;rw[Ad] at this;exact this
     have R7v:Reps X.K H7 ((io++k1)++k5) vs ac:=by
       have:=Rvs.ext S5 X7;rw[Ad] at this;exact this
     have I7p:=I7.pinned (start I7 fr7) (T.obj _ _ tn7);rw[<-yA,<-yP,<-yW];rw[<-yx];refine thn (hg _ s7 σ5 H7 x u (fun σ8 H8=>∃ k8,Ext ((io++k1)++k5) k8 H7 H8/\StR X.K H8 (((io++k1)++k5)++k8) t6/\EnvR X.K H8 (((io++k1)++k5)++k8) σ8 ρ6) I7p r7 (by rw[yK];exact⟨dd,ρ5,st5,(io++k1)++k5,ρ6,t6,R7,E7,S7,e6,fun σ8 H8 k8 X8 S8 E8=>⟨k8,X8,S8,E8⟩⟩)) ?_;rintro _ s8 ⟨σ8,H8,I8,k8,X8,S8,E8⟩;have S8':StR X.K H8 ((io++k1)++(k5++k8)) t6:=by rw[<-Ag];exact S8
     have E8':EnvR X.K H8 ((io++k1)++(k5++k8)) σ8 ρ6:=by rw[<-Ag];exact E8
     have X38:Ext (io++k1) (k5++k8) H1 H8:=X57.trans S7 X8;have nk8:Dd ∉ k5++k8:=fun hm=>(List.mem_append.mp hm).elim nk5 (nF X8 hv7);refine thn (ht _ s8 σ8 H8 (fun b H9=>b=b7/\∃ k9,Ext ((io++k1)++(k5++k8)) k9 H8 H9/\StR X.K H9 (((io++k1)++(k5++k8))++k9) t7) I8 (by rw[yK];exact⟨ρ6,t6,(io++k1)++(k5++k8),b7,t7,E8',S8',e7,fun H9 k9 X9 S9=>⟨rfl,k9,X9,S9⟩⟩)) ?_;rintro ok s9 ⟨H9,I9,eb,k9,X9,S9⟩;subst eb;have X39:Ext (io++k1) ((k5++k8)++k9) H1 H9:=X38.trans S8' X9;have S9':StR X.K H9 ((io++k1)++((k5++k8)++k9)) t7:=by rw[<-Ag];exact S9
     have E9:EnvR X.K H9 ((io++k1)++((k5++k8)++k9)) σ8 ρ6:=by
       have:=E8'.ext S8' X9;rw[Ag] at this;exact this
     have hv8:H8 Dd=some (.lst vs):=X8.keep _ _ hv7 (nD nk5);have hv9:H9 Dd=some (.lst vs):=X9.keep _ _ hv8 (nD nk8);have nk9:Dd ∉ (k5++k8)++k9:=fun hm=>(List.mem_append.mp hm).elim nk8 (nF X9 hv8);have R8v:Reps X.K H8 ((io++k1)++(k5++k8)) vs ac:=by
       have:=R7v.ext S7 X8;rw[Ag] at this;exact this
     have R9v:Reps X.K H9 ((io++k1)++((k5++k8)++k9)) vs ac:=by
       have:=R8v.ext S8' X9;rw[Ag] at this;exact this
     have back:∀ {Hx:Hp} {sx:Shared} {σx:L2.St},Inv Y ([]++zb3 fp s7.heap) σx Hx sx->Inv Y [] σx Hx sx/\tn (i+1) sx.heap/\∀ b∈fp,Hx b=none:=fun {Hx sx σx} Ix=>by
       refine⟨Ix.unpinned,T.keep _ _ _ tn7 fun b hb o e=>(Ix.pin (b,o) (Av _ (Av _ (zaD hb e)))).1,fun b hb=>?_⟩;obtain⟨o,e,dn⟩:=T.obj _ _ tn7 b hb;exact (Ix.pin (b,o) (Av _ (Av _ (zaD hb e)))).2.1
     cases ok with
     | false =>
       rw[if_neg (by decide)];have e5:mCI W g c m (W.ds.drop (i+1)) ρ6 t7=some (rs,t2):=e5;obtain⟨Ib,tnb,frb⟩:=back I9;exact⟨W.ds.length - (i+1),by omega,i+1,σ8,H9,ρ6,t7,(k5++k8)++k9,ac,rs,rfl,Ib,tnb,frb,X39,nk9,S9',E9,⟨vs,hv9,R9v⟩,e5,exs⟩
     | true =>
       rw[if_pos rfl];have e5:((m ρ6 t7).bind fun (x,s3)=>(mCI W g c m (W.ds.drop (i+1)) ρ6 s3).map fun (xs,s4)=>(x::xs,s4))=some (rs,t2):=e5;obtain⟨⟨x10,t10⟩,e10,e5⟩:=zab e5;obtain⟨⟨rs',t11⟩,e11,e5⟩:=zae e5;cases e5;refine thn (he _ s9 σ8 H9 (fun v H10=>∃ k10,Ext ((io++k1)++((k5++k8)++k9)) k10 H9 H10/\StR X.K H10 (((io++k1)++((k5++k8)++k9))++k10) t10/\Rep X.K H10 (((io++k1)++((k5++k8)++k9))++k10) v x10) I9
         (by rw[yK];exact⟨ρ6,t7,(io++k1)++((k5++k8)++k9),x10,t10,E9,S9',e10,fun v H10 k10 X10 S10 R10=>⟨k10,X10,S10,R10⟩⟩)) fun u10 s10 ⟨v10,H10,I10,r10,k10,X10,S10,R10⟩=>?_
       have X310:Ext (io++k1) (((k5++k8)++k9)++k10) H1 H10:=X39.trans S9' X10;have nk10:Dd ∉ ((k5++k8)++k9)++k10:=fun hm=>(List.mem_append.mp hm).elim nk9 (nF X10 hv9);have S10':StR X.K H10 ((io++k1)++(((k5++k8)++k9)++k10)) t10:=by rw[<-Ag];exact S10
       have hv10:H10 Dd=some (.lst vs):=X10.keep _ _ hv9 (nD nk9);have E10:EnvR X.K H10 ((io++k1)++(((k5++k8)++k9)++k10)) σ8 ρ6:=by
         have:=E9.ext S9' X10;rw[Ag] at this;exact this
       have R10v:Reps X.K H10 ((io++k1)++(((k5++k8)++k9)++k10)) (vs++[v10]) (ac++[x10]):=by
         have a:=R9v.ext S9' X10;rw[Ag] at a;rw[Ag] at R10;exact a.append (Reps.cons R10 Reps.nil)
       have hlen:vs.length < sizeLine:=by
         rw[R9v.length];have:=of_decide_eq_true hfit;rw[exs] at this;simp at this;omega
       refine thn (zcW _ s10 σ8 H10 (.ref Dd) [v10] (.ref Dd) [u10] (fun _ H11=>H11=upd H10 Dd (.lst (vs++[v10]))) I10 rfl (.cons r10 .nil) ⟨Dd,vs,v10,rfl,rfl,hv10,hlen,rfl⟩) ?_;rintro _ s11 ⟨_,H11,I11,_,e11'⟩;subst e11';have nD10:=nD nk10
       -- the new list is written: nothing of the store
       have XU:∀ b o,H10 b=some o->b≠Dd->upd H10 Dd (.lst (vs++[v10])) b=some o:=fun b o hb hn=>by rw[zaf hn];exact hb
       have TU:Kp H10 (upd H10 Dd (.lst (vs++[v10]))):=⟨fun a ys hb=>XU a _ hb (zgb hb hv10 (by simp)),fun a o u hb=>XU a _ hb (zgb hb hv10 (by simp))⟩
       have S11:StR X.K (upd H10 Dd (.lst (vs++[v10]))) ((io++k1)++(((k5++k8)++k9)++k10)) t10:=by
         refine⟨S10'.len,S10'.nd,fun n a ob h1 h2=>?_⟩;have hne:a≠Dd:=fun z=>nD10 (by rw[<-z];exact AF h1);have:=OR.mono (ka:=[]) TU (zaf hne) (S10'.ob n a ob h1 h2);rw[Ad] at this;exact this
       have mono0:∀ {v:V} {d:D},Rep X.K H10 ((io++k1)++(((k5++k8)++k9)++k10)) v d->Rep X.K (upd H10 Dd (.lst (vs++[v10]))) ((io++k1)++(((k5++k8)++k9)++k10)) v d:=fun {v d} h=>by
         have:=Rep.mono (ka:=[]) TU h;rw[Ad] at this;exact this
       have mono1:∀ {v:List V} {d:List D},Reps X.K H10 ((io++k1)++(((k5++k8)++k9)++k10)) v d->Reps X.K (upd H10 Dd (.lst (vs++[v10]))) ((io++k1)++(((k5++k8)++k9)++k10)) v d:=fun {v d} h=>by
         have:=Reps.mono (ka:=[]) TU h;rw[Ad] at this;exact this
       obtain⟨Ib,tnb,frb⟩:=back I11;refine⟨W.ds.length - (i+1),by omega,i+1,σ8,upd H10 Dd (.lst (vs++[v10])),ρ6,t10,((k5++k8)++k9)++k10,ac++[x10],rs',rfl,Ib,tnb,frb,⟨fun b o hb nb=>XU b o (X310.keep b o hb nb) (fun z=>by rw[z,hD] at hb;cases hb),X310.fresh,fun b o u hb=>XU b _ (X310.frz b o u hb) (fun z=>by rw[z,hD] at hb;cases hb)⟩,nk10,S11,⟨E10.len,fun j dj hj=>?_⟩,⟨_,zai,mono1 R10v⟩,e11,by rw[exs,Ag];rfl⟩;obtain⟨v,q,r⟩:=E10.at_ j dj hj;exact⟨v,q,mono0 r⟩
 have l4:=loop s4 I4 tn4;exact codeAny_compStart_list l4 (T.self _ 0 _ _ _ tn4 l4)
theorem zem(hx:X.xe=FF)(hc:X.calm=true)(Z:CompS X scope N' nt fr)(hi:SI X tg iter mi)
   (hg:∀ C s0 H0 fp,SG (zaN X scope N' (zaP X scope C) C s0 H0 fp) tg g) (ht:∀ C s0 H0 fp,SC (zaN X scope N' (zaP X scope C) C s0 H0 fp) ifs c) (he:∀ C s0 H0 fp,SE (zaN X scope N' (zaP X scope C) C s0 H0 fp) elt m)
   (hs:∀ x,foldedSetIterable iter X.env x=pure x:=by intro _;rfl):SE X (.ListComp elt [⟨tg,iter,ifs,0⟩] scope pos) (zeK mi nt fr g c m):=by
 rintro pins s σ H Q I ⟨ρ,st,io,d,st',E,S,e,k⟩;rw[eval_ListComp];refine zdX (use:=none) hx hc Z hi hg ht he hs I E S e fun Dd C H5 s6 R=>?_;obtain⟨m5,hn⟩:=R.ns;refine⟨m5,hn,fun h' hsb=>?_⟩;obtain⟨ka,X5,S5,R5⟩:=R.val;exact⟨.ref Dd,H5,R.inv.turned (t':=s6.toks) (it:=C) (fun b o hb q=>(hsb.2 b hb).trans q) R.free R.ne (.inr R.young) R.cells R.pin,rfl,k _ _ ka X5 S5 R5⟩
end
section
variable {X:Cx} {e a b c:Expr} {es:List Expr} {pos:Pos} {m ma mb mc:ME} {mm:MA}
variable {K:Aa} {H:Hp} {io ka:List Addr} {st st':Sto}
noncomputable def addD:G2
 | .int i,.int j,st=>some (.int (i+j),st)
 | .str a,.str b,st=>if fits (a.length+b.length)=true then some (.str (a++b),st) else none
 | .tup a,.tup b,st=>if (!a.isEmpty&&fits (a.length+b.length))=true then some (.tup (a++b),st) else none
 | .ref a,.ref b,st=>match st[a]?,st[b]? with
   | some (.lst x),some (.lst y)=>if fits (x.length+y.length)=true then some (.ref st.length,st++[.lst (x++y)]) else none
   | _,_=>none
 | _,_,_=>none
theorem zaM:OpM X (binaryOp .Add) addD:=by
 rintro pins s σ H x y v u Q I rx ry ⟨dx,dy,st,io,d,st',Rx,Ry,S,e,k⟩
 cases dx with
 | int i =>
   cases dy with
   | int j=>cases e;exact zfD pins s σ H x y v u Q I rx ry ⟨i,j,Rx,Ry,k.now S rfl⟩
   | _=>cases e
 | str i =>
   cases dy with
   | str j =>
     obtain⟨hf,e⟩:=zag e
     cases e;exact zca pins s σ H x y v u Q I rx ry ⟨i,j,Rx,Ry,of_decide_eq_true hf,k.now S rfl⟩
   | _=>cases e
 | tup i =>
   cases dy with
   | tup j =>
     obtain⟨hf,e⟩:=zag e;cases e;rw[Az] at hf;obtain⟨p,xs,ex,hp,r1⟩:=Rx;obtain⟨q,ys,ey,hq,r2⟩:=Ry;refine zeE pins s σ H x y v u Q I rx ry ⟨p,q,xs,ys,ex,ey,SqT.of hp,SqT.of hq,fun z=>?_,by rw[r1.length,r2.length];exact of_decide_eq_true hf.2,fun z=>?_,fun z p hp=>k.tup S (r1.append r2) hp⟩
     . have:=r1.length;rw[z] at this;have:i=[]:=A2 this.symm;rw[this] at hf;exact absurd hf.1 (by decide)
     . have:=r2.length;rw[z] at this;have:j=[]:=A2 this.symm;subst this;rw[Ad] at k;exact k.now S ⟨p,xs,rfl,hp,r1⟩
   | _=>cases e
 | ref i =>
   cases dy with
   | ref j =>
     unfold addD at e;dsimp only at e
     split at e
     . rename_i l1 l2 e1 e2;obtain⟨hf,e⟩:=zag e;cases e;obtain⟨p,ex,hp⟩:=Rx;obtain⟨q,ey,hq⟩:=Ry;obtain⟨xs,h1,r1⟩:=S.ob i p _ hp e1;obtain⟨ys,h2,r2⟩:=S.ob j q _ hq e2;exact zfC pins s σ H x y v u Q I rx ry ⟨p,q,xs,ys,ex,ey,h1,h2,by rw[r1.length,r2.length];exact of_decide_eq_true hf,fun p hp=>k.lst S (r1.append r2) hp⟩
     . cases e
   | _=>cases e
 | _=>cases e
noncomputable def intD(c:Int->Int->Bool)(g:Int->Int->D):G2
 | .int i,.int j,st=>if c i j=true then some (g i j,st) else none
 | _,_,_=>none
theorem zb9{f:Value->Value->Sem Value}{C:Int->Int->Prop}{c:Int->Int->Bool}{g:Int->Int->Int}(h:OpR X f (rI C fun i j=>.int (g i j)))(hc:∀ i j,c i j=true->C i j):OpM X f (intD c fun i j=>.int (g i j)):=by
 rintro pins s σ H x y v u Q I rx ry ⟨dx,dy,st,io,d,st',Rx,Ry,S,e,k⟩
 cases dx with
 | int i =>
   cases dy with
   | int j =>
     obtain⟨hf,e⟩:=zag e
     cases e;exact h pins s σ H x y v u Q I rx ry ⟨i,j,Rx,Ry,hc i j hf,k.now S rfl⟩
   | _=>cases e
 | _=>cases e
noncomputable def tt2:Int->Int->Bool:=fun _ _=>true
noncomputable def subD:G2:=intD tt2 fun i j=>.int (i - j)
theorem zeC:OpM X (binaryOp .Sub) subD:=zb9 (C:=fun _ _=>True) (fun pins s σ H x y v u Q I rx ry ⟨i,j,h1,h2,_,q⟩=>zfA pins s σ H x y v u Q I rx ry ⟨i,j,h1,h2,q⟩) fun _ _ _=>trivial
noncomputable def modD:G2:=intD (fun _ j=>decide (0 < j)) fun i j=>.int (i % j)
theorem zeD:OpM X (binaryOp .Mod) modD:=zb9 zfB fun i j h=>of_decide_eq_true h
noncomputable def idxD:G2
 | .tup ds,.int i,st=>(atI ds i).map fun d=>(d,st)
 | .ref n,.int i,st=>(zbK st n).bind fun ds=>(atI ds i).map fun d=>(d,st)
 | .kl ds,.int i,st=>(atI ds i).map fun d=>(d,st)
 | .str z,.int i,st=>if fits z.length=true then (atI z.cps.toList i).map fun c=>(.str ⟨#[c]⟩,st) else none
 | _,_,_=>none
theorem zcC{xs:List V}{ds:List D}{i:Int}{d:D}(r:Reps K H io xs ds)(h:atI ds i=some d):∃ v,atI xs i=some v/\Rep K H io v d:=by
 unfold atI at h ⊢;rw[r.length];obtain⟨j,hj,h⟩:=zab h;obtain⟨v,hv,rv⟩:=r.get h;exact⟨v,by rw[hj];exact hv,rv⟩
theorem ix_M:IxR X (r2M X.K idxD):=by
 rintro value slice pins s σ H x y v u Q I rx ry ⟨dx,dy,st,io,d,st',Rx,Ry,S,e,k⟩ hs
 cases dy with
 | int i =>
   cases dx with
   | tup ds =>
     obtain⟨d',e1,e⟩:=zae e;cases e;obtain⟨p,xs,ex,hp,r⟩:=Rx;obtain⟨w,hw,rw'⟩:=zcC r e1;exact zfN value slice pins s σ H x y v u Q I rx ry ⟨p,xs,i,w,ex,Ry,SqT.of hp,hw,k.now S rw'⟩ hs
   | ref n =>
     obtain⟨ds,e0,e⟩:=zab e;obtain⟨d',e1,e⟩:=zae e;cases e;obtain⟨p,ex,hp⟩:=Rx;obtain⟨xs,hx,r⟩:=za4 S hp e0;obtain⟨w,hw,rw'⟩:=zcC r e1;exact zdr value slice pins s σ H x y v u Q I rx ry ⟨p,xs,i,w,ex,Ry,hx,hw,k.now S rw'⟩ hs
   | kl ds =>
     obtain⟨d',e1,e⟩:=zae e;cases e;obtain⟨p,xs,ex,hx,r⟩:=Rx;obtain⟨w,hw,rw'⟩:=zcC r e1;exact zdr value slice pins s σ H x y v u Q I rx ry ⟨p,xs,i,w,ex,Ry,hx.sq,hw,k.now S rw'⟩ hs
   | str z =>
     obtain⟨hf,e⟩:=zag e;obtain⟨d',e1,e⟩:=zae e;cases e;exact zfO value slice pins s σ H x y v u Q I rx ry ⟨z,i,d',Rx,Ry,of_decide_eq_true hf,e1,k.now S rfl⟩ hs
   | _=>cases e
 | _=>cases dx <;> cases e
theorem zgv(ha:SE X a ma)(hb:SE X b mb)(hs:zcF b:=by intro _ _;rfl):SE X (.Subscript a b pos) (mBin idxD ma mb):=PE.imp (zgA ix_M ha hb hs) fun _ _ _ h=>za6 h
noncomputable def lenD:GN
 | [.tup ds],st=>some (.int ds.length,st)
 | [.ref n],st=>(zbK st n).map fun ds=>(.int ds.length,st)
 | [.kl ds],st=>some (.int ds.length,st)
 | [.str z],st=>if fits z.length=true then some (.int z.length,st) else none
 | _,_=>none
theorem zbB:zbg X (.builtin "len") lenD:=by
 rintro pins s σ H xs us Q I r ⟨ds,st,io,d,st',R,S,e,k⟩
 cases ds with
 | nil=>cases e
 | cons d0 r0 =>
 cases r0 with
 | cons d1 r1=>cases d0 <;> cases e
 | nil =>
 cases d0 with
 | tup ts =>
   cases e;obtain⟨v,rfl,p,ys,rfl,hp,r1⟩:=R.one;refine zaA pins s σ H _ us Q I r ⟨p,ys,rfl,.inr (SqT.of hp),?_⟩;rw[r1.length];exact k.now S rfl
 | ref n =>
   obtain⟨ts,e0,e⟩:=zae e;cases e;obtain⟨v,rfl,p,rfl,hp⟩:=R.one;obtain⟨ys,hx,r1⟩:=za4 S hp e0;refine zaA pins s σ H _ us Q I r ⟨p,ys,rfl,.inl hx,?_⟩;rw[r1.length];exact k.now S rfl
 | kl ts =>
   cases e;obtain⟨v,rfl,p,ys,rfl,hx,r1⟩:=R.one;refine zaA pins s σ H _ us Q I r ⟨p,ys,rfl,.inl hx.sq,?_⟩;rw[r1.length];exact k.now S rfl
 | str z =>
   obtain⟨hf,e⟩:=zag e;cases e;obtain⟨v,rfl,rfl⟩:=R.one;exact zbm pins s σ H _ us Q I r ⟨z,rfl,of_decide_eq_true hf,k.now S rfl⟩
 | _=>cases e
noncomputable def intC:GN
 | [.int i],st=>some (.int i,st)
 | [.bl b],st=>some (.int (if b then 1 else 0),st)
 | _,_=>none
noncomputable def zeI:GN
 | [.int i,.int j],st=>some (.int (if j > i then j else i),st)
 | _,_=>none
noncomputable def zeH:GN
 | [.int i,.int j],st=>some (.int (if j < i then j else i),st)
 | _,_=>none
theorem zdh(hc:X.calm=true):zbg X (.builtin "max") zeI:=by
 rintro pins s σ H xs us Q I r ⟨ds,st,io,d,st',R,S,e,k⟩;unfold zeI at e
 split at e
 . rename_i i j;cases e;obtain⟨v,u,rfl,rfl,rfl⟩:=R.two;exact zdi hc pins s σ H _ us Q I r ⟨i,j,rfl,k.now S rfl⟩
 . cases e
theorem zdf(hc:X.calm=true):zbg X (.builtin "min") zeH:=by
 rintro pins s σ H xs us Q I r ⟨ds,st,io,d,st',R,S,e,k⟩;unfold zeH at e
 split at e
 . rename_i i j;cases e;obtain⟨v,u,rfl,rfl,rfl⟩:=R.two;exact zdg hc pins s σ H _ us Q I r ⟨i,j,rfl,k.now S rfl⟩
 . cases e
noncomputable def zfG:GN
 | [.tup ds],st=>if fits ds.length=true then some (.ref st.length,st++[.lst ds]) else none
 | [.ref n],st=>(zbK st n).bind fun ds=>if fits ds.length=true then some (.ref st.length,st++[.lst ds]) else none
 | [.kl ds],st=>if fits ds.length=true then some (.ref st.length,st++[.lst ds]) else none
 | _,_=>none
theorem zcx:zbg X (.type "list") zfG:=by
 rintro pins s σ H xs us Q I r ⟨ds,st,io,d,st',R,S,e,k⟩
 cases ds with
 | nil=>cases e
 | cons d0 r0 =>
 cases r0 with
 | cons d1 r1=>cases d0 <;> cases e
 | nil =>
 cases d0 with
 | tup ts =>
   obtain⟨hf,e⟩:=zag e;cases e;obtain⟨v,rfl,p,ys,rfl,hp,r1⟩:=R.one;exact zaz pins s σ H _ us Q I r ⟨p,ys,rfl,.inr (SqT.of hp),fun l hl=>k.lst S r1 hl⟩
 | ref n =>
   obtain⟨ts,e0,e⟩:=zab e;obtain⟨hf,e⟩:=zag e;cases e;obtain⟨v,rfl,p,rfl,hp⟩:=R.one;obtain⟨ys,hx,r1⟩:=za4 S hp e0;exact zaz pins s σ H _ us Q I r ⟨p,ys,rfl,.inl hx,fun l hl=>k.lst S r1 hl⟩
 | kl ts =>
   obtain⟨hf,e⟩:=zag e;cases e;obtain⟨v,rfl,p,ys,rfl,hx,r1⟩:=R.one;exact zaz pins s σ H _ us Q I r ⟨p,ys,rfl,.inl hx.sq,fun l hl=>k.lst S r1 hl⟩
 | _=>cases e
end
noncomputable def toPs(f:D->Option PyData):List D->Option (List PyData)
 | []=>some []
 | d::ds=>(f d).bind fun p=>(toPs f ds).map fun ps=>p::ps
noncomputable def toP:Nat->Sto->D->Option PyData
 | 0,_,_=>none
 | n+1,st,d=>match d with
   | .non=>some .none
   | .bl b=>some (.bool b)
   | .int i=>some (.int i)
   | .str x=>if PyData.strOk x=true then some (.str x) else none
   | .tup ds=>(toPs (toP n st) ds).map .tuple
   | .ref k=>(zbK st k).bind fun ds=>(toPs (toP n st) ds).map .list
   | .kl _=>none
   | .fn _=>none
   | .er _ _ _=>none
theorem zaG{n:Nat}:∀ {ps:List PyData},(∀ p∈ps,p.depth<=n)->Cc ps<=n
 | [],_=>by rw[Cc];exact Bc _
 | p::ps,h=>by
   rw[Cc];exact Nat.max_le.mpr ⟨h p Ap,zaG fun q hq=>h q (Al _ hq)⟩
theorem zaQ{ps:List PyData}:(∀ p∈ps,p.canLay0=true)->BO ps=true:=by
 induction ps with
 | nil=>intro _;simp only[BO]
 | cons p ps ih =>
   intro h;simp only[BO];rw[h p Ap,ih fun q hq=>h q (Al _ hq)];rfl
theorem zbi{f:D->Option PyData}:∀ {ds:List D} {ps:List PyData},toPs f ds=some ps->∀ p∈ps,∃ d,f d=some p
 | [],ps,h,p,hp=>by cases h;exact absurd hp (by simp)
 | d::ds,ps,h,p,hp=>by
   obtain⟨q,e1,h⟩:=zab h;obtain⟨qs,e2,h⟩:=zae h;subst h
   rcases List.mem_cons.mp hp with rfl | hp
   . exact⟨d,e1⟩
   . exact zbi e2 p hp
theorem zcG:∀ {n:Nat} {st:Sto} {d:D} {p:PyData},toP n st d=some p->p.canLay0=true/\p.depth<=n
 | 0,_,_,_,h=>by cases h
 | n+1,st,d,p,h=>by
   cases d with
   | non=>cases h;exact⟨by simp only[A7],by simp only[Bi];exact Bc _⟩
   | bl b=>cases h;exact⟨by simp only[A7],by simp only[Bi];exact Bc _⟩
   | int b=>cases h;exact⟨by simp only[A7],by simp only[Bi];exact Bc _⟩
   | str b =>
     obtain⟨hs,h⟩:=zag h
     cases h;exact⟨by simp only[A7];exact hs,by simp only[Bi];exact Bc _⟩
   | tup ds =>
     obtain⟨ps,e,h⟩:=zae h;subst h;have q:∀ p∈ps,p.canLay0=true/\p.depth<=n:=fun p hp=>let ⟨d,hd⟩:=zbi e p hp;zcG hd
     exact⟨by simp only[A7];exact zaQ fun p hp=>(q p hp).1,by simp only[Bi];exact B5 (zaG fun p hp=>(q p hp).2)⟩
   | kl ds=>cases h
   | fn ds=>cases h
   | er _ _ _=>cases h
   | ref k =>
     obtain⟨ds,e0,h⟩:=zab h;obtain⟨ps,e,h⟩:=zae h;subst h;have q:∀ p∈ps,p.canLay0=true/\p.depth<=n:=fun p hp=>let ⟨d,hd⟩:=zbi e p hp;zcG hd
     exact⟨by simp only[A7];exact zaQ fun p hp=>(q p hp).1,by simp only[Bi];exact B5 (zaG fun p hp=>(q p hp).2)⟩
section
variable {X:Cx} {a b:Expr} {pos:Pos} {ma mb:ME} {pins:List (Addr×Obj)} {σ:L2.St} {H:Hp} {s:Shared} {io:List Addr} {st:Sto}
theorem zaF{f:D->Option PyData}(hf:∀ {v:V} {u:Value} {d:D} {p:PyData},Rep X.K H io v d->RelV v u->f d=some p->∃ as,Reads s.heap u p as) :
   ∀ {xs:List V} {us:List Value} {ds:List D} {ps:List PyData},Reps X.K H io xs ds->Vals xs us->toPs f ds=some ps->∃ as,ReadsAll s.heap us ps as
 | _,_,[],ps,h,r,e=>by
   cases (show _=[] from h)
   cases r;cases e;exact⟨_,.nil⟩
 | _,_,d::ds,ps,h,r,e=>by
   obtain⟨y,ys,rfl,h1,h2⟩:=h
   cases r with
   | cons r1 r2 =>
     obtain⟨q,e1,e⟩:=zab e;obtain⟨qs,e2,e⟩:=zae e;subst e;obtain⟨as,ra⟩:=hf h1 r1 e1;obtain⟨bs,rb⟩:=zaF hf h2 r2 e2;exact⟨_,.cons ra rb⟩
theorem zaZ(I:Inv X pins σ H s)(S:StR X.K H io st):∀ {n:Nat} {v:V} {u:Value} {d:D} {p:PyData},Rep X.K H io v d->RelV v u->toP n st d=some p->∃ as,Reads s.heap u p as
 | 0,_,_,_,_,_,_,h=>by cases h
 | n+1,v,u,d,p,h,r,e=>by
   cases d with
   | non=>cases e;cases (show v=.non from h);cases r;exact⟨_,.none⟩
   | bl b=>cases e;cases (show v=.bl b from h);cases r;exact⟨_,.bool _⟩
   | int b=>cases e;cases (show v=.int b from h);obtain⟨t,rfl⟩:=r;exact⟨_,.int _ _⟩
   | str b =>
     obtain⟨hs,e⟩:=zag e
     cases e;cases (show v=.str b from h);obtain⟨t,rfl⟩:=r;exact⟨_,.str _ _⟩
   | tup ds =>
     obtain⟨ps,e',q⟩:=zae e;subst q;obtain⟨a,xs,rfl,ha,rs⟩:=h;cases r;obtain⟨its,rv,⟨o,ho,hc,k,hd⟩,hz⟩:=I.tuple (SqT.of ha);obtain⟨as,ra⟩:=zaF (f:=toP n st) (fun h r e=>zaZ I S h r e) rs rv e';exact⟨_,.tuple ho hc hd (by simpa using ra)⟩
   | kl ds=>cases e
   | fn ds=>cases e
   | er _ _ _=>cases e
   | ref k =>
     obtain⟨ds,e0,e⟩:=zab e;obtain⟨ps,e',q⟩:=zae e;subst q;obtain⟨a,rfl,ha⟩:=h;cases r;obtain⟨xs,hx,rs⟩:=za4 S ha e0;obtain⟨its,rv,⟨o,k,ho,hc,_,hd⟩,hz⟩:=I.list hx;obtain⟨as,ra⟩:=zaF (f:=toP n st) (fun h r e=>zaZ I S h r e) rs rv e';exact⟨_,.list ho hc hd (by simpa using ra)⟩
noncomputable def neD:G2:=fun x y st=>(toP 100 st x).bind fun p=>(toP 100 st y).map fun q=>(.bl !PyData.eqv p q,st)
theorem zcT(hu:X.A.units+100 < cLine):OpM X (compareOp .NotEq) neD:=by
 rintro pins s σ H x y v u Q I rx ry ⟨dx,dy,st,io,d,st',Rx,Ry,S,e,k⟩;obtain⟨p,e1,e⟩:=zab e;obtain⟨q,e2,e⟩:=zae e;cases e;obtain⟨as,ra⟩:=zaZ I S Rx rx e1;obtain⟨bs,rb⟩:=zaZ I S Ry ry e2;have h1:=zcG e1;have h2:=zcG e2;exact PySem.SeqAt.compareNe_reads ra rb h1.1 h2.1 (BH (Cz (AE (Nat.min_le_left _ _) h1.2) _) hu) ⟨.bl _,H,I,rfl,k.now S rfl⟩
theorem zbr{k:Nat}{A:Around}(hr:Room k A):A.units+100 < cLine:=by have:=hr.un;omega
end
section
variable {X:Cx} {pins:List (Addr×Obj)} {σ:L2.St} {H:Hp} {s:Shared} {h':Heap}
theorem Inv.turnNew{t':Nat}{fp:List Addr}{p:Addr}{o:HO}(I:Inv X pins σ H s)(hf:∀ b∈fp,FpOk X pins H b)(k:∀ b ob,b ∉ fp->s.heap.get? b=some ob->h'.get? b=some ob)(hp:s.heap.objs.size<=p)
   (hfp:∀ b∈fp,∀ ob,s.heap.get? b=some ob->∃ ob',h'.get? b=some ob') (new:zaV X.prog X.w (upd H p o) h' p o):Inv X pins σ (upd H p o) { s with heap:=h',toks:=t' }:=by
 have hpn:=I.hok.fresh hp;have nlt:∀ b ob,s.heap.get? b=some ob->b≠p:=fun b ob e=>Ay (Ak (Ae e) hp);refine Inv.step (ch:=fp) (g':=s.gens) (d':=s.drawn) I (fun b hb=>⟨(hf b hb).2.2.2.1,(hf b hb).2.1,(hf b hb).2.2.2.2.1,(hf b hb).2.2.2.2.2⟩) (fun b ob _ _ hc e _=>k b ob hc e) (fun b ob _ _ hc e _=>⟨ob.slots,k b ob hc e⟩)
   (fun b ob hc e n=>by rw[zaf (nlt b ob e)];exact n) (fun b ob hc e=>⟨ob,k b ob hc e⟩) (fun b xs e=>by rw[zaf (zac e hpn)];exact e) (fun b ob u e=>by rw[zaf (zac e hpn)];exact e)
   (fun b ps e=>⟨#[],by rw[zaf (zac e hpn),e];simp⟩) (fun m hm=>?_) (fun b u e=>?_) I.bare
 . obtain⟨ob,es,ep,ho,r⟩:=hm;exact⟨ob,es,ep,k _ ob (fun z=>(hf _ z).2.1 rfl) ho,r⟩
 . by_cases hb:b=p
   . subst hb;rw[zai] at e;cases e;exact new
   . rw[zaf hb] at e;refine (I.hok b u e).stay (fun c v hc q=>k c v (fun z=>?_) q) (fun c q=>by rw[zaf (zac q hpn)];exact q) fun c xs q=>by rw[zaf (zac q hpn)];exact q
     have hz:=(hf c z).1
     rcases hc with rfl | hc
     . rw[hz] at e;cases e
     . rw[hz] at hc;cases hc
theorem Inv.turnAll{t':Nat}{fp:List Addr}(I:Inv X pins σ H s)(hf:∀ b∈fp,FpOk X pins H b)(k:∀ b ob,b ∉ fp->s.heap.get? b=some ob->h'.get? b=some ob):Inv X pins σ H { s with heap:=h',toks:=t' }:=by
 refine Inv.step (ch:=fp) (g':=s.gens) (d':=s.drawn) I (fun b hb=>⟨(hf b hb).2.2.2.1,(hf b hb).2.1,(hf b hb).2.2.2.2.1,(hf b hb).2.2.2.2.2⟩) (fun b ob _ _ hc e _=>k b ob hc e) (fun b ob _ _ hc e _=>⟨ob.slots,k b ob hc e⟩)
   (fun b ob hc e n=>n) (fun b ob hc e=>⟨ob,k b ob hc e⟩) (fun b xs e=>e) (fun b ob u e=>e)
   (fun b ps e=>⟨#[],by rw[e];simp⟩) (fun m hm=>?_) (fun b u e=>?_) I.bare
 . obtain⟨ob,es,ep,ho,r⟩:=hm;exact⟨ob,es,ep,k _ ob (fun z=>(hf _ z).2.1 rfl) ho,r⟩
 . refine (I.hok b u e).stay (fun c v hc q=>k c v (fun z=>?_) q) (fun c q=>q) fun c xs q=>q;have hz:=(hf c z).1
   rcases hc with rfl | hc
   . rw[hz] at e;cases e
   . rw[hz] at hc;cases hc
end
section
variable {X:Cx} {m:ME}
theorem boot_enumerate:bootBuiltins "enumerate"=some (.type "enumerate"):=by decide +kernel
noncomputable def pairs(ds:List D):List D:=(ds.zipIdx).map fun (d,k)=>.tup [.int (k:Nat),d]
theorem zbs{ds:List D}{i:Nat}{d:D}(h:(pairs ds)[i]?=some d):∃ e,ds[i]?=some e/\d=.tup [.int (i:Nat),e]:=by
 unfold pairs at h;rw[AA,List.getElem?_zipIdx] at h
 cases e:ds[i]? with
 | none=>rw[e] at h;cases h
 | some x =>
   rw[e] at h;simp at h;exact⟨x,rfl,h.symm⟩
theorem pairs_len(ds:List D):(pairs ds).length=ds.length:=by unfold pairs;simp
end
section
variable {κ:Type} [DecidableEq κ] {K:Aa} {H:Hp} {io:List Addr}
noncomputable def valD(kvs:List (κ×D))(k:κ):Option D:=(kvs.find? fun kv=>decide (kv.1=k)).map (·.2)
theorem KR.length{ps:List (κ×V)}{kvs:List (κ×D)}(r:KR κ K H io ps kvs):ps.length=kvs.length:=BJ r
theorem KR.val{ps:List (κ×V)}{kvs:List (κ×D)}(r:KR κ K H io ps kvs)(k:κ):(valD kvs k=none/\valV ps k=none)\/∃ d v,valD kvs k=some d/\valV ps k=some v/\Rep K H io v d:=by
 induction r with
 | nil=>exact .inl ⟨rfl,rfl⟩
 | @cons p q l1 l2 z t ih =>
   unfold valD valV at *;rw[AN,AN,z.1]
   by_cases e:q.1=k
   . rw[decide_eq_true e];exact .inr ⟨q.2,p.2,rfl,rfl,z.2⟩
   . rw[decide_eq_false e];exact ih
end
noncomputable def keyOf:D->Option Key
 | .int i=>some (.inl i)
 | .str x=>some (.inr x)
 | _=>none
noncomputable def keysOf:List D->Option (List Key)
 | []=>some []
 | d::ds=>(keyOf d).bind fun k=>(keysOf ds).map fun ks=>k::ks
section
variable {X:Cx} {K:Aa} {H:Hp} {io:List Addr} {st st':Sto} {a b e:Expr} {es:List Expr} {ma mb m:ME} {mm:MA} {pos:Pos}
theorem zbx{v:V}{d:D}{k:Key}(h:Rep K H io v d)(e:keyOf d=some k):v=kV k:=by
 cases d with
 | int i=>cases e;exact h
 | str i=>cases e;exact h
 | _=>cases e
theorem za8:∀ {xs:List V} {ds:List D} {ks:List Key},Reps K H io xs ds->keysOf ds=some ks->xs=ks.map kV
 | _,[],ks,h,e=>by cases e;exact h
 | _,d::ds,ks,h,e=>by
   obtain⟨y,ys,rfl,h1,h2⟩:=h;obtain⟨k,e1,e⟩:=zab e;obtain⟨ks',e2,e⟩:=zae e;subst e;rw[zbx h1 e1,za8 h2 e2];rfl
noncomputable def look(st:Sto)(n:Nat)(k:D):Option (Option D):=match st[n]? with
 | some (.dk kvs)=>(keyOf k).map fun q=>valD kvs q
 | some (.dt kvs)=>match k with
   | .tup ds=>(keysOf ds).map fun q=>valD kvs q
   | _=>none
 | _=>none
theorem zdL{n:Nat}{p:Addr}{k:D}{y:V}{r:Option D}(S:StR K H io st)(hp:io[n]?=some p)(ry:Rep K H io y k)(h:look st n k=some r):∃ o,DGet H p y o/\((r=none/\o=none)\/∃ d v,r=some d/\o=some v/\Rep K H io v d):=by
 unfold look at h
 split at h
 . rename_i kvs e;obtain⟨q,e1,h⟩:=zae h;subst h;obtain⟨ps,hH,r⟩:=S.ob n p _ hp e;have ey:=zbx ry e1;subst ey;refine⟨_,DGet.k hH,?_⟩
   rcases KR.val r q with ⟨h1,h2⟩ | ⟨d,v,h1,h2,h3⟩
   . exact .inl ⟨h1,h2⟩
   . exact .inr ⟨d,v,h1,h2,h3⟩
 . rename_i kvs e
   split at h
   . rename_i ds;obtain⟨q,e1,h⟩:=zae h;subst h;obtain⟨ps,hH,r⟩:=S.ob n p _ hp e;obtain⟨b,xs,rfl,hb,rs⟩:=ry;have ex:=za8 rs e1;subst ex;refine⟨_,DGet.t hH hb,?_⟩
     rcases KR.val r q with ⟨h1,h2⟩ | ⟨d,v,h1,h2,h3⟩
     . exact .inl ⟨h1,h2⟩
     . exact .inr ⟨d,v,h1,h2,h3⟩
   . cases h
 . cases h
noncomputable def zgc(md mk:ME):ME:=fun ρ st=>(md ρ st).bind fun (d,s1)=>(mk ρ s1).bind fun (k,s2)=>match d with
 | .ref n=>(look s2 n k).bind fun r=>r.map fun v=>(v,s2)
 | _=>none
theorem zel{o i:Expr}{md mk:ME}(hu:X.A.units+1 < cLine)(ho:SE X o md)(hi:SE X i mk)(hs:NoSl i:=by intro _ _;rfl):SE X (.Subscript o i pos) (zgc md mk):=PE.imp (zey hu ho hi hs) <| by
 rintro σ H Q ⟨ρ,st,io,d,st',E,S,e,k⟩;obtain⟨⟨x,s1⟩,e1,e⟩:=zab e;obtain⟨⟨y,s2⟩,e2,e⟩:=zab e
 cases x with
 | ref n =>
   obtain⟨r,e3,e⟩:=zab e;obtain⟨w,e4,e⟩:=zae e;cases e;subst e4;refine⟨ρ,st,io,_,s1,E,S,e1,fun v1 H1 k1 X1 S1 R1=>⟨ρ,s1,io++k1,y,_,E.ext S X1,S1,e2,fun v2 H2 k2 X2 S2 R2=>?_⟩⟩;obtain⟨p,rfl,hp⟩:=R1;obtain⟨o,g,⟨z,_⟩ | ⟨d',v,hd,hv,rv⟩⟩:=zdL S2 (zaR hp) R2 e3
   . cases z
   . cases hd;subst hv;exact⟨p,v,rfl,g,((k.on S1 X1).on S2 X2).now S2 rv⟩
 | _=>cases e
end
section
variable {X:Cx} {K:Aa} {H:Hp} {io:List Addr} {st st':Sto} {a b c e:Expr} {es:List Expr} {ma mb mc m:ME} {mm:MA} {pos:Pos}
noncomputable def powB:G2:=intD (fun i j=>decide (0<=j)&&decide ((CB i:Int)*j<=2 ^ 27)) fun i j=>.int (i ^ j.toNat)
theorem zdn:OpM X (binaryOp .Pow) powB:=zb9 (C:=fun i j=>0<=j/\(CB i:Int)*j<=2 ^ 27) (opI fun i j _ _ _ _ _ hc q=>pow_int hc.1 hc.2 q) fun i j h=>by
   rw[Az] at h;exact⟨of_decide_eq_true h.1,of_decide_eq_true h.2⟩
end
end L2.MP
namespace Srt
open PySem PySem.W PyProof.Rows
end Srt
namespace L2.MP
open PySem PySem.Spec PyProof.Rows
section
variable {X:Cx} {K:Aa} {H:Hp} {io:List Addr} {st st':Sto} {a b c e:Expr} {es:List Expr} {ma mb mc m:ME} {mm:MA} {pos:Pos} {pins:List (Addr×Obj)} {σ:L2.St} {s:Shared}
noncomputable def orO{α:Type}:Option α->Option α->Option α
 | some x,_=>some x
 | none,y=>y
theorem zb8{α:Type}{x y:Option α}{z:α}(h:orO x y=some z):x=some z\/y=some z:=by
 cases x with
 | none=>exact .inr h
 | some w=>exact .inl h
noncomputable def orG(g h:G2):G2:=fun x y st=>orO (g x y st) (h x y st)
noncomputable def orN(g h:GN):GN:=fun xs st=>orO (g xs st) (h xs st)
theorem zcw{f:Value}{g h:GN}(p:zbg X f g)(q:zbg X f h):zbg X f (orN g h):=by
 rintro pins s σ H xs us Q I r ⟨ds,st,io,d,st',R,S,e,k⟩
 rcases zb8 e with e | e
 . exact p pins s σ H xs us Q I r ⟨ds,st,io,d,st',R,S,e,k⟩
 . exact q pins s σ H xs us Q I r ⟨ds,st,io,d,st',R,S,e,k⟩
theorem zdo{g:G2}{ρ:Rho}{x y:D}{s0 s1 s2:Sto}{r:D×Sto}(h1:ma ρ s0=some (x,s1))(h2:mb ρ s1=some (y,s2))(h3:g x y s2=some r):mBin g ma mb ρ s0=some r:=by
 unfold mBin;rw[h1];show Dh (mb ρ s1) _=_;rw[h2];exact h3
theorem zfk{g h:G2}(p:SE X e (mBin g ma mb))(q:SE X e (mBin h ma mb)):SE X e (mBin (orG g h) ma mb):=by
 rintro pins s σ H Q I ⟨ρ,st,io,d,st',E,S,e,k⟩;obtain⟨⟨x,s1⟩,e1,e⟩:=zab e;obtain⟨⟨y,s2⟩,e2,e⟩:=zab e
 rcases zb8 e with e | e
 . exact p pins s σ H Q I ⟨ρ,st,io,d,st',E,S,zdo e1 e2 e,k⟩
 . exact q pins s σ H Q I ⟨ρ,st,io,d,st',E,S,zdo e1 e2 e,k⟩
noncomputable def zgM:G2:=fun d k st=>match d with
 | .ref n=>(look st n k).bind fun r=>r.map fun v=>(v,st)
 | _=>none
noncomputable def ixA:G2:=orG idxD zgM
theorem zcL(hu:X.A.units+1 < cLine)(ha:SE X a ma)(hb:SE X b mb)(hs:zcF b:=by intro _ _;rfl)(hs':NoSl b:=by intro _ _;rfl):SE X (.Subscript a b pos) (mBin ixA ma mb) :=
 zfk (zgv ha hb hs) (show SE X (.Subscript a b pos) (zgc ma mb) from zel hu ha hb hs')
def ze9(P:Program)(w:World)(K:Aa)(mg:Str->Option Value)(base:Heap)(k:Nat)(x:Str)(n:Nat)(g:GN):Prop :=
 ∃ f fd ps,FnOk P w K mg base CX0 k f fd ps (spM K n g)/\mg x=some (.ref f)/\AQ K (.ref f)=true/\Binds K fd ps []
def zcY(n:Nat)(mm:MA):Prop:=∀ ρ st xs s,mm ρ st=some (xs,s)->xs.length=n
theorem zcY.nil:zcY 0 mNil:=fun _ _ _ _ h=>zdK h
theorem zcY.cons{n:Nat}(h:zcY n mm):zcY (n+1) (zah m mm):=fun _ _ _ _ q=>zcX h q
theorem zdy{x:Str}{p:Pos}{k n:Nat}{g:GN}(F:ze9 X.prog X.w X.K X.mg X.base k x n g)(hr:Room k X.A)(hg:Gl X x)(ha:SA X (e::es) mm)(hl:zcY n mm)(hdb:(x==("__debug__":Str))=false:=by decide)
   (he:starEach (e::es) X.env=(false,eval e X.env)::starEach es X.env:=by rfl) (hpl:(backTo pos (starEach es X.env)).any (·.1)=false:=by rfl) (hn:(e::es).length=n:=by rfl) :
   SE X (.Call (.Name x p) (e::es) [] pos) (zau g mm):=by
 obtain⟨f,fd,ps,F,hm,hk,hb⟩:=F;exact zen F hr hg hm hk hb ha hdb he hpl hn hl
def Laid(K:Aa)(mg:Str->Option Value)(x:Str)(st:Stmt)(ps:List Str):Prop:=∃ f fd,Fun K x x st f fd/\mg x=some (.ref f)/\Binds K fd ps []
theorem zf0{P:Program}{w:World}{mg:Str->Option Value}{base:Heap}{x:Str}{st:Stmt}{N ps:List Str}{k:Nat}{m:MS}(L:Laid K mg x st ps)(S:FnScope N ps (zad st))
   (hbody:∀ (f:Addr) (cdv:Value) (A:Around) (outer:List Env) (s:Shared) (H:Hp) (E:XK),Room k (A.deeper (envOfC x (zad st) s.heap.objs.size f cdv)) ->
     SSs (cxOf CX0 P w K mg base N x (zad st) f cdv A outer s H E).nox (zap st) m):ze9 P w K mg base (k+1) x ps.length (fnM N.length m):=by
 obtain⟨f,fd,F,hm,hb⟩:=L;exact⟨f,fd,ps,fn_m F S (hbody f),hm,F.kp,hb⟩
end
section
variable {X:Cx} {pins:List (Addr×Obj)} {σ:L2.St} {H:Hp} {s:Shared}
theorem Inv.freeze{d:Addr}{o:Obj}{u:HO}(I:Inv X pins σ H s)(hd:H d=some u)(g:s.heap.get? d=some o)(n1:∀ xs,u≠.tup xs)(n2:∀ x,u≠.own x)(n3:∀ o w,u≠.frz o w)(n4:∀ ps,u≠.tbl ps):Inv X pins σ (upd H d (.frz o u)) s:=by
 have ne:∀ {b:Addr} {v:HO},H b=some v->v≠u->b≠d:=fun {b v} q nv z=>by
   subst z;rw[hd] at q;exact nv (Ai q).symm
 refine Inv.step (h':=s.heap) (t':=s.toks) (g':=s.gens) (d':=s.drawn) (ch:=[]) I (fun _ z=>nomatch z) (fun b v _ _ _ q _=>q) (fun b v _ _ _ q _=>⟨v.slots,q⟩) (fun b v _ q n=>?_) (fun b v _ q=>⟨v,q⟩) (fun b xs q=>?_) (fun b v w q=>?_) (fun b ps q=>⟨#[],?_⟩) (fun m hm=>hm) (fun b v q=>?_) I.bare
 . have:b≠d:=fun z=>by
     rw[z,hd] at n;cases n
   rw[zaf this];exact n
 . rw[zaf (ne q (fun z=>n1 xs z.symm))];exact q
 . rw[zaf (ne q (fun z=>n3 v w z.symm))];exact q
 . rw[zaf (ne q (fun z=>n4 ps z.symm)),q];simp
 . by_cases hb:b=d
   . subst hb;rw[zai] at q;cases q;refine⟨g,?_⟩;exact (I.hok b u hd).stay (fun c x _ y=>y) (fun c y=>by rw[zaf (ne y (fun z=>n2 b z.symm))];exact y) fun c xs y=>by rw[zaf (ne y (fun z=>n1 xs z.symm))];exact y
   . rw[zaf hb] at q;exact (I.hok b v q).stay (fun c x _ y=>y) (fun c y=>by rw[zaf (ne y (fun z=>n2 b z.symm))];exact y) fun c xs y=>by rw[zaf (ne y (fun z=>n1 xs z.symm))];exact y
end
theorem zdW{P:Program}{w:World}{H:Hp}{h:Heap}{d:Addr}{o:Obj}{ps:List (List Key×V)}{es:Array DictEntry}{ep:Nat}(x:zaV P w H h d (.frz o (.dT ps)))(dd:o.data=.dict es ep) :
   h.get? d=some o/\es.size=ps.length/\∀ (i:Nat) (k:List Key) (v:V),ps[i]?=some (k,v)->∃ (en:DictEntry) (b:Addr),es[i]?=some en/\en.key=.ref b/\H b=some (.tup (k.map kV))/\RelV v en.val:=by
 obtain⟨g,z,y,xs,r,o',es',ep',g',ex,dd',et,nd⟩:=x;rw[g] at g';cases g';rw[dd] at dd';cases dd';have hl:es.size=ps.length:=by
   have h1:=congrArg List.length et;have h2:=BJ r;simp at h1;omega
 refine⟨g,hl,fun i k v hi=>?_⟩;have get:∀ {l:List (List Key×V)} {m:List (List Key×Addr×Value)} {i:Nat},Paired (fun (p:List Key×V) (q:List Key×Addr×Value)=>p.1=q.1/\H q.2.1=some (.tup (p.1.map kV))/\RelV p.2 q.2.2) l m->l[i]?=some (k,v)->∃ q,m[i]?=some q/\H q.2.1=some (.tup (k.map kV))/\RelV v q.2.2:=by
   intro l m i q
   induction q generalizing i with
   | nil=>intro e;simp at e
   | cons h t ih =>
     cases i with
     | zero =>
       intro e;simp at e;subst e;exact⟨_,rfl,h.2.1,h.2.2⟩
     | succ j=>intro e;exact ih (by simpa using e)
 obtain⟨q,hq,h1,h2⟩:=get r hi;have he:es[i]?=some (entryOfKey (tupleKind (zar P w)) q):=by
   have:es.toList[i]?=some (entryOfKey (tupleKind (zar P w)) q):=by rw[et,AA,hq];rfl
   simpa using this
 exact⟨_,q.2.1,he,rfl,h1,h2⟩
section
variable {X:Cx} {K:Aa} {H:Hp} {io:List Addr} {m:ME} {st st':Sto}
noncomputable def keyD:Key->D
 | .inl i=>.int i
 | .inr x=>.str x
theorem zbk:∀ (ks:List Key),Reps K H io (ks.map kV) (ks.map keyD)
 | []=>rfl
 | .inl i::r=>⟨_,_,rfl,rfl,zbk r⟩
 | .inr x::r=>⟨_,_,rfl,rfl,zbk r⟩
end
inductive Sr where
 | l (a:Addr) | t (a:Addr)
noncomputable def Sr.ad:Sr->Addr
 | .l a=>a
 | .t a=>a
noncomputable def Sr.ob:Sr->Obj
 | .l a=>{ cls:=.type "list_iterator",data:=.fields #[.ref a,.int 0 0] }
 | .t a=>{ cls:=.type "tuple_iterator",data:=.fields #[.ref a,.int 0 0] }
noncomputable def Sr.is(h:Heap)(xs:Array Value):Sr->Prop
 | .l a=>h.IsList a xs
 | .t a=>IsTup h a xs
noncomputable def Sr.at_(h:Heap)(i:Addr)(k:Nat):Sr->Prop
 | .l a=>h.IsListIter i a k
 | .t a=>IsTupIter h i a k
theorem Sr.is_keep{h h':Heap}{xs:Array Value}{x:Sr}(q:x.is h xs)(k:∀ u,h.get? x.ad=some u->h'.get? x.ad=some u):x.is h' xs:=by
 cases x with
 | l a=>exact Heap.IsList.at q k
 | t a=>obtain⟨o,g,c⟩:=q;exact⟨o,k o g,c⟩
theorem Sr.at_keep{h h':Heap}{i:Addr}{n:Nat}{x:Sr}(q:x.at_ h i n)(k:∀ u,h.get? i=some u->h'.get? i=some u):x.at_ h' i n:=by
 cases x with
 | l a=>exact Di q k
 | t a=>obtain⟨o,g,c⟩:=q;exact⟨o,k o g,c⟩
theorem Sr.at_get{h:Heap}{i:Addr}{n:Nat}{x:Sr}(q:x.at_ h i n):∃ o vs,h.get? i=some o/\o.data=.fields vs:=by
 cases x with
 | l a=>obtain⟨o,g,c,d⟩:=q;exact⟨o,_,g,d⟩
 | t a=>obtain⟨o,g,c,d⟩:=q;exact⟨o,_,g,d⟩
section
variable {prog:Program} {w:World} {A:Around} {E:Value->Shared->Prop} {s:Shared}
theorem Sr.iter{x:Sr}{xs:Array Value}{R:Value->Shared->Prop}(h:x.is s.heap xs)(k:R (.ref s.heap.objs.size) { s with heap:=s.heap.push x.ob }):wpAny (model prog w) A (pyIter (.ref x.ad)) R E s:=by
 cases x with
 | l a=>exact wpAny_pyIter_list h k
 | t a=>exact iter_tuple h k
theorem zcc{it a:Addr}{i:Nat}{xs:Array Value}{v:Value}{R:Value->Shared->Prop}(hit:IsTupIter s.heap it a i)(ht:IsTup s.heap a xs)(hx:xs[i]?=some v)
   (k:∀ h',IsTupIter h' it a (i+1)->Bv it s.heap h'->R v { s with heap:=h' }):wpAny (model prog w) A (AI (.ref it)) R E s:=by
 obtain⟨ro,rg,rc,rd⟩:=id hit;obtain⟨to,tg,_,tn,td⟩:=ht;unfold AI;refine Ab (A0 (name:=B6 "__next__") hit.typeIs Be (Bb Be hit.typeIs Ct ?_ (CC _)));show wpAny _ _ (field (.ref it) 0 >>= _) _ _ s;refine Ab (Cm rg rd (x:=.ref a) rfl ?_);show wpAny _ _ (if (Ao a==AL)=true then _ else _) _ _ s;rw[if_neg (show ¬ (Ao a==AL)=true from fun z=>AR z)];show wpAny _ _ (field (.ref it) 1 >>= _) _ _ s;refine Ab (Cm rg rd (x:=.int i 0) rfl ?_);show wpAny _ _ (seqItems? (.ref a) >>= _) _ _ s;refine Ab (wpAny_seqItems tg td ?_);simp only[A3,hx];refine Ab (BE rg rd (by simp) (Ac ⟨v,rfl,Ac (k _ ⟨_,AU _ rg (Cp (Bj rd _)),(CP ..).trans rc,?_⟩ (Bf ..))⟩));rw[Bj rd];simp[rawInt]
theorem za3{it a:Addr}{i:Nat}{xs:Array Value}{R:Value->Shared->Prop}(hh:A.handled=none)(hit:IsTupIter s.heap it a i)(ht:IsTup s.heap a xs)(hx:xs[i]?=none)
   (k:∀ h' e,CU it s.heap h'->(∃ o,h'.get? e=some o/\o.cls=.type "StopIteration")->E (.ref e) { s with heap:=h' }):wpAny (model prog w) A (AI (.ref it)) R E s:=by
 obtain⟨ro,rg,rc,rd⟩:=id hit;obtain⟨to,tg,_,tn,td⟩:=ht;unfold AI;refine Ab (A0 (name:=B6 "__next__") hit.typeIs Be (Bb Be hit.typeIs Ct ?_ (CC _)));show wpAny _ _ (field (.ref it) 0 >>= _) _ _ s;refine Ab (Cm rg rd (x:=.ref a) rfl ?_);show wpAny _ _ (if (Ao a==AL)=true then _ else _) _ _ s;rw[if_neg (show ¬ (Ao a==AL)=true from fun z=>AR z)];show wpAny _ _ (field (.ref it) 1 >>= _) _ _ s;refine Ab (Cm rg rd (x:=.int i 0) rfl ?_);show wpAny _ _ (seqItems? (.ref a) >>= _) _ _ s;refine Ab (wpAny_seqItems tg td ?_);simp only[A3,hx];refine Ab (wpAny_rule (Ab (BE rg rd (by simp) ?_)));show wpAny _ _ (newExc (.type "StopIteration") [] >>= _) _ _ _;simp only[newExc,newTuple];refine Ab (Ab (AW (Ab (m:=firstArgMember _ _) (CV (a:=AL) (by first | rfl | (simp only[firstArgMember];rfl)) (AW ?_ (by size_fits)))) (by size_fits)));simp only[raiseNew];refine Ab (wpAny_handled ?_)
 first | rw[show A.in1.handled=none from hh] | rw[hh]
 refine Ab (Ac (wpAny_throw ?_));exact k _ _ (((Bf ..).extBut.push _).push _) ⟨_,Aw _ rfl,rfl⟩
theorem Sr.next{x:Sr}{it:Addr}{i:Nat}{xs:Array Value}{v:Value}{R:Value->Shared->Prop}(hit:x.at_ s.heap it i)(h:x.is s.heap xs)(hx:xs[i]?=some v)(k:∀ h',x.at_ h' it (i+1)->Bv it s.heap h'->R v { s with heap:=h' }) :
   wpAny (model prog w) A (AI (.ref it)) R E s:=by
 cases x with
 | l a=>exact wpAny_nextOf_list_item hit h hx k
 | t a=>exact zcc hit h hx k
theorem Sr.stop{x:Sr}{it:Addr}{i:Nat}{xs:Array Value}{R:Value->Shared->Prop}(hh:A.handled=none)(hit:x.at_ s.heap it i)(h:x.is s.heap xs)(hx:xs[i]?=none)
   (k:∀ h' e,CU it s.heap h'->(∃ o,h'.get? e=some o/\o.cls=.type "StopIteration")->E (.ref e) { s with heap:=h' }):wpAny (model prog w) A (AI (.ref it)) R E s:=by
 cases x with
 | l a=>exact wpAny_nextOf_list_end hh hit h hx k
 | t a=>exact za3 hh hit h hx k
end
theorem Sr.at_new{h:Heap}{x:Sr}{i:Addr}(g:h.get? i=some x.ob):x.at_ h i 0:=by
 cases x with
 | l a=>exact⟨_,g,rfl,rfl⟩
 | t a=>exact⟨_,g,rfl,rfl⟩
noncomputable def Sr.sq(H:Hp)(xs:List V):Sr->Prop
 | .l a=>H a=some (.lst xs)\/∃ o,H a=some (.frz o (.lst xs))
 | .t a=>H a=some (.tup xs)
theorem Sr.sq_ne{H:Hp}{xs:List V}{x:Sr}{b:Addr}(h:x.sq H xs)(hb:H b=none):x.ad≠b:=by
 cases x with
 | l a=>rcases h with h | ⟨o,h⟩ <;> exact zac h hb
 | t a=>exact zac (show H a=some (.tup xs) from h) hb
theorem Sr.sq_inj{H:Hp}{xs ys:List V}{x:Sr}(h:x.sq H xs)(h':x.sq H ys):xs=ys:=by
 cases x with
 | l a=>rcases h with h | ⟨o,h⟩ <;> rcases h' with h' | ⟨o',h'⟩ <;> rw[h] at h' <;> cases h' <;> rfl
 | t a =>
   have h:H a=some (.tup xs):=h;have h':H a=some (.tup ys):=h';rw[h] at h';cases h';rfl
theorem Sr.sq_is{X:Cx}{pins:List (Addr×Obj)}{σ:L2.St}{H:Hp}{s:Shared}{xs:List V}{x:Sr}(I:Inv X pins σ H s)(h:x.sq H xs):∃ its:List Value,Vals xs its/\x.is s.heap its.toArray:=by
 cases x with
 | l a =>
   obtain⟨its,rv,p,_⟩:=I.list (show SqL X.K H a xs from .inl h);exact⟨its,rv,p.isList⟩
 | t a =>
   obtain⟨its,rv,p,_⟩:=I.tuple (SqT.of (K:=X.K) h);exact⟨its,rv,p⟩
section
variable {X:Cx} {K:Aa} {H:Hp} {io:List Addr} {ma mb:ME} {st st':Sto}
noncomputable def seqD(s:Sto):D->Option (List D×List (Nat×List D))
 | .ref n=>(zbK s n).map fun ds=>(ds,[(n,ds)])
 | .tup ds=>some (ds,[])
 | _=>none
theorem zeh{d:D}{v:V}{ds:List D}{g:List (Nat×List D)}(S:StR K H io st)(R:Rep K H io v d)(h:seqD st d=some (ds,g)):∃ x:Sr,v=.ref x.ad/\(∃ xs,x.sq H xs) /\
   ∀ H1 ka s1,Ext io ka H H1->StR K H1 (io++ka) s1->(∀ p,p∈g->s1[p.1]?=some (.lst p.2)\/s1[p.1]?=some (.fz p.2))->∃ xs,x.sq H1 xs/\Reps K H1 (io++ka) xs ds:=by
 cases d with
 | ref n =>
   obtain⟨l,e,q⟩:=zae h;cases q;obtain⟨p,rfl,hp⟩:=R;refine⟨.l p,rfl,?_,fun H1 ka s1 X1 S1 hs=>?_⟩
   . unfold zbK at e
     split at e
     . rename_i o he;cases e;obtain⟨xs,q,_⟩:=S.ob n p _ hp he;exact⟨xs,.inl q⟩
     . rename_i o he;cases e;obtain⟨ob,xs,q,_⟩:=S.ob n p _ hp he;exact⟨xs,.inr ⟨ob,q⟩⟩
     . cases e
   . rcases hs (n,ds) Ap with q | q
     . obtain⟨xs,q',r⟩:=S1.ob n p _ (zaR hp) q;exact⟨xs,.inl q',r⟩
     . obtain⟨ob,xs,q',r⟩:=S1.ob n p _ (zaR hp) q;exact⟨xs,.inr ⟨ob,q'⟩,r⟩
 | tup ts =>
   cases h;obtain⟨p,xs,rfl,hp,r⟩:=R;exact⟨.t p,rfl,⟨xs,hp⟩,fun H1 ka s1 X1 S1 _=>⟨xs,X1.sqT S p xs hp,r.ext S X1⟩⟩
 | _=>cases h
end
noncomputable def Caps(X:Cx)(fs:List Str):List Nat->List Str->Prop
 | [],[]=>True
 | j::js,x::xs=>(X.N[j]?=some x/\x∈fs)/\Caps X fs js xs
 | _,_=>False
noncomputable def Outs(X:Cx):List Str->Prop
 | []=>True
 | x::xs=>(X.env.kindOf x=some .cell\/X.env.kindOf x=some .free)/\Outs X xs
theorem Outs.get{X:Cx}:∀ {fs:List Str} {x:Str},Outs X fs->x∈fs->X.env.kindOf x=some .cell\/X.env.kindOf x=some .free
 | [],_,_,m=>nomatch m
 | y::ys,x,h,m=>by
   rcases List.mem_cons.mp m with rfl | m
   . exact h.1
   . exact Outs.get h.2 m
theorem Caps.get{X:Cx}{fs:List Str}:∀ {fr:List Nat} {xs:List Str} {i j:Nat} {x:Str},Caps X fs fr xs->fr[i]?=some j->xs[i]?=some x->X.N[j]?=some x/\x∈fs
 | [],[],i,j,x,_,h,_=>by simp at h
 | [],_::_,i,j,x,h,_,_=>h.elim
 | _::_,[],i,j,x,h,_,_=>h.elim
 | k::ks,y::ys,0,j,x,h,h1,h2=>by
   simp at h1 h2;subst h1 h2;exact h.1
 | k::ks,y::ys,i+1,j,x,h,h1,h2=>Caps.get (i:=i) h.2 (by simpa using h1) (by simpa using h2)
theorem zdZ{X:Cx}{scope:Scope}{N':List Str}{nt:Nat}{fr:List Nat}(fs:List Str)(kind:scope.kind=.function)(nd:(scope.names.map (·.1)).Nodup)(hf:scope.names.all (fun p=>!(p.2==Am) || fs.contains p.1)=true)
   (hb:fs.all (fun x=>scope.names.contains (x,Am))=true) (len:N'.length=nt+fr.length) (cap:Caps X fs fr (N'.drop nt)) (out:Outs X fs):CompS X scope N' nt fr:=by
 refine⟨kind,nd,len,fun i j x h1 h2=>?_,fun x hx=>?_⟩
 . have h2':(N'.drop nt)[i]?=some x:=by rw[List.getElem?_drop];exact h2
   obtain⟨a,b⟩:=cap.get h1 h2';refine⟨a,?_⟩;have:=List.all_eq_true.mp hb x b;simpa using this
 . have:=List.all_eq_true.mp hf _ hx;have hm:x∈fs:=by simpa using this
   exact out.get hm
theorem ze2:bootBuiltins "len"=some (.builtin "len"):=by decide +kernel
theorem zf2:bootBuiltins "max"=some (.builtin "max"):=by decide +kernel
theorem zf1:bootBuiltins "min"=some (.builtin "min"):=by decide +kernel
theorem ze1:bootBuiltins "list"=some (.type "list"):=by decide +kernel
theorem zds{K:Aa}{H:Hp}{io:List Addr}:∀ (ns:List Int),Reps K H io (ns.map V.int) (ns.map D.int)
 | []=>rfl
 | n::ns=>⟨_,_,rfl,rfl,zds ns⟩
theorem zdx{K:Aa}{H:Hp}{a:Addr}{ns:List Int}{g:GN}{st:Sto}{E:XK}(hO:Only H)(hS:SqL K H a (ns.map V.int))(e:g [.kl (ns.map D.int)] []=some (.bl true,st)):spM K 1 g [.ref a] H (fun v _=>v=.bl true) E:=by
 have hF:SqF K H a (ns.map V.int):=by
   rcases hS with (h | h) | h
   . rcases hO a with z | ⟨o,xs,z⟩
     . rw[z] at h;cases h
     . rw[z] at h;cases h
   . exact .inl h
   . exact .inr h
 refine⟨_,[],[],_,_,rfl,Reps.cons (show Rep K H [] (.ref a) (.kl (ns.map D.int)) from ⟨a,_,rfl,hF,zds ns⟩) Reps.nil,⟨rfl,List.nodup_nil,fun n b o h=>by simp at h⟩,e,fun v H' ka E' S' R'=>R'⟩
end L2.MP
namespace L2.MP
open PySem
structure Gr(st st':Sto):Prop where
 len:st.length<=st'.length
 old:∀ k,k < st.length->st'[k]?=st[k]?
theorem Gr.refl(st:Sto):Gr st st:=⟨Aj _,fun _ _=>rfl⟩
theorem Gr.trans{a b c:Sto}(h:Gr a b)(h':Gr b c):Gr a c:=⟨AE h.len h'.len,fun k hk=>(h'.old k (Ak hk h.len)).trans (h.old k hk)⟩
theorem Gr.app(st:Sto)(l:List O):Gr st (st++l):=⟨by simp,fun k hk=>Ah hk⟩
theorem getElem?_lt{α:Type}{l:List α}{n:Nat}{x:α}(h:l[n]?=some x):n < l.length:=(List.getElem?_eq_some_iff.mp h).1
theorem zaw(st:Sto)(o:O):(st++[o])[st.length]?=some o:=getElem?_len st o
theorem zcj{W:Wk}{g:MG}{m:MS}:∀ {ds:List D} {Inv:Nat->Rho->Sto->Prop} {ρ:Rho} {st:Sto},Inv 0 ρ st->(∀ k ρ s,k<=ds.length->Inv k ρ s->walked W s=true) ->
   (∀ k d ρ s,ds[k]?=some d->Inv k ρ s->∃ ρ1 s1 ρ2 s2,g d ρ s=some (ρ1,s1)/\m ρ1 s1=some (.nx ρ2,s2)/\Inv (k+1) ρ2 s2)->∃ ρ' s',zch W g m ds ρ st=some (.nx ρ',s')/\Inv ds.length ρ' s'
 | [],Inv,ρ,st,h0,wk,step=>⟨ρ,st,by unfold zch;rw[if_pos (wk 0 ρ st (Aj _) h0)],h0⟩
 | d::ds,Inv,ρ,st,h0,wk,step=>by
   obtain⟨ρ1,s1,ρ2,s2,e1,e2,h1⟩:=step 0 d ρ st rfl h0;obtain⟨ρ',s',e,h⟩:=zcj (W:=W) (g:=g) (m:=m) (ds:=ds) (Inv:=fun k=>Inv (k+1)) h1 (fun k ρ s hk h=>wk (k+1) ρ s (B5 hk) h) (fun k d ρ s hd h=>step (k+1) d ρ s (by simpa using hd) h);refine⟨ρ',s',?_,h⟩;unfold zch;rw[if_pos (wk 0 ρ st (Bc _) h0),e1];simp only[Au,e2];exact e
theorem zaE{n:Nat}(h:n<=10000):fits n=true:=by
 unfold fits;exact decide_eq_true (AE h (by decide))
end L2.MP
namespace L2.MP
@[simp] theorem zgD{α:Type}(x:α)(y:Option α):orO (some x) y=some x:=rfl
@[simp] theorem zgY{α:Type}(y:Option α):orO none y=y:=rfl
end L2.MP
namespace L2.MP.Hn
open PySem L2.MP
end L2.MP.Hn
namespace L2.MP
open PySem
section
variable {ρ ρ1:Rho} {st s1:Sto} {m n ma mb:ME} {mm:MA} {ms mq:MS} {mt mu:MT} {g:G2} {gn:GN} {d:D} {i j:Nat} {ds:List D} {mg:MG} {mgs:MGs} {ml mh:MO}
@[simp] theorem zgP:mVar i ρ st=match ρ[i]? with
 | some (some d)=>some (d,st)
 | _=>none:=rfl
@[simp] theorem zgV:mCon d ρ st=some (d,st):=rfl
@[simp] theorem zgW:mBin g ma mb ρ st=(ma ρ st).bind fun p=>(mb ρ p.2).bind fun q=>g p.1 q.1 q.2:=rfl
@[simp] theorem ze4:mTst m ρ st=(m ρ st).bind fun p=>match p.1 with
 | .bl b=>some (b,p.2)
 | _=>none:=rfl
@[simp] theorem ze6:zd6 mt ρ st=(mt ρ st).map fun p=>(!p.1,p.2):=rfl
@[simp] theorem zf4:mOrT mt mu ρ st=(mt ρ st).bind fun p=>if p.1=true then some (true,p.2) else mu ρ p.2:=rfl
@[simp] theorem zgm:zau gn mm ρ st=(mm ρ st).bind fun p=>gn p.1 p.2:=rfl
@[simp] theorem zgl:zah m mm ρ st=(m ρ st).bind fun p=>(mm ρ p.2).bind fun q=>some (p.1::q.1,q.2):=rfl
@[simp] theorem zgR:mNil ρ st=some ([],st):=rfl
@[simp] theorem zgS:mLst mm ρ st=(mm ρ st).bind fun p=>if fits p.1.length=true then some (.ref p.2.length,p.2++[.lst p.1]) else none:=rfl
@[simp] theorem zf3:mRet m ρ st=(m ρ st).map fun p=>(.rt p.1,p.2):=rfl
@[simp] theorem zgX:mAsg m mg ρ st=(m ρ st).bind fun p=>(mg p.1 ρ p.2).map fun q=>(.nx q.1,q.2):=rfl
@[simp] theorem zhb:gNm i d ρ st=some (ρ.set i (some d),st):=rfl
@[simp] theorem ze5:zdJ ρ st=some (.nx ρ,st):=rfl
@[simp] theorem zgT:mIf mt ms mq ρ st=(mt ρ st).bind fun p=>if p.1=true then ms ρ p.2 else mq ρ p.2:=rfl
@[simp] theorem zha:gTp i mgs d ρ st=match d with
 | .tup ds=>if ds.length=i then mgs ds ρ st else none
 | _=>none:=rfl
@[simp] theorem zgU:gN0 [] ρ st=some (ρ,st):=rfl
@[simp] theorem zhc:gC mg mgs (d::ds) ρ st=(mg d ρ st).bind fun p=>mgs ds p.1 p.2:=rfl
@[simp] theorem zgQ:mR1 m ρ st=(m ρ st).bind fun p=>match p.1 with
 | .int j=>if small j=true then some (⟨run 0 j.toNat,[]⟩,p.2) else none
 | _=>none:=rfl
theorem ze8{mi:MI}{k:Nat}{fr:List Nat}:zeK mi k fr mg mt m ρ st=(mi ρ st).bind fun p=>(mCI p.1 mg mt m p.1.ds (rho0 ρ k fr) p.2).bind fun q=>if fits q.1.length=true then some (.ref q.2.length,q.2++[.lst q.1]) else none:=rfl
@[simp] theorem ze7{mi:MI}:mFor mi mg ms ρ st=(mi ρ st).bind fun p=>zch p.1 mg ms p.1.ds ρ p.2:=rfl
theorem zaX{r:Option (Fl×Sto)}(h:ms ρ st=some (.nx ρ1,s1))(k:mq ρ1 s1=r):mSeq ms mq ρ st=r:=by
 unfold mSeq;rw[h];exact k
theorem zgh{N:Nat}{s:Sto}(h:ms (rho N ds) st=some (.rt d,s)):fnM N ms ds st=some (d,s):=by
 unfold fnM;rw[h];rfl
theorem zat{k:Nat}(h:k<=10000:=by decide):fits k=true:=zaE h
@[simp] theorem zg7:fits 0=true:=zat
@[simp] theorem zg6:fits 1=true:=zat
@[simp] theorem zg5:fits 2=true:=zat
@[simp] theorem zg4:fits 3=true:=zat
@[simp] theorem zg3:fits 4=true:=zat
@[simp] theorem zg2:fits 5=true:=zat
@[simp] theorem zg1:fits 6=true:=zat
@[simp] theorem zg0:fits 7=true:=zat
@[simp] theorem zgZ:fits 8=true:=zat
theorem zcJ{k:Int}(h0:0<=k)(h1:k<=1000000):small k=true:=by
 unfold small;simp;omega
theorem zc4{n:Nat}{ds:List D}{k:Int}{x:D}(h:st[n]?=some (.lst ds))(h0:0<=k)(hx:ds[k.toNat]?=some x):ixA (.ref n) (.int k) st=some (x,st):=by
 have hl:=getElem?_lt hx;have h1:k < ds.length:=by omega
 simp[ixA,orG,idxD,zbK,h,atI,ixN,h0,h1,zgD];exact (List.getElem?_eq_some_iff.mp hx).2
theorem zfI:lenD [.kl ds] st=some (.int ds.length,st):=rfl
@[simp] theorem add_int(a b:Int):addD (.int a) (.int b) st=some (.int (a+b),st):=rfl
@[simp] theorem sub_int(a b:Int):subD (.int a) (.int b) st=some (.int (a - b),st):=rfl
theorem zbd{a b:Nat}{x y:List D}(ha:st[a]?=some (.lst x))(hb:st[b]?=some (.lst y))(h:x.length+y.length<=10000):addD (.ref a) (.ref b) st=some (.ref st.length,st++[.lst (x++y)]):=by
 have:fits (x.length+y.length)=true:=zaE h;simp[addD,ha,hb,this]
end
end L2.MP
set_option linter.unusedSimpArgs false
namespace L2.MP.Hn
open PySem L2.MP
end L2.MP.Hn
namespace L2.MP
open PySem PySem.Builtin PySem.Builtin.Str
end L2.MP
namespace L2.MP
open PySem
end L2.MP
namespace L2.MP.Hn
open PySem L2.MP
end L2.MP.Hn
namespace L2.MP
open PySem
end L2.MP
namespace L2.MP.Hn
open PySem L2.MP
end L2.MP.Hn
namespace L2.MP
open PySem
end L2.MP
namespace L2.MP.Hn
open PySem L2.MP
end L2.MP.Hn
namespace L2.MP
open PySem PySem.Spec PyProof.Rows
end L2.MP
namespace L2.MP
open PySem
theorem zbA{W:Wk}{g:MG}{c:MT}{m:ME}{α:Type}{f h:α->D}{p:α->Bool}{R:Rho->Prop}:∀ {as:List α} {ρ:Rho} {st:Sto},R ρ->walked W st=true->(∀ a∈as,∀ ρ,R ρ->∃ ρ1,g (f a) ρ st=some (ρ1,st)/\c ρ1 st=some (p a,st)/\(p a=true->m ρ1 st=some (h a,st))/\R ρ1) ->
   mCI W g c m (as.map f) ρ st=some ((as.filter p).map h,st)
 | [],ρ,st,r,wk,_=>by unfold mCI;rw[B2];simp only[wk,if_true,List.filter_nil,B2]
 | a::as,ρ,st,r,wk,hs=>by
   obtain⟨ρ1,e1,e2,e3,r1⟩:=hs a Ap ρ r;have e:=zbA (W:=W) (g:=g) (c:=c) (m:=m) (f:=f) (h:=h) (p:=p) (R:=R) (as:=as) r1 wk fun b hb=>hs b (Al _ hb);rw[AG];unfold mCI;rw[if_pos wk,e1]
   cases hp:p a with
   | true =>
     rw[hp] at e2;simp only[Au,e2,if_true,e3 hp,e,BA,CW,hp,AG]
   | false =>
     rw[hp] at e2;simp only[Au,e2,Bk,if_false,e,CW,hp]
end L2.MP
namespace L2.MP.Hn
open PySem L2.MP
end L2.MP.Hn
namespace L2.MP
open PySem PySem.Spec PyProof.Rows
section
theorem zcs(x:Sr)(o:Obj)(xs:Array Value):Meets (Builtin.«enumerate.__new__» ⟨[.type "enumerate",.ref x.ad],[]⟩) (fun _ R s=>s.heap.get? x.ad=some o/\x.is s.heap xs /\
     R (.ok (.ret (.ref (s.heap.push x.ob).objs.size))) { s with heap:=(s.heap.push x.ob).push { cls:=.type "enumerate",data:=.fields #[.none,.bool false,.ref s.heap.objs.size,rawInt 0,.none,.none] } }) :=
 .of_wp fun prog w A R s h=>by
   obtain⟨hp,g,d,tk,os⟩:=s;obtain⟨h1,h2,h⟩:=h;have hsub:=sub_enumerate;have hx:x.is (Shared.heap ⟨hp,g,d,tk,os⟩) xs:=h2
   wp_walk using AY h1
   refine wpAny_stack_any fun sk=>Ac ?_
   split
   . rename_i c _ _ _ _ _
     cases (c==Value.type "enumerate")
     . wp_walk using AY h1,Sr.iter hx
       exact⟨_,rfl,h⟩
     . wp_walk using AY h1,Sr.iter hx
       exact⟨_,rfl,h⟩
   . wp_walk using AY h1,Sr.iter hx
     exact⟨_,rfl,h⟩
end
section
variable {prog:Program} {w:World} {A:Around} {E:Value->Shared->Prop} {s:Shared}
theorem Sr.is_get{h:Heap}{xs:Array Value}{x:Sr}(q:x.is h xs):∃ o,h.get? x.ad=some o:=by
 cases x with
 | l a=>obtain⟨o,g,_⟩:=q;exact⟨o,g⟩
 | t a=>obtain⟨o,g,_⟩:=q;exact⟨o,g⟩
theorem zcA{x:Sr}{xs:Array Value}{R:Value->Shared->Prop}(hx:x.is s.heap xs)(k:∀ h',IsEnum h' (s.heap.objs.size+1) s.heap.objs.size 0 .none->x.at_ h' s.heap.objs.size 0->(∀ c u,s.heap.get? c=some u->h'.get? c=some u)->R (.ref (s.heap.objs.size+1)) { s with heap:=h' }) :
   wpAny (model prog w) A (call (.type "enumerate") [.ref x.ad]) R E s:=by
 obtain⟨o,g⟩:=Sr.is_get hx;refine callType_new F.called_enumerate (by decide) (F.typeCall_enumerate_1 _) (F.newCall_enumerate_1 _) (fun obj=>F.args_object_init_2 obj _) F.entry_enumerate_new (zcs x o xs) ⟨g,hx,?_⟩;have z1:(s.heap.push x.ob).objs.size=s.heap.objs.size+1:=A6 ..;have f2:((s.heap.push x.ob).push { cls:=.type "enumerate",data:=.fields #[.none,.bool false,.ref s.heap.objs.size,rawInt 0,.none,.none] }).get? (s.heap.push x.ob).objs.size=some { cls:=.type "enumerate",data:=.fields #[.none,.bool false,.ref s.heap.objs.size,rawInt 0,.none,.none] }:=Aw _ rfl;have f1:((s.heap.push x.ob).push { cls:=.type "enumerate",data:=.fields #[.none,.bool false,.ref s.heap.objs.size,rawInt 0,.none,.none] }).get? s.heap.objs.size=some x.ob:=Af _ (Aw _ (by cases x <;> rfl));show _/\_;rw[z1] at f2 ⊢;exact⟨⟨_,f2,rfl⟩,k _ f2 (Sr.at_new f1) fun c u q=>Af _ (Af _ q)⟩
end
theorem Sr.draws{prog:Program}{w:World}{A:Around}(hh:A.handled=none)(it:Addr)(x:Sr)(hne:x.ad≠it)(items:Array Value):Draws prog w A it [it,x.ad] items.size (fun i v=>items[i]?=some v) (fun i h=>x.at_ h it i/\x.is h items) where
 live:=fun _ _ q=>let ⟨o,_,g,_⟩:=Sr.at_get q.1;⟨o,g⟩
 frame:=fun _ _ _ q k=>⟨Sr.at_keep q.1 fun o e=>k it (by simp) o e,Sr.is_keep q.2 fun o e=>k x.ad (by simp) o e⟩
 item:=fun i s Q E hi q k=>by
   refine Sr.next q.1 q.2 (v:=items[i]) (by simp[hi]) fun h' a b=>?_;exact k _ h' s.toks (by simp[hi]) ⟨a,Sr.is_keep q.2 fun o e=>b.extBut _ _ hne e⟩ b
 done:=fun s Q E q k=>Sr.stop hh q.1 q.2 (by simp) k
theorem Sr.drawsEnd{prog:Program}{w:World}{A:Around}(hh:A.handled=none)(it:Addr)(x:Sr)(items:Array Value)(n:Nat)(hn:items[n]?=none):Draws prog w A it [it,x.ad] n (fun _ _=>True) (fun j h=>j=n/\x.at_ h it n/\x.is h items) where
 live:=fun _ _ q=>let ⟨o,_,g,_⟩:=Sr.at_get q.2.1;⟨o,g⟩
 frame:=fun _ _ _ q k=>⟨q.1,Sr.at_keep q.2.1 fun o e=>k it (by simp) o e,Sr.is_keep q.2.2 fun o e=>k x.ad (by simp) o e⟩
 item:=fun i s Q E hi q k=>absurd q.1 (Ay hi)
 done:=fun s Q E q k=>Sr.stop hh q.2.1 q.2.2 hn k
noncomputable def Itn(x:Sr):It :=
 ⟨fun i H=>∃ xs v,x.sq H xs/\xs[i]?=some v,fun i H r H'=>∃ p v,H p=none/\H'=upd H p (.tup [.int (i:Nat),v])/\r=.ref p/\∀ xs,x.sq H xs->xs[i]?=some v,fun i H=>∃ xs,x.sq H xs/\xs.length<=i⟩
theorem zbV{P:Program}{w:World}{K:Aa}{elts:List Expr}{x1}{pos:Pos}(x:Sr)(it e:Addr)(hne:e≠it) :
   Turn P w K (.Tuple elts x1 pos) (Itn x) [e,it] e (fun i h=>(∃ old,IsEnum h e it (i:Nat) old)/\x.at_ h it i) where
 mem:=by simp
 obj:=fun i h st b hb=>by
   obtain⟨⟨old,he⟩,hi⟩:=st
   rcases List.mem_cons.mp hb with rfl | hb
   . exact⟨_,he,fun v z=>by cases z⟩
   . rw[List.mem_singleton.mp hb];obtain⟨o,vs,g,d⟩:=Sr.at_get hi;exact⟨o,g,fun v z=>by rw[d] at z;cases z⟩
 keep:=fun i h h' st k=>by
   obtain⟨⟨old,he⟩,hi⟩:=st;exact⟨⟨old,k e (by simp) _ he⟩,Sr.at_keep hi fun o q=>k it (by simp) o q⟩
 item := by
   intro X hP hw hK hc i pins s σ H E I hf st hg;subst hP hw hK;obtain⟨xs,v,hx,hv⟩:=hg;obtain⟨⟨old,he⟩,hi⟩:=st;obtain⟨its,rx,ix⟩:=Sr.sq_is I hx;obtain⟨v',gv,rv⟩:=rx.get hv;have fit:=(hf it (by simp)).1;have fe:=(hf e (by simp)).1;have hlt:i < its.toArray.size:=by have:=(List.getElem?_eq_some_iff.mp gv).1;simpa using this
   refine wpAny_pyNext_enum_itemD (Sr.draws (A:=X.A.in1) (I.ok.hd hc) it x (Sr.sq_ne hx fit) its.toArray) he ⟨hi,ix⟩ hlt hne (by
     simp only[Dc,List.not_mem_nil,or_false,not_or];exact⟨hne,fun z=>Sr.sq_ne hx fe z.symm⟩) fun y h1 tk hy he1 st1 t1 z1 k1=>?_
   have ey:y=v':=by
     have:its[i]?=some y:=by simpa using hy
     rw[gv] at this;exact (Ai this).symm
   subst ey;refine⟨_,rfl,wpAny_letOwnedTupleGo_enum (s:={ s with heap:=h1,toks:=tk+1 }) he1 fun h2 he2 hb2=>?_⟩;have k2:∀ b o,b ∉ [e,it]->s.heap.get? b=some o->h2.get? b=some o:=fun b o hb q=>by
     have n1:b≠e:=fun z=>hb (by simp[z]);have n2:b≠it:=fun z=>hb (by simp[z]);exact (hb2.2 b n1).trans (k1 b o n1 n2 q)
   have hsz:e≠s.heap.objs.size:=Ay (Ae he);have t2:h2.get? s.heap.objs.size=some { cls:=.type "tuple",data:=.seq #[.int i tk,y] }:=(hb2.2 _ hsz.symm).trans t1;have hi2:x.at_ h2 it (i+1):=Sr.at_keep st1.1 fun o q=>(hb2.2 it hne.symm).trans q;refine⟨.ref s.heap.objs.size,upd H s.heap.objs.size (.tup [.int (i:Nat),v]),?_,rfl,⟨_,v,I.hok.fresh (Aj _),rfl,rfl,fun ys hy=>by rw[Sr.sq_inj hy hx];exact hv⟩,⟨⟨_,by exact_mod_cast he2⟩,hi2⟩,fun b hb=>?_⟩
   . exact Inv.turnNew (s:=s) (h':=h2) (t':=tk+1) I hf k2 (Aj _) (fun b hb ob q=>by
       rcases List.mem_cons.mp hb with rfl | hb
       . exact⟨_,he2⟩
       . rw[List.mem_singleton.mp hb];obtain⟨o,vs,g,d⟩:=Sr.at_get hi2;exact⟨o,g⟩) ⟨by show 2<=sizeLine;decide,[.int i tk,y],.cons ⟨_,rfl⟩ (.cons rv .nil),⟨_,t2,rfl,rfl,_,rfl⟩⟩
   . rw[zaf (fun z=>?_)]
     . exact (hf b hb).1
     . rcases List.mem_cons.mp hb with q | hb
       . exact hsz (q.symm.trans z)
       . have q:=List.mem_singleton.mp hb;obtain⟨o,vs,g,d⟩:=Sr.at_get hi;exact (Ay (Ae g)) (q.symm.trans z)
 done:=by
   intro X hP hw hK hc i pins s σ H E I hf st hg;subst hP hw hK;obtain⟨xs,hx,hl⟩:=hg;obtain⟨⟨old,he⟩,hi⟩:=st;obtain⟨its,rx,ix⟩:=Sr.sq_is I hx;have l1:=rx.length;exact wpAny_pyNext_enum_endD (Sr.drawsEnd (A:=X.A.in1) (I.ok.hd hc) it x its.toArray i (by simp;omega)) he ⟨rfl,hi,ix⟩ fun h' eb=>⟨rfl,Inv.turnAll (t':=s.toks) I hf fun b o hb q=>eb b o (fun z=>hb (by simp[z])) q⟩
 self:=fun _ _ _ _ _ st h=>by
   obtain⟨⟨old,he⟩,_⟩:=st;exact CQ he h
section
variable {X:Cx} {K:Aa} {H:Hp} {io:List Addr} {m:ME} {st st':Sto}
noncomputable def zfX(x:D)(s:Sto):Option (Wk×Sto):=(seqD s x).map fun (a,f)=>(⟨pairs a,f⟩,s)
noncomputable def zeJ(m:ME):MI:=fun ρ st=>(m ρ st).bind fun (x,s1)=>zfX x s1
theorem zee{elts:List Expr}{x1}{tp:Pos}{a:Expr}{p pos:Pos}(hg:Gl X "enumerate")(hm:X.mg "enumerate"=none)(ha:SE X a m)(hs:starEach [a] X.env=[(false,eval a X.env)]:=by rfl) :
   SI X (.Tuple elts x1 tp) (.Call (.Name "enumerate" p) [a] [] pos) (zeJ m):=by
 rintro pins s σ H R I ⟨ρ,st,io,W,st',E,S,e,k⟩;obtain⟨⟨x,s1⟩,e1,e⟩:=zab e;obtain⟨⟨as,f⟩,e3,e⟩:=zae e;cases e;refine Call_ (zcl I hg hm boot_enumerate (A8 (thn (zaa ha zam hs pos pins s σ H (fun vs H'=>∃ ka,Ext io ka H H'/\StR X.K H' (io++ka) st'/\Reps X.K H' (io++ka) vs [x]) I ⟨ρ,st,io,[x],st',E,S,zci e1 rfl,fun vs H1 k1 X1 S1 R1=>⟨k1,X1,S1,R1⟩⟩) ?_) hs rfl));rintro us t1 ⟨vs,H1,I1,r1,k1,X1,S1,R1⟩;obtain⟨v,rfl,Rx⟩:=R1.one;obtain⟨v',rfl,rv⟩:=r1.one;obtain⟨xx,rfl,⟨xs,hx⟩,kx⟩:=zeh S1 Rx e3;cases rv;obtain⟨its,vx,ix⟩:=Sr.sq_is I1 hx;refine zcA ix fun h' he hi kk=>CQ he ?_;refine⟨_,_,_,_,H1,rfl,I1.kept (t':=t1.toks) kk,zbV xx t1.heap.objs.size (t1.heap.objs.size+1) (Nat.succ_ne_self _),⟨⟨_,he⟩,hi⟩,fun b hb=>?_,?_⟩
 . have hle:t1.heap.objs.size<=b:=by
     rcases List.mem_cons.mp hb with q | hb
     . rw[q];exact BG _
     . rw[List.mem_singleton.mp hb];exact Aj _
   exact I1.fpOk hle (I1.hok.fresh hle)
 . refine k _ H1 k1 X1 S1 ?_;refine⟨fun i d H2 k2 s3 hd X2 S2 hs=>?_,fun H2 k2 s3 X2 S2 hs=>?_,fun H2 k2 s3 i hi X2 S2 hs=>?_⟩
   . obtain⟨xs2,qx,rx⟩:=kx H2 k2 s3 X2 S2 hs;obtain⟨dx,g1,rfl⟩:=zbs hd;obtain⟨u1,gu,ru⟩:=rx.get g1;refine⟨⟨xs2,u1,qx,gu⟩,fun r H' yl=>?_⟩;obtain⟨q,u2,hq,rfl,rfl,yu⟩:=yl;have e5:=yu xs2 qx;rw[gu] at e5;cases e5;obtain⟨E',S'⟩:=zcd (o:=.tup [.int (i:Nat),u1]) S2 hq;rw[Ad] at S';refine⟨E',S',⟨q,_,rfl,zai,?_⟩⟩;have r2:=ru.ext S2 E';rw[Ad] at r2;exact Reps.cons rfl (Reps.cons r2 Reps.nil)
   . obtain⟨xs2,qx,rx⟩:=kx H2 k2 s3 X2 S2 hs;exact⟨xs2,qx,by show xs2.length<=(pairs as).length;rw[pairs_len,rx.length];exact Aj _⟩
   . obtain⟨xs2,qx,rx⟩:=kx H2 k2 s3 X2 S2 hs;have hi:(pairs as).length<=i:=hi;rw[pairs_len] at hi;exact⟨xs2,qx,by rw[rx.length];exact hi⟩
end
section
variable {X:Cx} {K:Aa} {H:Hp} {io:List Addr} {m:ME} {st st':Sto}
@[simp] theorem zgk{ρ:Rho}:zeJ m ρ st=(m ρ st).bind fun p=>zfX p.1 p.2:=rfl
end
section
variable {X:Cx} {K:Aa} {H:Hp} {io:List Addr} {st st':Sto} {a b c e:Expr} {es:List Expr} {ma mb mc m:ME} {mm:MA} {mt:MT} {ms:MS} {pos:Pos} {tg:Expr} {body:List Stmt}
noncomputable def signs(z:Str):List D:=z.cps.toList.map fun c=>D.str ⟨#[c]⟩
end
section
variable {X:Cx} {K:Aa} {H:Hp} {io:List Addr} {st st':Sto} {a b c e:Expr} {es:List Expr} {ma mb mc m:ME} {mm:MA} {mt:MT} {ms:MS} {pos:Pos} {tg:Expr} {body:List Stmt}
noncomputable def zdM:GN
 | [.str z],st=>if fits z.cps.size=true then some (.ref st.length,st++[.lst (signs z)]) else none
 | _,_=>none
theorem zbY{z:Str}{acc:Array Value}(h:ItemsOf (SignAt z) acc z.cps.size):Vals (z.cps.toList.map fun c=>V.str ⟨#[c]⟩) acc.toList:=by
 have aux:∀ (l:List Nat) (vs:List Value),vs.length=l.length->(∀ (j:Nat) (v:Value),vs[j]?=some v->∃ (c:Nat) (u:Tok),l[j]?=some c/\v=CG ⟨#[c]⟩ u)->Vals (l.map fun c=>V.str ⟨#[c]⟩) vs:=by
   intro l
   induction l with
   | nil=>intro vs hl _;cases (A2 hl);exact .nil
   | cons c l ih =>
     intro vs hl hv
     cases vs with
     | nil=>simp at hl
     | cons v vs =>
       obtain⟨c',u,hc,rfl⟩:=hv 0 v rfl
       cases (show c=c' by simpa using hc)
       exact .cons ⟨u,rfl⟩ (ih vs (by simpa using hl) fun j v h=>by simpa using hv (j+1) v (by simpa using h))
 refine aux _ _ (by rw[AJ,h.1,AJ]) fun j v hj=>?_;obtain⟨c,u,hc,hv⟩:=h.2 j v (by rw[<-Bt];exact hj);exact⟨c,u,by rw[Bt];exact hc,hv⟩
theorem zbZ(z:Str):Reps K H io (z.cps.toList.map fun c=>V.str ⟨#[c]⟩) (signs z):=by
 unfold signs;generalize z.cps.toList=l
 induction l with
 | nil=>exact rfl
 | cons c l ih=>exact Reps.cons rfl ih
theorem zbO(hc:X.calm=true):zbg X (.type "list") zdM:=by
 rintro pins s σ H xs us Q I r ⟨ds,st,io,d,st',R,S,e,k⟩;unfold zdM at e
 split at e
 . rename_i z;obtain⟨hf,e⟩:=zag e;cases e;obtain⟨v,rfl,rfl⟩:=R.one;obtain⟨u,rfl,ru⟩:=r.one;obtain⟨t,rfl⟩:=ru;have hz:z.cps.size<=sizeLine:=of_decide_eq_true hf;refine call_list_str (hn:=hz) (I.ok.hd hc) z t fun h' tk acc c' hk hat hacc=>?_;refine⟨.ref s.heap.objs.size,upd H s.heap.objs.size (.lst (z.cps.toList.map fun c=>V.str ⟨#[c]⟩)),I.laid (t':=tk) (fun b o q=>hk b o q) (Aj _) ⟨by rw[AM,AJ];exact hz,acc.toList,c',zbY hacc,by simpa using hat⟩,rfl,?_⟩;exact k.lst S (zbZ z) (I.hok.fresh (Aj _))
 . cases e
noncomputable def zfH:GN:=orN zfG zdM
theorem zcz(hc:X.calm=true):zbg X (.type "list") zfH:=zcw zcx (zbO hc)
end
end L2.MP
namespace PySem.F
end PySem.F
namespace PySem
open Builtin
end PySem
namespace L2.MP
open PySem PySem.Spec PyProof.Rows
section
variable {ρ ρ1:Rho} {st s1:Sto} {m n o ma mb:ME} {mm:MA} {ms mq:MS} {mt mu:MT} {d:D} {ml mh:MO}
end
section
variable {prog:Program} {w:World} {A:Around} {E:Value->Shared->Prop} {s:Shared}
theorem zc1{d:Addr}{o:Obj}{es:Array DictEntry}{ep:Nat}{R:Value->Shared->Prop}(ty:s.TypeIs (.ref d) "dict")(hd:(d==sysModules)=false)(g:s.heap.get? d=some o)(dd:o.data=.dict es ep)
   (k:R (.ref s.heap.objs.size) { s with heap:=s.heap.push { cls:=.type "dict_keyiterator",data:=.fields #[.ref d,.int 0 0,.int es.size 0,.int ep 0] } }):wpAny (model prog w) A (pyIter (.ref d)) R E s:=by
 refine wpAny_pyIter_slot ty F.slot_dict_iter (Bb F.slot_dict_iter ty F.entry_dict_iter ?go (F.args_dict_iter_1 _));unfold Builtin.«dict.__iter__»;refine Ab ?_;unfold Builtin.Dict.dictSlotNone;refine Ab (wpAny_notOrdered_dict ty ?_);show wpAny _ _ (pure (Ao d)) _ _ s;refine Ac ?_;show wpAny _ _ (Cq d >>= _) _ _ s;unfold Cq;rw[if_neg (by rw[hd];exact AR)];refine Ab (Ac (Ab (BP g dd (Ab (Cd g dd ?_)))));refine Ab (AW (Ac ⟨_,rfl,"dict_keyiterator",_,⟨_,Aw _ rfl,rfl⟩,F.slot_dict_keyiterator_next.lookup,?_⟩));simpa[rawInt] using k
theorem zc0{it d:Addr}{i ep:Nat}{o:Obj}{es:Array DictEntry}{en:DictEntry}{R:Option Value->Shared->Prop}(hit:s.heap.IsKeyIter it d i es.size ep)(g:s.heap.get? d=some o)(dd:o.data=.dict es ep)(hx:es[i]?=some en)
   (k:∀ h',h'.IsKeyIter it d (i+1) es.size ep->Bv it s.heap h'->R (some en.key) { s with heap:=h' }):wpAny (model prog w) A (pyNext (.ref it)) R E s:=by
 obtain⟨io,ig,ic,idt⟩:=id hit;have own:BF "dict_keyiterator"=false:=by decide
 unfold pyNext;refine Ab (Cw (A0 (name:=B6 "__next__") hit.typeIs F.slot_dict_keyiterator_next (Bb F.slot_dict_keyiterator_next hit.typeIs F.entry_dict_keyiterator_next ?_ (F.args_dict_keyiterator_next_1 _))));refine Ab (Ac (Ab (Ab ?_)));refine Ab (AO hit.typeIs (Ac (Ab (wpAny_fieldsOf ig idt ?_))));simp only[own,Bk,if_false];show wpAny _ _ (if (Ao d==AL)=true then _ else _) _ _ s;rw[if_neg (show ¬ (Ao d==AL)=true from fun z=>AR z)];refine Ab (Ac (Ab (BP g dd ?_)));rw[if_neg (by simp)];refine Ab (Ac (Ab (Cd g dd ?_)));rw[if_neg (by simp)];refine Ac ?_;have ni:¬ ((i:Int) < 0):=by omega
 simp only[ni,if_false,A3,hx];refine Ab (Ab (AO hit.typeIs (Ac (Ab (Cr hit.typeIs ?_)))));show wpAny _ _ (setField (.ref it) 1 (rawInt ((i:Int)+1)) >>= _) _ _ s;refine Ab (BE ig idt (by simp) ?_);have h2:(s.heap.update it (De (·.setIfInBounds 1 (rawInt ((i:Int)+1))))).IsKeyIter it d (i+1) es.size ep:=⟨_,AU _ ig (Cp (Bj idt _)),(CP ..).trans ic,by rw[Bj idt];simp[rawInt]⟩
 refine Ab (BL (Ab (Cr (s:={ s with heap:=s.heap.update it (De (·.setIfInBounds 1 (rawInt ((i:Int)+1)))) }) h2.typeIs ?_)));show wpAny _ _ (pure en.key) _ _ _;exact Ac (Ac ⟨_,rfl,Ac (k _ h2 (Bf ..))⟩)
theorem zcZ{it d:Addr}{i ep:Nat}{o:Obj}{es:Array DictEntry}{R:Option Value->Shared->Prop}(hh:A.handled=none)(hit:s.heap.IsKeyIter it d i es.size ep)(g:s.heap.get? d=some o)(dd:o.data=.dict es ep)(hx:es[i]?=none)
   (k:∀ h',CU it s.heap h'->R none { s with heap:=h' }):wpAny (model prog w) A (pyNext (.ref it)) R E s:=by
 obtain⟨io,ig,ic,idt⟩:=id hit;have own:BF "dict_keyiterator"=false:=by decide
 unfold pyNext;refine Ab (Cw (A0 (name:=B6 "__next__") hit.typeIs F.slot_dict_keyiterator_next (Bb F.slot_dict_keyiterator_next hit.typeIs F.entry_dict_keyiterator_next ?_ (F.args_dict_keyiterator_next_1 _))));refine Ab (Ac (Ab (Ab ?_)));refine Ab (AO hit.typeIs (Ac (Ab (wpAny_fieldsOf ig idt ?_))));simp only[own,Bk,if_false];show wpAny _ _ (if (Ao d==AL)=true then _ else _) _ _ s;rw[if_neg (show ¬ (Ao d==AL)=true from fun z=>AR z)];refine Ab (Ac (Ab (BP g dd ?_)));rw[if_neg (by simp)];refine Ab (Ac (Ab (Cd g dd ?_)));rw[if_neg (by simp)];refine Ac ?_;have ni:¬ ((i:Int) < 0):=by omega
 simp only[ni,if_false,A3,hx];refine Ab (Ab (AO hit.typeIs (Ac ?_)));show wpAny _ _ (setField (.ref it) 0 .none >>= _) _ _ s;refine Ab (BE ig idt (by simp) ?_);show wpAny _ _ (newExc (.type "StopIteration") [] >>= _) _ _ _;simp only[newExc,newTuple];refine Ab (Ab (AW (Ab (m:=firstArgMember _ _) (CV (a:=AL) (by first | rfl | (simp only[firstArgMember];rfl)) (AW ?_ (by size_fits)))) (by size_fits)));simp only[raiseNew];refine Ab (wpAny_handled ?_);rw[show A.in1.handled=none from hh];refine Ab (Ac (wpAny_throw ?_));refine Ab (wpAny_isInstance (T:="StopIteration") (b:=true) ⟨_,Aw _ rfl,rfl⟩ isSubtype_stop (Ac ?_));exact k _ (((Bf ..).extBut.push _).push _)
end
section
variable {X:Cx} {K:Aa} {H:Hp} {io:List Addr} {m:ME} {st st':Sto} {tg:Expr}
noncomputable def zgd(kvs:List (List Key×D)):List D:=kvs.map fun p=>.tup (p.1.map keyD)
end
end L2.MP
namespace L2.MP
section
open PySem PySem.Spec PyProof.Rows PySem.Builtin PySem.Builtin.Str
variable {prog:Program} {w:World} {A:Around} {E:Value->Shared->Prop} {s:Shared} {z y:Str} {t u:Tok} {Q:Value->Shared->Prop}
end
section
open PySem PySem.Spec PyProof.Rows
variable {X:Cx} {K:Aa} {H:Hp} {io:List Addr} {st st':Sto} {a b c e:Expr} {es:List Expr} {ma mb mc m:ME} {mm:MA} {pos:Pos}
end
end L2.MP
namespace L2.MP
open PySem
end L2.MP
namespace L2.MP
open PySem PySem.Spec PyProof.Rows
@[irreducible] def JSs (X:Cx) (s:List Stmt) (m:MS):Prop:=SSs X s m
@[irreducible] def JS (X:Cx) (s:Stmt) (m:MS):Prop:=SS X s m
@[irreducible] def JA (X:Cx) (es:List Expr) (m:MA):Prop:=SA X es m
section
variable {X:Cx} {e a b c:Expr} {es:List Expr} {st1 st2:Stmt} {rest body orelse:List Stmt} {pos:Pos} {m ma mb mc:ME} {mt mu:MT} {mm:MA} {ms mq mr:MS} {mg:MG} {mi:MI}
theorem JSs.out(h:JSs X body ms):SSs X body ms:=by unfold JSs at h;exact h
theorem JSs.mk(h:SSs X body ms):JSs X body ms:=by unfold JSs;exact h
theorem JS.out(h:JS X st1 ms):SS X st1 ms:=by unfold JS at h;exact h
theorem JS.mk(h:SS X st1 ms):JS X st1 ms:=by unfold JS;exact h
theorem JA.out(h:JA X es mm):SA X es mm:=by unfold JA at h;exact h
theorem JA.mk(h:SA X es mm):JA X es mm:=by unfold JA;exact h
theorem zdq:JSs X [] zdJ:=.mk zec
theorem zaU(h:JS X st1 ms):JSs X [st1] ms:=.mk (zeb h.out)
theorem zas(h:JS X st1 ms)(h2:JSs X rest mq):JSs X (st1::rest) (mSeq ms mq):=.mk (zdv h.out h2.out)
theorem zgf(hc:SB X c mt)(h1:JSs X body ms)(h2:JSs X orelse mq):JS X (.If c body orelse pos) (mIf mt ms mq):=.mk (zgu hc h1.out h2.out)
theorem zeN{tg iter:Expr}(hp:PassesOwn (model X.prog X.w) X.A X.env X.xe)(hc:X.calm=true)(hi:SI X tg iter mi)(hg:SG X tg mg)(hb:JSs X body ms)(hs:∀ x,foldedSetIterable iter X.env x=pure x:=by intro _;rfl):JS X (.For tg iter body [] pos) (mFor mi mg ms):=.mk (zfi hp hc hi hg hb.out hs)
theorem zeO:JA X [] mNil:=.mk zam
theorem zav(ha:SE X e m)(hr:JA X es mm)(hs:∀ q,starEach (e::q) X.env=(false,eval e X.env)::starEach q X.env:=by intro _;rfl):JA X (e::es) (zah m mm):=.mk (zaa ha hr.out (hs _))
end
section
variable {prog:Program} {w:World} {A:Around}
theorem zbR(hh:A.handled=none)(it d:Addr)(hne:d≠it){o:Obj}{es:Array DictEntry}{ep:Nat}(dd:o.data=.dict es ep) :
   Walks prog w A it [it,d] [it] es.size (fun i v=>∃ en,es[i]?=some en/\v=en.key) (fun i h=>h.IsKeyIter it d i es.size ep/\h.get? d=some o) where
 sub:=fun b hb=>by simp at hb;simp[hb]
 frame:=fun _ _ _ st hk=>⟨st.1.at fun o e=>hk it (by simp) o e,hk d (by simp) o st.2⟩
 item:=fun i s Q E hi st hQ=>by
   have hx:es[i]?=some es[i]:=Array.getElem?_eq_getElem hi;refine zc0 st.1 st.2 dd hx fun h' st' sb=>?_;exact hQ _ h' s.toks ⟨_,hx,rfl⟩ ⟨st',(sb.2 d hne).trans st.2⟩ fun b ob hb e=>(sb.2 b (fun z=>hb (by simp[z]))).trans e
 done:=fun s Q E st hQ=>zcZ hh st.1 st.2 dd (by simp) fun h' eb=>hQ h' s.toks fun b ob hb e=>eb b ob (fun z=>hb (by simp[z])) e
 self:=fun _ _ _ _ st hQ=>wpAny_pyIter_keyiter st.1 hQ
theorem zdw{d:Addr}{o:Obj}{es:Array DictEntry}{ep:Nat}(dd:o.data=.dict es ep)(hd:(d==sysModules)=false)(ty:∀ s:Shared,s.heap.get? d=some o->s.TypeIs (.ref d) "dict") :
   PySem.W.KdlSrc prog w "dict" d d es.size (fun i v=>∃ en,es[i]?=some en/\v=en.key) (fun h=>h.get? d=some o) where
 type:=ty
 there:=fun _ g=>⟨Ae g,Ae g⟩
 keep:=fun _ _ g hk=>hk d (.inl rfl) o g
 notList:=by decide
 notTuple:=by decide
 hint:=fun _ _ s _ g hq=>PySem.W.kdl_hint_dict (ty s g) hq
 iter:=fun A' s hh g=>⟨_,_,fun _ _ hq=>zc1 (ty s g) hd g dd hq,zbR hh _ d (Ay (Ae g)) dd,⟨⟨_,Aw _ rfl,rfl,rfl⟩,Af _ g⟩⟩
end
section
variable {X:Cx} {K:Aa} {H:Hp} {io:List Addr} {st st':Sto}
theorem zbw{K:Aa}{H:Hp}{io:List Addr}:∀ {vs:List Value} {ps:List (List Key×V)} {kvs:List (List Key×D)},KR (List Key) K H io ps kvs->vs.length=ps.length->(∀ (j:Nat) (v:Value) (p:List Key×V),vs[j]?=some v->ps[j]?=some p->∃ b,v=.ref b/\H b=some (.tup (p.1.map kV)))->∃ ys,Vals ys vs/\Reps K H io ys (zgd kvs)
 | [],_,_,.nil,_,_=>⟨[],.nil,rfl⟩
 | [],_::_,_,.cons _ _,hl,_=>by simp at hl
 | v::vs,_,_,.nil,hl,_=>by simp at hl
 | v::vs,p::ps,q::kvs,.cons h t,hl,hv=>by
   obtain⟨b,rfl,hb⟩:=hv 0 v p rfl rfl;obtain⟨ys,r1,r2⟩:=zbw (vs:=vs) t (by simpa using hl) fun j v p e1 e2=>hv (j+1) v p (by simpa using e1) (by simpa using e2);refine⟨.ref b::ys,.cons rfl r1,Reps.cons ⟨b,_,rfl,hb,?_⟩ r2⟩;rw[h.1];exact zbk _
noncomputable def zdN:GN
 | [.ref n],st=>match st[n]? with
   | some (.dt kvs)=>if fits kvs.length=true then some (.ref st.length,st++[.lst (zgd kvs)]) else none
   | _=>none
 | _,_=>none
theorem zbP(hc:X.calm=true):zbg X (.type "list") zdN:=by
 rintro pins s σ H xs us Q I r ⟨ds,st,io,d,st',R,S,e,k⟩;unfold zdN at e
 split at e
 . rename_i n
   split at e
   . rename_i kvs en;obtain⟨hf,e⟩:=zag e;cases e;obtain⟨v,rfl,p,rfl,hp⟩:=R.one;obtain⟨u,rfl,ru⟩:=r.one;cases ru;obtain⟨ps,hH,rk⟩:=S.ob n p _ hp en;obtain⟨t1,t2,hs⟩:=zfQ I (.inr ⟨ps,.inl hH⟩);obtain⟨z,y,xs,r0,o,es,ep,g,ex,dd,et,nd⟩:=I.hok p _ hH;have x:=I.hok p _ hH;have fz:zaV X.prog X.w H s.heap p (.frz o (.dT ps)):=⟨g,x⟩
     obtain⟨g',hl,ent⟩:=zdW fz dd;have hsz:es.size<=sizeLine:=by
       rw[hl,KR.length rk];exact of_decide_eq_true hf
     refine PySem.W.kdl_call (zdw (prog:=X.prog) (w:=X.w) dd hs (fun s' g'=>?_)) (I.ok.hd hc) g hsz fun h' tk acc c' hk hat hacc=>?_
     . obtain⟨o',ho',hc'⟩:=t1;rw[g] at ho';cases ho';exact⟨o,g',hc'⟩
     . obtain⟨ys,rv,rr⟩:=zbw (vs:=acc.toList) rk (by rw[AJ,hacc.1,hl]) fun j v q e1 e2=>by
         obtain⟨en',h1,h2⟩:=hacc.2 j v (by rw[<-Bt];exact e1);obtain⟨en2,b,h3,h4,h5,_⟩:=ent j q.1 q.2 e2;rw[h1] at h3;cases h3;exact⟨b,by rw[h2,h4],h5⟩
       have hyl:ys.length<=sizeLine:=by rw[rv.length,AJ,hacc.1];exact hsz
       refine⟨.ref s.heap.objs.size,upd H s.heap.objs.size (.lst ys),I.laid (t':=tk) (fun b o q=>hk b o q) (Aj _) ⟨hyl,acc.toList,c',rv,by simpa using hat⟩,rfl,?_⟩;exact k.lst S rr (I.hok.fresh (Aj _))
   . cases e
 . cases e
noncomputable def zeL:GN:=orN zfH zdN
theorem zcy(hc:X.calm=true):zbg X (.type "list") zeL:=zcw (zcz hc) (zbP hc)
end
end L2.MP
namespace L2.MP
open PySem PySem.Spec PyProof.Rows PySem.SeqAt PySem.MeetsSeq PySem.MeetsSeq2 PySem.MeetsSeq3
end L2.MP
namespace L2.MP
open PySem L2 PySem.Spec PyProof.Rows
section
variable {K:Aa} {x:Str} {st:Stmt} {f:Addr}
structure FdIn(K:Aa)(x:Str)(st:Stmt)(f:Addr):Prop where
 ex:∃ (oc:Value) (od:Option Addr) (kV dc pm:Value) (an:Option Addr) (cd ct:Value) (sl:Array (Option Value)),K.lookup f=some ⟨oc,od,.func (AS x x (zax st) (zap st) (zad st) .none kV dc pm an cd ct),sl⟩/\Bo K cd x=true
 ns:CJ K mainGlobals x=some (some (.ref f))
 kp:AQ K (.ref f)=true
theorem zgK{oc kV dc pm cd ct:Value}{od an:Option Addr}{sl:Array (Option Value)}(a:CJ K mainGlobals x=some (some (.ref f)))(l:K.lookup f=some ⟨oc,od,.func (AS x x (zax st) (zap st) (zad st) .none kV dc pm an cd ct),sl⟩)(c:Bo K cd x=true)(k:AQ K (.ref f)=true):FdIn K x st f :=
 ⟨⟨oc,od,kV,dc,pm,an,cd,ct,sl,l,c⟩,a,k⟩
end
theorem len1{α:Type}{P:List α->Prop}(h:∀ a,P [a])(l:List α)(e:l.length=1):P l:=by
 rcases l with _ | ⟨a,_ | ⟨b,l⟩⟩
 . cases e
 . exact h a
 . cases e
theorem len2{α:Type}{P:List α->Prop}(h:∀ a b,P [a,b])(l:List α)(e:l.length=2):P l:=by
 rcases l with _ | ⟨a,l⟩
 . cases e
 . exact len1 (P:=fun l=>P (a::l)) (h a) l (B7 e)
theorem len3{α:Type}{P:List α->Prop}(h:∀ a b c,P [a,b,c])(l:List α)(e:l.length=3):P l:=by
 rcases l with _ | ⟨a,l⟩
 . cases e
 . exact len2 (P:=fun l=>P (a::l)) (h a) l (B7 e)
theorem len4{α:Type}{P:List α->Prop}(h:∀ a b c d,P [a,b,c,d])(l:List α)(e:l.length=4):P l:=by
 rcases l with _ | ⟨a,l⟩
 . cases e
 . exact len3 (P:=fun l=>P (a::l)) (h a) l (B7 e)
theorem len5{α:Type}{P:List α->Prop}(h:∀ a b c d f,P [a,b,c,d,f])(l:List α)(e:l.length=5):P l:=by
 rcases l with _ | ⟨a,l⟩
 . cases e
 . exact len4 (P:=fun l=>P (a::l)) (h a) l (B7 e)
end L2.MP
namespace L2.MP
open PySem PySem.Spec PyProof.Rows
section
variable {X:Cx} {K:Aa} {H:Hp} {io:List Addr} {st st':Sto} {o e value:Expr} {es:List Expr} {m mo mv:ME} {mm:MA} {pos pos' apos:Pos} {C:Addr} {f:Str}
noncomputable def inClass(st:Stmt)(j:Nat):Stmt:=match st with
 | .ClassDef _ _ _ body _ _ _ _ _ _ _=>body.getD j (.Pass ⟨0,0,0,0⟩)
 | _=>.Pass ⟨0,0,0,0⟩
end
end L2.MP
namespace L2.MP
open PySem L2 PySem.Spec PyProof.Rows
end L2.MP
namespace L2.MP
open PySem PySem.Spec PyProof.Rows
end L2.MP
namespace L2.MP
open PySem PySem.Spec
end L2.MP
namespace L2.MP
open PySem PySem.Spec PyProof.Rows
end L2.MP
namespace L2.MP
open PySem PySem.Spec
end L2.MP
namespace L2.MP
open PySem PySem.Spec PyProof.Rows
section
variable {X:Cx} {K:Aa} {H:Hp} {io:List Addr} {m:ME} {st st':Sto} {tg:Expr}
end
end L2.MP
namespace L2.MP
open PySem PySem.Spec
end L2.MP
namespace L2.MP
open PySem PySem.Spec PyProof.Rows
end L2.MP
namespace L2.MP.ST
open PySem PySem.SetTable
end L2.MP.ST
namespace L2.MP
open PySem PySem.Spec PyProof.Rows
end L2.MP
namespace L2.MP
open PySem PySem.Spec
end L2.MP
namespace L2.MP
open PySem PySem.Spec PyProof.Rows
variable {X:Cx} {pos:Pos}
end L2.MP
namespace L2.MP
open PySem PySem.Spec PyProof.Rows
end L2.MP
namespace L2.MP.ST
open PySem PySem.SetTable
end L2.MP.ST
namespace L2.MP
open PySem PySem.Spec PyProof.Rows
end L2.MP
namespace L2.MP
open PySem PySem.Spec
end L2.MP
namespace L2.MP
open PySem PySem.Spec PyProof.Rows
section
variable {X:Cx} {K:Aa} {H:Hp} {io:List Addr} {st st':Sto} {e:Expr} {es:List Expr} {m:ME} {mm:MA} {pos:Pos}
theorem zgw{x:Str}{p:Pos}{f:Addr}(hg:Gl X x)(hm:X.mg x=some (.ref f))(hn:FnA X.K x f)(hd:(x==("__debug__":Str))=false:=by decide):SE X (.Name x p) (mCon (.fn x)) :=
 PE.imp (zex hg hm (v:=.ref f) rfl hd) <| by
   rintro σ H Q ⟨ρ,st,io,d,st',E,S,e,k⟩
   cases e;exact k.now S ⟨f,rfl,hn⟩
end
end L2.MP
namespace L2.MP
open PySem PyProof.Rows
section
open PySem.SeqAt
open PySem.MeetsSeq PySem.MeetsSeq2 PySem.MeetsSeq3
end
end L2.MP
namespace L2.MP
open PySem PySem.Spec PyProof.Rows
end L2.MP
namespace L2.MP
open PySem PySem.Spec PyProof.Rows PySem.SeqAt
end L2.MP
namespace L2.MP
open PySem PySem.Spec PyProof.Rows
end L2.MP
namespace L2.MP
open PySem
section
variable {prog:Program} {w:World} {A:Around} {E:Value->Shared->Prop} {hp:Heap} {gs:Array GenState} {dr:Drawn} {tk:Nat} {os:OsState}
variable {nm ql:Str} {C N:Addr} {bs bm bmB bmN:List Value} {b1:Bool} {sn:List Str} {sub:List Value} {b2:Bool} {b3:Option Bool} {dd:Option Addr} {k0 k1 k2 k3 k5:Option Value} {B Bn newId nid initId inN:String}
noncomputable abbrev rowO (xs:List Value):Obj:={ cls:=.type "tuple",data:=.seq xs.toArray }
noncomputable abbrev errO (C n:Addr):Obj:={ cls:=.ref C,data:=.fields #[.ref n,.none,.none,.none,.bool false,.none] }
theorem za7(X1:ExcBaseFacts Bn newId inN bmN)(X2:bmB.contains (.type Bn)=true)(X3:ExcBaseFacts B nid initId bmB)(T:OwnTail hp bmB bm){mN:Str->Option Value}{xs:List Value}{f:Addr}{oF:Obj}{Q:Fin->Shared->Prop}
   (at_:hp.get? C=some (excClassObj nm ql C N bs bm b1 sn sub b2 b3 dd k0 k1 k2 k3 k5 newId)) (ns:hp.Ns N mN) (own:mN "__init__"=some (.ref f)) (fat:hp.get? f=some oF) (fcl:oF.cls=.type "function")
   (k:∀ h' e,hp.objs.size<=e->C9 hp h' e (.ref C) xs->wpAny (model prog w) A (call (.ref f) (.ref e::xs)) (fun r s'=>r=.none/\Q (.done (.ret (.ref e))) s') E ⟨h',gs,dr,tk,os⟩) (few:xs.length<=sizeLine) :
   wpAny (model prog w) A (Builtin.«type.__call__» ⟨.ref C::xs,[]⟩) Q E ⟨hp,gs,dr,tk,os⟩:=by
 repeat (first | with_reducible refine AC at_ ?_ | with_reducible refine wpAny_madeBy_exc at_ ?_ | wp_step)
 refine BS (Bl _ X1.quiet) (Cu X1 X2 T at_ (Cv X1 X2 X3 T at_ ?_ few));show wpAny _ _ _ _ _ _;have up:∀ {b:Addr} {o:Obj},hp.get? b=some o->((hp.push (rowO xs)).push (errO C hp.objs.size)).get? b=some o:=fun e=>Af _ (Af _ e);have at1:=up at_;have f1:=up fat;have ns1:((hp.push (rowO xs)).push (errO C hp.objs.size)).Ns N mN:=by
   obtain⟨o,es,ep,e,r⟩:=ns;exact⟨o,es,ep,up e,r⟩
 have new:((hp.push (rowO xs)).push (errO C hp.objs.size)).get? (hp.objs.size+1)=some (errO C hp.objs.size):=by heap_get
 have self:(Ao C::bm).contains (.ref C)=true:=by simp
 have T1:=T.keeps (h':=(hp.push (rowO xs)).push (errO C hp.objs.size)) fun b o e=>up e;unfold isInstance
 repeat (first | with_reducible refine AC new ?_ | (with_reducible refine BC at1 ?_;rw[self]) | wp_step)
 show wpAny _ _ (typeLookup (.ref C) _) _ _ _;refine Cs at1 ns1 T1 X3.mroIs X3.init.lookup ?_;rw[own];refine BL (Ab ?_);unfold bindSpecial;refine Ab (wpAny_typeOf (T:="function") ⟨_,f1,fcl⟩ ?_);rw[if_pos (by decide)];refine Ac (Ab (AH (k _ (hp.objs.size+1) (BG _) ⟨fun b o e=>up e,Bu (BG _),hp.objs.size,new,Bu (Aj _),Af _ (CS rfl rfl)⟩) (fun r s' z=>?_) fun _ _ z=>z));obtain⟨rfl,z⟩:=z
 wp_walk
 exact z
theorem zdj(X1:ExcBaseFacts Bn newId inN bmN)(X2:bmB.contains (.type Bn)=true)(X3:ExcBaseFacts B nid initId bmB)(T:OwnTail hp bmB bm){mN:Str->Option Value}{xs:List Value}{f:Addr}{oF:Obj}{Q:Value->Shared->Prop}
   (at_:hp.get? C=some (excClassObj nm ql C N bs bm b1 sn sub b2 b3 dd k0 k1 k2 k3 k5 newId)) (ns:hp.Ns N mN) (own:mN "__init__"=some (.ref f)) (fat:hp.get? f=some oF) (fcl:oF.cls=.type "function")
   (k:∀ h' e,hp.objs.size<=e->C9 hp h' e (.ref C) xs->wpAny (model prog w) (A.under (.builtin "type.__call__" ⟨.ref C::xs,[]⟩)) (call (.ref f) (.ref e::xs)) (fun r s'=>r=.none/\Q (.ref e) s') E ⟨h',gs,dr,tk,os⟩) (few:xs.length<=sizeLine) :
   wpAny (model prog w) A (call (.ref C) xs) Q E ⟨hp,gs,dr,tk,os⟩:=by
 have z1:=tc_lookup;have z2:=tc_bind (.ref C);have ty:(⟨hp,gs,dr,tk,os⟩:Shared).TypeIs (.ref C) "type":=⟨_,at_,rfl⟩
 refine Bw (codeAny_of_tree ?_);show wpAny _ _ (callAny (.ref C) _) _ _ _
 repeat (any_goals (first | assumption | with_reducible refine AC at_ ?_ | wp_step))
 exact⟨rfl,B9 (Bl _ (by decide +kernel)) entry_typeCall (BU at_ (za7 X1 X2 X3 T at_ ns own fat fcl k few))⟩
end
inductive OT (hp:Heap) (nn:List Str) (top:List Value):List Value->Prop
 | base:OT hp nn top top
 | own {a:Addr} {c0:Value} {dd:Option Addr} {cd:ClassData} {sl:Array (Option Value)} {mA:Str->Option Value} {tl:List Value}
     (at_:hp.get? a=some { cls:=c0,dict:=dd,data:=.cls cd,slots:=sl }) (ns:hp.Ns cd.ns mA) (no:∀ n∈nn,mA n=none) (more:OT hp nn top tl):OT hp nn top (.ref a::tl)
section
variable {hp hp':Heap} {nn:List Str} {top tl:List Value}
theorem OT.tail(T:OT hp nn top tl)(h:("__init__":Str)∈nn):OwnTail hp top tl:=by
 induction T with
 | base=>exact .base
 | own at_ ns no _ ih=>exact .own at_ ns (no _ h) ih
theorem OT.has(T:OT hp nn top tl){z:String}{b:Bool}(h:top.contains (.type z)=b):tl.contains (.type z)=b:=by
 induction T with
 | base=>exact h
 | own _ _ _ _ ih=>rw[CK,ih];rfl
theorem OT.pass(T:OT hp nn top tl)(self:Value)(what:Str):refuseLoop self what tl=refuseLoop self what top:=by
 induction T with
 | base=>rfl
 | own _ _ _ _ ih=>rw[refuseLoop_ref,ih]
end
section
variable {M:Model} {A:Around} {E:Value->Shared->Prop} {hp:Heap} {gs:Array GenState} {dr:Drawn} {tk:Nat} {os:OsState}
variable {nm ql:Str} {C N x:Addr} {bs bm top:List Value} {b1:Bool} {sn:List Str} {sub:List Value} {b2:Bool} {b3:Option Bool} {dd:Option Addr} {k0 k1 k2 k3 k5:Option Value} {B newId sa owner:String} {mN:Str->Option Value} {name:Str} {v:Value} {nn:List Str}
theorem zd4{tl:List Value}{y:Option Value}{Q:Option Value->Shared->Prop}(T:OT hp nn top tl)(hm:name∈nn)(e:lookupAlong top name=pure y)(k:Q y ⟨hp,gs,dr,tk,os⟩):wpAny M A (lookupAlong tl name) Q E ⟨hp,gs,dr,tk,os⟩:=by
 induction T with
 | base=>rw[e];exact Ac k
 | own at_ ns no _ ih =>
   rw[lookupAlong_cons];refine Ab (wpAny_classOwn_cls at_ ns ?_);rw[no _ hm];exact ih
theorem zbt{y:Option Value}{Q:Option Value->Shared->Prop}(at_:hp.get? C=some (excClassObj nm ql C N bs bm b1 sn sub b2 b3 dd k0 k1 k2 k3 k5 newId))(ns:hp.Ns N mN)(T:OT hp nn top bm)(hm:name∈nn)(mro:mroOf (.type B)=pure top)
   (e:typeLookup (.type B) name=pure y) (no:mN name=none) (k:Q y ⟨hp,gs,dr,tk,os⟩):wpAny M A (typeLookup (.ref C) name) Q E ⟨hp,gs,dr,tk,os⟩:=by
 rw[typeLookup_eq,mro] at e;rw[typeLookup_eq];refine Ab (wpAny_mroOf_exc at_ ?_);rw[lookupAlong_cons];refine Ab (wpAny_classOwn_exc at_ ns ?_);rw[no];exact zd4 T hm e k
theorem zd1{o:Obj}{u:Value}{Q:Unit->Shared->Prop}(SF:StoreFacts B top sa owner)(T:OT hp nn top bm)(at_:hp.get? C=some (excClassObj nm ql C N bs bm true sn sub b2 b3 dd k0 k1 k2 k3 k5 newId))(hx:hp.get? x=some o)(hc:o.cls=.ref C)(k:Q () ⟨hp,gs,dr,tk,os⟩) :
   wpAny M A (checkBuiltinCall sa ⟨[.ref x,u,v],[]⟩) Q E ⟨hp,gs,dr,tk,os⟩:=by
 have own:(Ao C::bm).contains (.type owner)=true:=by rw[CK,T.has SF.hasOwner];simp
 have ok:=SF.args (.ref x) u v;simp only[checkBuiltinCall,SF.kind,SF.split];refine Ab ?_;unfold isInstance
 repeat (first | (with_reducible refine AC hx ?_;rw[hc]) | (with_reducible refine BC at_ ?_;rw[own]) | wp_step)
 cases sg:Manifest.signature? sa with
 | none=>exact Ac k
 | some g =>
   simp only[argsOk,sg] at ok;show wpAny M A (Bind.checkArgs sa g ⟨[.ref x,u,v],[]⟩) Q E _;rw[show Bind.checkArgs sa g ⟨[.ref x,u,v],[]⟩=pure () from ok];exact Ac k
end
section
variable {prog:Program} {w:World} {A:Around} {E:Value->Shared->Prop} {hp:Heap} {gs:Array GenState} {dr:Drawn} {tk:Nat} {os:OsState}
variable {nm ql:Str} {C N x:Addr} {bs bm top:List Value} {sn:List Str} {sub:List Value} {b2:Bool} {b3:Option Bool} {dd:Option Addr} {k0 k1 k2 k3 k5:Option Value} {B newId sa owner:String} {mN:Str->Option Value} {name:Str} {v:Value} {nn:List Str} {o:Obj}
open Builtin Builtin.ObjectAttr in
theorem zdV{tok:Tok}{Q:Fin->Shared->Prop}(SF:StoreFacts B top sa owner)(T:OT hp nn top bm)(hm:name∈nn)(at_:hp.get? C=some (excClassObj nm ql C N bs bm true sn sub b2 b3 dd k0 k1 k2 k3 k5 newId))(ns:hp.Ns N mN)(no:mN name=none)
   (e:typeLookup (.type B) name=pure none) (hx:hp.get? x=some o) (hc:o.cls=.ref C) (hnc:∀ c,o.data≠.cls c) (hd:o.dict=none)
   (k:∀ h' tk',h'.get? x=some { o with dict:=some hp.objs.size }->h'.Ns1 hp.objs.size (fun y=>if y=name then some v else none)->(∀ b ob,b≠x->hp.get? b=some ob->h'.get? b=some ob)->Q (.done (.ret .none)) ⟨h',gs,dr,tk',os⟩) :
   wpAny (model prog w) A (Builtin.«object.__setattr__» ⟨[.ref x,.str name tok,v],[]⟩) Q E ⟨hp,gs,dr,tk,os⟩:=by
 have pass:=(T.pass (.ref x) "__setattr__").trans (SF.passes (.ref x));have hxs:x≠hp.objs.size:=Ay (Ae hx);unfold Builtin.«object.__setattr__»
 repeat (first | rw[refuse_eq] | (rw[refuseLoop_ref,pass]) | (with_reducible refine AC hx ?_;rw[hc]) | with_reducible refine wpAny_mroOf_exc at_ ?_ | with_reducible refine zbt at_ ns T hm SF.mro e no ?_ | wp_step)
 rw[hd,if_neg (by simp[typeHasDict])]
 split
 . rename_i z;cases z
 split
 . rename_i c z;exact absurd z (hnc c)
 . have hx1:(hp.push { cls:=.type "dict",data:=.dict #[] }).get? x=some o:=Af _ hx;refine Ab (wpAny_alloc' (Ab (wpAny_update' hx1 (Ac ?_))));have hD:((hp.push { cls:=.type "dict",data:=.dict #[] }).update x fun o=>{ cls:=o.cls,dict:=some hp.objs.size,data:=o.data,slots:=o.slots }).get? hp.objs.size=some { cls:=.type "dict",data:=.dict #[] }:=by
     rw[CD _ _ _ _ hxs.symm];exact CS rfl rfl
   have hX:((hp.push { cls:=.type "dict",data:=.dict #[] }).update x fun o=>{ cls:=o.cls,dict:=some hp.objs.size,data:=o.data,slots:=o.slots }).get? x=some { o with dict:=some hp.objs.size }:=by
     refine AU _ hx1 ?_;have fr:=(Heap.get?_some_iff.mp hx).2;obtain⟨oc,od,odt,osl⟩:=o
     cases odt <;> first | rfl | exact fr
   have hO:∀ b ob,b≠x->hp.get? b=some ob->((hp.push { cls:=.type "dict",data:=.dict #[] }).update x fun o=>{ cls:=o.cls,dict:=some hp.objs.size,data:=o.data,slots:=o.slots }).get? b=some ob:=fun b ob hb z=>by
     rw[CD _ _ _ _ hb];exact Af _ z
   generalize ((hp.push { cls:=.type "dict",data:=.dict #[] }).update x fun o=>{ cls:=o.cls,dict:=some hp.objs.size,data:=o.data,slots:=o.slots })=h2 at *;have hE:h2.Ns hp.objs.size (fun _=>none):=⟨_,#[],_,hD,rfl,fun z hz=>absurd hz (by simp),fun _=>rfl⟩
   show wpAny _ _ (storeInDict hp.objs.size (.str name tok) name v) _ _ _;unfold storeInDict newKeyGuard;refine Ab (Ac (Ab (wpAny_nsSet1 (Heap.Ns1.of_empty hE) fun h3 n3 sb=>?_)));obtain⟨oD,esD,epD,q1,q2,q3⟩:=n3.count (Within.cons name v Within.nil);refine Ab (wpAny_lookBehind q1 (by rw[q2];exact pastItsLine_dict (AE q3 (by rw[Br,List.length_nil,CT];omega))) ?_)
   wp_walk
   exact k h3 _ ((sb.2 x hxs).trans hX) n3 fun b ob hb z=>(sb.2 b (Ay (Ae z))).trans (hO b ob hb z)
theorem zdu{Q:Unit->Shared->Prop}(SF:StoreFacts B top sa owner)(T:OT hp nn top bm)(hm:name∈nn)(hms:("__setattr__":Str)∈nn)(at_:hp.get? C=some (excClassObj nm ql C N bs bm true sn sub b2 b3 dd k0 k1 k2 k3 k5 newId))(ns:hp.Ns N mN)(no:mN name=none)(nos:mN "__setattr__"=none)
   (e:typeLookup (.type B) name=pure none) (hx:hp.get? x=some o) (hc:o.cls=.ref C) (hnc:∀ c,o.data≠.cls c) (hd:o.dict=none)
   (k:∀ h' tk',h'.get? x=some { o with dict:=some hp.objs.size }->h'.Ns1 hp.objs.size (fun y=>if y=name then some v else none)->(∀ b ob,b≠x->hp.get? b=some ob->h'.get? b=some ob)->Q () ⟨h',gs,dr,tk',os⟩) :
   wpAny (model prog w) A (setAttr (.ref x) name v) Q E ⟨hp,gs,dr,tk,os⟩:=by
 have bd:=SF.slot.bind (.ref x);unfold setAttr callSpecial? specialOf
 repeat (any_goals (first | assumption | (with_reducible refine AC hx ?_;rw[hc]) | with_reducible refine zbt at_ ns T hms SF.mro SF.slot.lookup nos ?_ | wp_step))
 refine BB SF.slot.plain SF.entry (zd1 SF T at_ hx hc (zdV SF T hm at_ ns no e hx hc hnc hd fun h' tk' z1 z2 z3=>?_))
 repeat (any_goals (first | assumption | wp_step))
 exact k h' tk' z1 z2 z3
end
end L2.MP
namespace L2.MP
open PySem PySem.Spec PyProof.Rows
end L2.MP
namespace L2.MP
open PySem
end L2.MP
namespace L2.MP
open PySem PySem.Spec PyProof.Rows
structure ErrAt(hp:Heap)(C:Addr)(f:Str):Prop where
 ex:∃ (nm ql:Str) (N:Addr) (bs bm top:List Value) (sn:List Str) (sub:List Value) (b2:Bool) (b3:Option Bool) (dd:Option Addr) (k0 k1 k2 k3 k5:Option Value) (newId B sa owner:String) (mN:Str->Option Value) (nn:List Str),
   hp.get? C=some (excClassObj nm ql C N bs bm true sn sub b2 b3 dd k0 k1 k2 k3 k5 newId)/\hp.Ns N mN/\mN f=none/\mN "__setattr__"=none/\OT hp nn top bm/\f∈nn/\("__setattr__":Str)∈nn/\StoreFacts B top sa owner/\typeLookup (.type B) f=pure none
def newE(C x:Addr)(h:Heap):Prop:=∃ t,h.get? x=some { cls:=.ref C,data:=.fields #[.ref t,.none,.none,.none,.bool false,.none] }
def hasE(C x dx:Addr)(h:Heap):Prop:=∃ t,h.get? x=some { cls:=.ref C,dict:=some dx,data:=.fields #[.ref t,.none,.none,.none,.bool false,.none] }
noncomputable def sErr(C:Addr)(ta tv:TE)(f:Str):TS:=fun D σ H=>tv σ H fun y H1=>ta σ H1 fun v H2=>∃ x,v=.ref x/\H2 x=some (.ext (newE C x)) /\
 ∀ dx,H2 dx=none->dx≠x->D.nx σ (upd (upd H2 dx (.xd [(f,y)])) x (.ext (hasE C x dx)))
section
variable {X:Cx} {o value:Expr} {f:Str} {pos pos':Pos} {ta tv:TE} {C:Addr} {pins:List (Addr×Obj)} {σ:L2.St} {H:Hp} {s:Shared}
theorem zeX{x:Addr}{y:V}{u:Value}{A:Around}{E:Value->Shared->Prop}{Q:Unit->Shared->Prop}(I:Inv X pins σ H s)(hx:H x=some (.ext (newE C x)))(K:ErrAt s.heap C f)(ry:RelV y u)
   (k:∀ dx s',H dx=none->dx≠x->Inv X pins σ (upd (upd H dx (.xd [(f,y)])) x (.ext (hasE C x dx))) s'->Q () s'):wpAny (model X.prog X.w) A (setAttr (.ref x) f u) Q E s:=by
 obtain⟨nm,ql,N,bs,bm,top,sn,sub,b2,b3,dd,k0,k1,k2,k3,k5,newId,B,sa,owner,mN,nn,at_,ns,no,nos,T,hm,hms,SF,e⟩:=K.ex;obtain⟨⟨t,ox⟩,_,_⟩:=I.hok x _ hx;have lx:=Ae ox;have xs:s.heap.objs.size≠x:=BZ lx;have hdx:H s.heap.objs.size=none:=I.hok.fresh (Aj _);obtain⟨hp,gs,dr,tk,os⟩:=s;refine zdu SF T hm hms at_ ns no nos e ox rfl (by intro c z;cases z) rfl fun h' tk' z1 z2 z3=>?_;refine k hp.objs.size _ hdx xs ?_
 -- the dict is laid,then the instance is written
 have nf:({ cls:=.ref C,data:=.fields #[.ref t,.none,.none,.none,.bool false,.none] }:Obj).isFreed=false:=rfl;have u1:(h'.update x fun _=>{ cls:=.ref C,data:=.fields #[.ref t,.none,.none,.none,.bool false,.none] }).get? x=some { cls:=.ref C,data:=.fields #[.ref t,.none,.none,.none,.bool false,.none] }:=AU _ z1 nf;have u2:∀ b,b≠x->(h'.update x fun _=>{ cls:=.ref C,data:=.fields #[.ref t,.none,.none,.none,.bool false,.none] }).get? b=h'.get? b:=fun b hb=>Bp _ _ (BD hb);generalize (h'.update x fun _=>{ cls:=.ref C,data:=.fields #[.ref t,.none,.none,.none,.bool false,.none] })=h1 at *;have kp:∀ b q,hp.get? b=some q->h1.get? b=some q:=fun b q z=>by
   by_cases hb:b=x
   . rw[hb] at z ⊢;rw[u1];exact ox.symm.trans z
   . rw[u2 b hb];exact z3 b q hb z
 have I1:Inv X pins σ (upd H hp.objs.size (.xd [(f,y)])) ⟨h1,gs,dr,tk',os⟩:=I.laid (t':=tk') kp (Aj _) ⟨_,z2.at fun q z=>(u2 _ xs).trans z,fun g=>by
   show RelO (Cn g [(f,y)]) _
   by_cases q:g=f
   . rw[if_pos q,q];simp[Cn];exact ry
   . rw[if_neg q];have:(g==f)=false:=by simpa using q
     simp[Cn,this]
     trivial⟩
 have mu:Mut (upd H hp.objs.size (.xd [(f,y)]) x):=by
   rw[zaf (BD xs),hx];exact BQ
 exact I1.write (x:=x) (e:=x) (t':=tk') mu (.inl rfl) (fun b q hb z=>(u2 b hb).symm.trans z) ⟨_,z1⟩ ⟨⟨t,z1⟩,⟨_,z1⟩,fun g1 g2 z kk=>by
   obtain⟨t',z⟩:=z;exact⟨t',kk _ z⟩⟩
theorem zfv(hC:∀ h:Heap,X.K.In h->ErrAt h C f)(ha:PE X o ta)(hv:PE X value tv)(hs:swapsWith value (some (.Attribute o f pos')) pos.line X.env=pure false):PS X (.Assign [.Attribute o f pos'] value pos) (sErr C ta tv f):=by
 intro pins s σ H D I h;refine plainObj_wpAny_Assign_Attribute (thn (hv pins s σ H _ I h) fun u s1 ⟨y,H1,I1,ry,q⟩=>thn (ha pins s1 σ H1 _ I1 q) ?_) hs;rintro ov s2 ⟨v,H2,I2,rx,x,ex,hx,q2⟩;subst ex;obtain rfl:ov=Ao x:=rx;exact zeX I2 hx (hC _ I2.kIn) ry fun dx s3 d1 d2 I3=>⟨σ,_,I3,q2 dx d1 d2⟩
end
structure MadeAt(hp:Heap)(C f:Addr):Prop where
 ex:∃ (nm ql:Str) (N:Addr) (bs bm bmB bmN:List Value) (b1:Bool) (sn:List Str) (sub:List Value) (b2:Bool) (b3:Option Bool) (dd:Option Addr) (k0 k1 k2 k3 k5:Option Value) (newId B Bn nid initId inN:String) (mN:Str->Option Value) (oF:Obj),
   ExcBaseFacts Bn newId inN bmN/\bmB.contains (.type Bn)=true/\ExcBaseFacts B nid initId bmB/\OwnTail hp bmB bm/\hp.get? C=some (excClassObj nm ql C N bs bm b1 sn sub b2 b3 dd k0 k1 k2 k3 k5 newId)/\hp.Ns N mN/\mN "__init__"=some (.ref f)/\hp.get? f=some oF/\oF.cls=.type "function"
noncomputable def tErr(b:Nat)(C:Addr)(sp:Sp)(t:TA):TE:=fun σ H Q=>t σ H fun vs H1=>vs.length<=1000/\∀ x,H1 x=none->b<=x->sp (.ref x::vs) (upd H1 x (.ext (newE C x))) (fun v H2=>v=.non/\Q (.ref x) H2) E0
section
variable {X:Cx} {C f:Addr} {fd:FuncData} {ps:List Str} {sp:Sp} {k:Nat} {pins:List (Addr×Obj)} {σ:L2.St} {H:Hp} {s:Shared} {Q:VK} {us:List Value} {vs:List V} {y:Str} {p pos:Pos} {e:Expr} {es:List Expr} {t:TA}
theorem zep(hC:∀ h:Heap,X.K.In h->MadeAt h C f)(F:FnOk X.prog X.w X.K X.mg X.base CX0 k f fd ps sp)(hr:Room (k+1) X.A)(hb:Binds X.K fd ps [])(I:Inv X pins σ H s)(r:Vals vs us)(few:vs.length<=1000)
   (h:∀ x,H x=none->X.s₀.heap.objs.size<=x->sp (.ref x::vs) (upd H x (.ext (newE C x))) (fun v H2=>v=.non/\Q (.ref x) H2) E0):wpAny (model X.prog X.w) X.A (call (.ref C) us) (EP X pins σ Q) X.xe s:=by
 obtain⟨nm,ql,N,bs,bm,bmB,bmN,b1,sn,sub,b2,b3,dd,k0,k1,k2,k3,k5,newId,B,Bn,nid,initId,inN,mN,oF,X1,X2,X3,T,at_,ns,own,fat,fcl⟩:=(hC _ I.kIn).ex;obtain⟨hp,gs,dr,tk,os⟩:=s;have lu:us.length=vs.length:=r.length.symm;refine zdj X1 X2 X3 T at_ ns own fat fcl (fun h' x hle m=>?_) (by rw[lu];exact BY (zcK few));have hx:H x=none:=I.hok.fresh hle;obtain⟨t',ht,_,_⟩:=m.there;have I2:Inv X pins σ (upd H x (.ext (newE C x))) ⟨h',gs,dr,tk,os⟩:=I.laid (t':=tk) m.keeps hle ⟨⟨t',ht⟩,⟨_,ht⟩,fun g1 g2 z kk=>by
   obtain⟨t2,z⟩:=z;exact⟨t2,kk _ z⟩⟩
 have hq:=h x hx (AE I.sz hle);have r2:Vals (V.ref x::vs) (Ao x::us):=.cons rfl r;have hl:(Ao x::us).length=ps.length:=by
   have q:=r2.length;rw[F.len _ _ _ _ hq] at q;exact q.symm
 have r3:Vals (V.ref x::vs) (Ao x::us++[]):=by rw[Ad];exact r2
 refine Bw (B1 (F.run _ X.stack _ _ ⟨Ao x::us,[]⟩ (Ao x::us++[]) _ _ E0 (hr.make C us []) (I2.env0.make C us []) (hb _ (Ao x::us) I2.kIn (by rw[Ad];exact hl)) r3 hq) fun rr s' z=>?_)
 cases rr with
 | error e=>exact False.elim z
 | ok fl =>
   cases fl with
   | ret u =>
     obtain⟨v,H',I3,rv,ev,q3⟩:=I2.after z;subst ev;exact⟨rv,⟨V.ref x,H',I3,rfl,q3⟩⟩
   | next=>exact False.elim z
   | brk=>exact False.elim z
   | cont=>exact False.elim z
theorem zfz(hC:∀ h:Heap,X.K.In h->MadeAt h C f)(hkp:AQ X.K (.ref C)=true)(F:FnOk X.prog X.w X.K X.mg X.base CX0 k f fd ps sp)(hr:Room (k+1) X.A)(hg:Gl X y)(hm:X.mg y=some (.ref C))(hb:Binds X.K fd ps [])
   (ha:PA X (e::es) t) (hdb:(y==("__debug__":Str))=false:=by decide) (he:starEach (e::es) X.env=(false,eval e X.env)::starEach es X.env:=by rfl) (hpl:(backTo pos (starEach es X.env)).any (·.1)=false:=by rfl) :
   PE X (.Call (.Name y p) (e::es) [] pos) (tErr X.s₀.heap.objs.size C sp t):=by
 intro pins s σ H Q I h;refine A1 (zbv I hg hm ?_ hdb);refine CI (h₀:=X.base) I.ok.mod.kin hkp (thn (ha pos pins s σ H _ I h) fun us s1 ⟨vs,H1,I1,r,few,q⟩=>⟨I1.kIn,?_⟩) he hpl;exact zep hC F hr hb I1 r few q
end
structure RaiseAt(hp:Heap)(C:Addr):Prop where
 ex:∃ (nm ql:Str) (N:Addr) (bs bm:List Value) (b1:Bool) (sn:List Str) (sub:List Value) (b2:Bool) (b3:Option Bool) (dd:Option Addr) (k0 k1 k2 k3 k5:Option Value) (newId:String),
   hp.get? C=some (excClassObj nm ql C N bs bm b1 sn sub b2 b3 dd k0 k1 k2 k3 k5 newId)/\bm.contains (.type "BaseException")=true
noncomputable def zed(C:Addr)(f:Str):Sp:=fun vs H Q _=>∃ x y,vs=[.ref x,y]/\H x=some (.ext (newE C x))/\∀ dx,H dx=none->dx≠x->Q .non (upd (upd H dx (.xd [(f,y)])) x (.ext (hasE C x dx)))
section
variable {P:Program} {w:World} {K:Aa} {mg:Str->Option Value} {base:Heap} {C:Addr} {f:Str}
theorem zeQ{x qual n0 n1:Str}{st:Stmt}{fa:Addr}{fd:FuncData}{k:Nat}{p0 p1 pos' pos:Pos}(F:Fun K x qual st fa fd)(S:FnScope [n0,n1] [n0,n1] (zad st))(hb:zap st=[.Assign [.Attribute (.Name n0 p0) f pos'] (.Name n1 p1) pos])
   (hC:∀ h:Heap,K.In h->ErrAt h C f) (v0:(zad st).names.lookup n0=some .local) (v1:(zad st).names.lookup n1=some .local) (d0:(n0==("__debug__":Str))=false) (d1:(n1==("__debug__":Str))=false) (c0:(n0==("__classdict__":Str))=false) (c1:(n1==("__classdict__":Str))=false)
   (hs:∀ env,swapsWith (.Name n1 p1) (some (.Attribute (.Name n0 p0) f pos')) pos.line env=pure false):FnOk P w K mg base CX0 (k+1) fa fd [n0,n1] (zed C f):=by
 refine F.ok S (fun vs H Q E ⟨x,y,e,_⟩=>by rw[e];rfl) fun cdv A outer s H vs Q E hr h=>?_;rw[hb];refine⟨_,zdm (zfv (C:=C) hC (pv 0 rfl (.inl v0) d0 c0) (pv 1 rfl (.inl v1) d1 c1) (hs _)),?_⟩;obtain⟨a,y,rfl,ha,q⟩:=h;exact⟨y,rfl,.ref a,rfl,a,rfl,ha,fun dx h1 h2=>q dx h1 h2⟩
end
end L2.MP
namespace L2.MP
open PySem PySem.Spec PyProof.Rows PySem.W
theorem zb0{K:Aa}{H:Hp}{io:List Addr}{st:Sto}{p:Addr}{o:HO}(S:StR K H io st)(hp:H p=none):Ext io [] H (upd H p o)/\StR K (upd H p o) (io++[]) st:=by
 have E:Ext io [] H (upd H p o):=⟨fun b u h _=>by rw[zaf (zac h hp)];exact h,fun b h=>absurd h (by simp),fun b u v h=>by rw[zaf (zac h hp)];exact h⟩
 refine⟨E,by rw[Ad];exact S.len,by rw[Ad];exact S.nd,fun n a ob h1 h2=>?_⟩;rw[Ad] at h1;obtain⟨u,hu,_⟩:=(S.ob n a ob h1 h2).stands;exact OR.mono (E.kp S) (by rw[zaf (zac hu hp)]) (S.ob n a ob h1 h2)
end L2.MP
namespace L2.MP
open PySem PySem.W PyProof.Rows Builtin.ObjectAttr
structure ExK(K:Frag)(C:Addr):Prop where
 ga:findIn K (.ref C) "__getattribute__"=some (some (.builtin "BaseException.__getattribute__"))
 hk:findIn K (.ref C) "__getattr__"=some none
 cl:findIn K (.ref C) "__class__"=some (some (.builtin "object.__class__"))
 gs:specialIn K (.builtin "object.__class__") "__get__"=some (some (.builtin "getset_descriptor.__get__"))
 tk:takesIn K (.builtin "object.__class__")=some true
 mo:mroIn K C (.type "object")=some true
 mb:mroIn K C (.type "BaseException")=some true
section
variable {prog:Program} {w:World} {A:Around} {E:Value->Shared->Prop} {s:Shared} {K:Frag} {x C:Addr} {ox:Obj} {od:Option Obj} {name:Str} {tk:Tok}
theorem zeV{fill expr:Bool}{Q:Value->Shared->Prop}(Z:ExK K C)(X:K.In s.heap)(I:InstAt s.heap x ox C od)
   (h:wpAny (model prog w) A.in1 (Builtin.«object.__getattribute__» ⟨[.ref x,.str name tk],[]⟩) (fun fin s'=>match fin with | .done (.ret v)=>handedIn v=true/\Q v s' | _=>False) (fun _ _=>False) s) :
   wpAny (model prog w) A (getAttrBy (.ref x) (.str name tk) fill expr) Q E s:=by
 obtain⟨hh,g,d,t,os⟩:=s;have L0:=I.type (M:=model prog w);have L1:=looks_findIn (M:=model prog w) X Z.ga;have L2:=looks_findIn (M:=model prog w) X Z.hk;have L3:Looks (model prog w) hh (isInstance (.ref x) (.type "BaseException")) true:=L0.andThen (looks_mroIn X Z.mb);have bd:=F.excAttr_ValueError.ga.bind (.ref x);have n1:(expr&&onTheHeap (Bq "BaseException.__getattribute__"))=false:=by cases expr <;> rfl
 have n2:(Bq "BaseException.__getattribute__"==Bq "object.__getattribute__")=false:=by decide +kernel
 have n3:(onTheHeap (Ao C)&&Bq "BaseException.__getattribute__"==Bq "object.__getattribute__")=false:=by rw[n2];rfl
 repeat (any_goals (first | assumption | (with_reducible refine AC I.at_ ?_;rw[I.cls]) | with_reducible refine L1.here ?_ | with_reducible refine L2.here ?_ | wp_step))
 have kd:builtinKind "BaseException.__getattribute__"=some .slot:=by decide +kernel
 have sp:splitId "BaseException.__getattribute__"=some ("BaseException","__getattribute__"):=by decide +kernel
 refine BB F.excAttr_ValueError.ga.plain F.entry_bexc_ga ?_;have ak:=F.args_bexc_ga (.ref x) (.str name tk);show wpAny _ _ (checkBuiltinCall "BaseException.__getattribute__" ⟨.ref x::[.str name tk],[]⟩) _ _ _;refine check_slot (s:=⟨hh,g,d,t,os⟩) (i:="BaseException.__getattribute__") (owner:="BaseException") (n:="__getattribute__") (self:=.ref x) (rest:=[.str name tk]) (kw:=[]) kd sp L3 ak ?_;refine AH h (fun fin s' z=>?_) fun _ _ z=>z.elim
 rcases fin with (_ | _ | _ | v) | _ <;> first | exact z.elim | skip
 obtain⟨z1,z2⟩:=z;show wpAny _ _ (handedOut _) _ _ _;rw[handedOut_of z1];exact Ac z2
theorem zdS{v:Value}{Q:Fin->Shared->Prop}(X:K.In s.heap)(I:InstAt s.heap x ox C od)(hf:findObj K C od name=some (.value v))(h:Q (.done (.ret v)) s) :
   wpAny (model prog w) A (Builtin.«object.__getattribute__» ⟨[.ref x,.str name tk],[]⟩) Q E s:=by
 obtain⟨hh,g,d,t,os⟩:=s;have L0:=I.type (M:=model prog w);have L1:=looks_find (M:=model prog w) X I hf;refine Ab (Ac (Ab (Ac (Ab (L0.at (Ab (L1.at ?_)))))));exact Ac h
theorem zeT{ge a:Value}{Q:Fin->Shared->Prop}(X:K.In s.heap)(I:InstAt s.heap x ox C od)(hf:findObj K C od name=some (.bind ge a))(h:wpAny (model prog w) A (call ge [a,.ref x,.ref C]) (fun v s'=>Q (.done (.ret v)) s') E s) :
   wpAny (model prog w) A (Builtin.«object.__getattribute__» ⟨[.ref x,.str name tk],[]⟩) Q E s:=by
 obtain⟨hh,g,d,t,os⟩:=s;have L0:=I.type (M:=model prog w);have L1:=looks_find (M:=model prog w) X I hf;refine Ab (Ac (Ab (Ac (Ab (L0.at (Ab (L1.at ?_)))))));show wpAny _ _ (holding [a] (call ge [a,.ref x,.ref C]) >>= ret) _ _ _;exact Ab (BL (AH h (fun v s' z=>Ac z) fun _ _ z=>z))
theorem zc9{Q:Option Value->Shared->Prop}(Z:ExK K C)(X:K.In s.heap)(I:InstAt s.heap x ox C od)(h:Q (some (.ref C)) { s with toks:=s.toks+1 }):wpAny (model prog w) A (getAttr? (.ref x) "__class__") Q E s:=by
 have hc:(clsIn K C).isSome=true:=by
   have:=Z.mo;unfold mroIn at this
   cases hh:clsIn K C with
   | none=>rw[hh] at this;cases this
   | some _=>rfl
 have hf:findObj K C od "__class__"=some (.bind (.builtin "getset_descriptor.__get__") (.builtin "object.__class__")):=by
   obtain⟨cd,hc⟩:=Option.isSome_iff_exists.mp hc;unfold findObj;rw[hc,Au,Z.cl,Au];simp[Z.gs,Z.tk]
 unfold getAttr? getAttrBy?;refine Ab (wpAny_mkText (Ab (Cw (zeV (s:={ s with toks:=s.toks+1 }) Z X I (zeT (s:={ s with toks:=s.toks+1 }) X I hf (Bw (class_get (s:={ s with toks:=s.toks+1 }) X I Z.mo ?_)))))));exact⟨rfl,Ac h⟩
theorem zdT{v:Value}{Q:Value->Shared->Prop}{expr:Bool}(Z:ExK K C)(X:K.In s.heap)(I:InstAt s.heap x ox C od)(hf:findObj K C od name=some (.value v))(hv:handedIn v=true)(h:Q v { s with toks:=s.toks+1 }):wpAny (model prog w) A (getAttr (.ref x) name expr) Q E s:=by
 unfold getAttr;exact Ab (wpAny_mkText (zeV (s:={ s with toks:=s.toks+1 }) Z X I (zdS (s:={ s with toks:=s.toks+1 }) X I hf ⟨hv,h⟩)))
theorem zbj(Z:ExK K C):KitX K (.ref x) (.ref C) (fun h=>∃ ox od,InstAt h x ox C od) where
 ty:=fun _ _ _ ⟨_,_,I⟩=>I.type
 it:=fun _ _ X _=>by
   have:=Z.mo;unfold mroIn clsIn at this
   split at this
   . rename_i ho;intro A' Q' E' s' k q;unfold isType loadHead;exact Ab (wpAny_loadPart (k _ _ (X _ _ ho)) (Ac q))
   . cases this
 ne:=fun h tp dd its n sl X htp=>by
   have:=Z.mo;refine Bool.eq_false_iff.mpr fun q=>?_;have e:C=tp:=Value.ref.inj (beq_iff_eq.mp q);subst e;unfold mroIn clsIn at this
   split at this
   . rename_i ho;have z:=(X _ _ ho).symm.trans htp;cases z
   . cases this
 ca:=fun X ⟨_,_,I⟩ k=>zc9 Z X I k
end
end L2.MP
namespace L2.MP
open PySem PySem.W
section
variable {prog:Program} {w:World} {A:Around} {E:Value->Shared->Prop} {hp:Heap} {gs:Array GenState} {dr:Drawn} {tk:Nat} {os:OsState}
variable {nm ql:Str} {C N:Addr} {bs bm bmB bmN:List Value} {b1:Bool} {sn:List Str} {sub:List Value} {b2:Bool} {b3:Option Bool} {dd:Option Addr} {k0 k1 k2 k3 k5:Option Value} {B Bn newId nid initId inN:String}
theorem zaW(X1:ExcBaseFacts Bn newId inN bmN)(X2:bmB.contains (.type Bn)=true)(X3:ExcBaseFacts B nid initId bmB)(T:OwnTail hp bmB bm){mN:Str->Option Value}{Q:Fin->Shared->Prop}
   (at_:hp.get? C=some (excClassObj nm ql C N bs bm b1 sn sub b2 b3 dd k0 k1 k2 k3 k5 newId)) (ns:hp.Ns N mN) (no:mN "__init__"=none)
   (k:∀ h' e,hp.objs.size<=e->(∀ b o,hp.get? b=some o->h'.get? b=some o)->(∃ t,h'.get? e=some (errO C t))->Q (.done (.ret (.ref e))) ⟨h',gs,dr,tk,os⟩) :
   wpAny (model prog w) A (Builtin.«type.__call__» ⟨.ref C::[],[]⟩) Q E ⟨hp,gs,dr,tk,os⟩:=by
 repeat (first | with_reducible refine AC at_ ?_ | with_reducible refine wpAny_madeBy_exc at_ ?_ | wp_step)
 refine BS (Bl _ X1.quiet) (Cu X1 X2 T at_ (Cv X1 X2 X3 T at_ ?_ (by decide)));show wpAny _ _ _ _ _ _;have up:∀ {b:Addr} {o:Obj},hp.get? b=some o->((hp.push (rowO [])).push (errO C hp.objs.size)).get? b=some o:=fun e=>Af _ (Af _ e);have at1:=up at_;have ns1:((hp.push (rowO [])).push (errO C hp.objs.size)).Ns N mN:=by
   obtain⟨o,es,ep,e,r⟩:=ns;exact⟨o,es,ep,up e,r⟩
 have new:((hp.push (rowO [])).push (errO C hp.objs.size)).get? (hp.objs.size+1)=some (errO C hp.objs.size):=by heap_get
 have self:(Ao C::bm).contains (.ref C)=true:=by simp
 have T1:=T.keeps (h':=(hp.push (rowO [])).push (errO C hp.objs.size)) fun b o e=>up e;unfold isInstance
 repeat (first | with_reducible refine AC new ?_ | (with_reducible refine BC at1 ?_;rw[self]) | wp_step)
 show wpAny _ _ (typeLookup (.ref C) _) _ _ _;refine Cs at1 ns1 T1 X3.mroIs X3.init.lookup ?_;rw[no];have ib:=X3.init.bind (.ref (hp.objs.size+1));refine BL (Ab (CV ib (Ab (Bw (BB X3.init.plain X3.initEntry ?_)))));refine wpAny_check_init_subU X3 T1 at1 new rfl ?_
 wp_walk
 refine k _ (hp.objs.size+1) (BG _) (fun b o e=>?_) ⟨hp.objs.size+2,?_⟩
 . rw[Bp _ _ (BZ (BN (Ae e)))];exact Af _ (up e)
 . rw[AU _ (Af _ new) rfl];simp only[A6];rfl
theorem call_plain(X1:ExcBaseFacts Bn newId inN bmN)(X2:bmB.contains (.type Bn)=true)(X3:ExcBaseFacts B nid initId bmB)(T:OwnTail hp bmB bm){mN:Str->Option Value}{Q:Value->Shared->Prop}
   (at_:hp.get? C=some (excClassObj nm ql C N bs bm b1 sn sub b2 b3 dd k0 k1 k2 k3 k5 newId)) (ns:hp.Ns N mN) (no:mN "__init__"=none)
   (k:∀ h' e,hp.objs.size<=e->(∀ b o,hp.get? b=some o->h'.get? b=some o)->(∃ t,h'.get? e=some (errO C t))->Q (.ref e) ⟨h',gs,dr,tk,os⟩) :
   wpAny (model prog w) A (call (.ref C) []) Q E ⟨hp,gs,dr,tk,os⟩:=by
 have z1:=tc_lookup;have z2:=tc_bind (.ref C);have ty:(⟨hp,gs,dr,tk,os⟩:Shared).TypeIs (.ref C) "type":=⟨_,at_,rfl⟩
 refine Bw (codeAny_of_tree ?_);show wpAny _ _ (callAny (.ref C) _) _ _ _
 repeat (any_goals (first | assumption | with_reducible refine AC at_ ?_ | wp_step))
 exact⟨rfl,B9 (Bl _ (by decide +kernel)) entry_typeCall (BU at_ (zaW X1 X2 X3 T at_ ns no k))⟩
end
end L2.MP
namespace L2.MP
open PySem PySem.Spec PyProof.Rows PySem.W
structure PlainAt(hp:Heap)(C:Addr):Prop where
 ex:∃ (nm ql:Str) (N:Addr) (bs bm bmB bmN:List Value) (b1:Bool) (sn:List Str) (sub:List Value) (b2:Bool) (b3:Option Bool) (dd:Option Addr) (k0 k1 k2 k3 k5:Option Value) (newId B Bn nid initId inN:String) (mN:Str->Option Value),
   ExcBaseFacts Bn newId inN bmN/\bmB.contains (.type Bn)=true/\ExcBaseFacts B nid initId bmB/\OwnTail hp bmB bm/\hp.get? C=some (excClassObj nm ql C N bs bm b1 sn sub b2 b3 dd k0 k1 k2 k3 k5 newId)/\hp.Ns N mN/\mN "__init__"=none
noncomputable def mErr(c f:Str)(m:ME):ME:=fun ρ st=>(m ρ st).bind fun (d,s)=>match d with
 | .int n=>some (.er true c (some (f,n)),s)
 | _=>none
noncomputable def anyE(t:Str->Str->Option Bool)(c:Str):List D->Option Bool
 | []=>some false
 | d::ds=>match d with
   | .fn y=>(t c y).bind fun b=>if b=true then some true else anyE t c ds
   | _=>none
noncomputable def isE(t:Str->Str->Option Bool):GN:=fun ds st=>match ds with
 | [.er true c _,.fn y]=>(t c y).map fun b=>(.bl b,st)
 | [.er true c _,.tup (.fn y::ys)]=>(anyE t c (.fn y::ys)).map fun b=>(.bl b,st)
 | _=>none
noncomputable def mIsT(t:Str->Option Bool)(m:ME):ME:=fun ρ st=>(m ρ st).bind fun (d,s)=>match d with
 | .er true c _=>(t c).map fun b=>(.bl b,s)
 | _=>none
noncomputable def mAtE(ok:Str->Bool)(f:Str)(m:ME):ME:=fun ρ st=>(m ρ st).bind fun (d,s)=>match d with
 | .er true c (some (g,n))=>if g=f/\ok c=true then some (.int n,s) else none
 | _=>none
def IsOk(K:Frag)(t:Str->Str->Option Bool):Prop:=∀ c y b C D,t c y=some b->FnA K c C->FnA K y D->ExK K C/\kitOne K (.ref C) (.ref D)=some b
def zf5(K:Frag)(T:String)(t:Str->Option Bool):Prop:=∀ c b C,t c=some b->FnA K c C->ExK K C/\kitOne K (.ref C) (.type T)=some b
def AtOk(K:Frag)(f:Str)(ok:Str->Bool):Prop:=∀ c C,ok c=true->FnA K c C->ExK K C/\findIn K (.ref C) f=some none/\hasDictIn K C=true
section
variable {X:Cx} {pins:List (Addr×Obj)} {σ:L2.St} {H:Hp} {s:Shared} {io:List Addr} {st:Sto}
theorem Inv.er{x C:Addr}{od:Option Addr}{φ:Heap->Prop}{o:Obj}{fs:Array Value}(I:Inv X pins σ H s)(hx:H x=some (.ext φ))(g:s.heap.get? x=some o)(c:o.cls=.ref C)(d:o.dict=od)(e:o.data=.fields fs):Inv X pins σ (upd H x (.frz o (.ext (ErZ C x od)))) s:=by
 have I1:Inv X pins σ (upd H x (.ext (ErZ C x od))) s:=I.write (x:=x) (e:=x) (h':=s.heap) (t':=s.toks) (by rw[hx];exact BQ) (.inl rfl) (fun b u _ q=>q) ⟨_,g⟩ ⟨⟨o,fs,g,c,d,e⟩,⟨_,g⟩,fun h1 h2 ⟨o',fs',g',r⟩ kk=>⟨o',fs',kk _ g',r⟩⟩;have:=Inv.freeze I1 (d:=x) (o:=o) zai g (by simp) (by simp) (by simp) (by simp)
 rwa [zdl] at this
theorem zcn{v:V}{c:Str}{f:Option (Str×Int)}(I:Inv X pins σ H s)(h:ErR X.K H v c f):∃ a C ox od,v=.ref a/\FnA X.K c C/\InstAt s.heap a ox C od:=by
 cases f with
 | none =>
   obtain⟨a,C,o,rfl,q,r⟩:=h;obtain⟨g,⟨o1,fs,g1,c1,d1,e1⟩,_⟩:=I.hok _ _ r;refine⟨a,C,o1,none,rfl,q,g1,c1,by unfold notCls;rw[e1],?_⟩;rw[d1];exact BQ
 | some p =>
   obtain⟨a,C,o,dx,o',rfl,q,r,z⟩:=h;obtain⟨g,⟨o1,fs,g1,c1,d1,e1⟩,_⟩:=I.hok _ _ r;obtain⟨g2,_⟩:=I.hok _ _ z;refine⟨a,C,o1,some o',rfl,q,g1,c1,by unfold notCls;rw[e1],?_⟩;rw[d1];exact g2
theorem zdt{K:Frag}{c:Str}{C:Addr}{t:Str->Str->Option Bool}(T:IsOk K t)(hc:FnA K c C){io:List Addr}:∀ {ds:List D} {xs:List V} {us:List Value} {b:Bool},anyE t c ds=some b->Reps K H io xs ds->Vals xs us->kitAny K (.ref C) us=some b
 | [],xs,us,b,e,R,r=>by
   cases e
   cases (show xs=[] from R)
   cases r;rfl
 | d::ds,xs,us,b,e,R,r=>by
   obtain⟨x,xs,rfl,r1,R⟩:=R
   cases r with
   | cons q r =>
     unfold anyE at e
     split at e
     . rename_i y;obtain⟨b1,e1,e⟩:=zab e;obtain⟨D,rfl,hD⟩:=r1;obtain rfl:=(show _=Ao D from q)
       have hk:=(T c y b1 C D e1 hc hD).2;unfold kitAny;rw[hk]
       cases b1 with
       | true=>cases e;rfl
       | false=>exact zdt T hc e R r
     . cases e
theorem zd3{t:Str->Str->Option Bool}(T:IsOk X.K t):zbg X (.builtin "isinstance") (isE t):=by
 rintro pins s σ H xs us Q I r ⟨ds,st,io,d,st',R,S,e,k⟩;unfold isE at e
 split at e
 . rename_i c f y;obtain⟨b,e1,e⟩:=zae e;cases e;obtain⟨v1,v2,rfl,r1,r2⟩:=R.two;obtain⟨u1,u2,rfl,q1,q2⟩:=r.two;obtain⟨a,C,ox,od,rfl,hC,J⟩:=zcn I r1.2;obtain⟨D,rfl,hD⟩:=r2;obtain rfl:=(show u1=Ao a from q1)
   obtain rfl:=(show u2=Ao D from q2)
   obtain⟨Z,hk⟩:=T c y b C D e1 hC hD;exact kia_one (zbj Z) I.kIn ⟨ox,od,J⟩ hk (by intro z;cases z) fun tk=>⟨.bl b,H,I.tok tk,rfl,k.now S rfl⟩
 . rename_i c f y ys;obtain⟨b,e1,e⟩:=zae e;cases e;obtain⟨v1,v2,rfl,r1,r2⟩:=R.two;obtain⟨u1,u2,rfl,q1,q2⟩:=r.two;obtain⟨a,C,ox,od,rfl,hC,J⟩:=zcn I r1.2;obtain⟨p,zs,rfl,hp,r3⟩:=r2;obtain rfl:=(show u1=Ao a from q1)
   obtain rfl:=(show u2=Ao p from q2)
   obtain⟨its,vs,⟨o,g,hc,n,hd⟩,_⟩:=I.tuple (SqT.of hp);obtain⟨oc,od2,da,sl⟩:=o;dsimp only at hc hd;subst hc hd;have Z:ExK X.K C:=by
     obtain⟨b1,h1,_⟩:=zab (show (t c y).bind _=_ from e1);obtain⟨z,zs',rfl,hz,_⟩:=r3;obtain⟨D,_,hD⟩:=hz;exact (T c y b1 C D h1 hC hD).1
   exact kia_tup (zbj Z) I.kIn ⟨ox,od,J⟩ g (zdt T hC e1 r3 vs) (by intro z;cases z) fun tk=>⟨.bl b,H,I.tok tk,rfl,k.now S rfl⟩
 . cases e
end
section
variable {X:Cx} {C f:Addr} {fld y:Str} {fd:FuncData} {ps:List Str} {k:Nat} {m:ME} {e:Expr} {p pos:Pos}
theorem zej(hM:∀ h:Heap,X.K.In h->MadeAt h C f)(hkp:keepIn X.K (.ref C)=true)(F:FnOk X.prog X.w X.K X.mg X.base CX0 k f fd ps (zed C fld))(hr:Room (k+1) X.A)(hg:Gl X y)(hm:X.mg y=some (.ref C))(hn:FnA X.K y C)(hb:Binds X.K fd ps [])(ha:SA X [e] (zah m mNil))
   (hdb:(y==("__debug__":Str))=false:=by decide) (hst:starEach [e] X.env=(false,eval e X.env)::starEach [] X.env:=by rfl) (hpl:(backTo pos (starEach [] X.env)).any (·.1)=false:=by rfl):SE X (.Call (.Name y p) [e] [] pos) (mErr y fld m):=by
 rintro pins s σ H Q I ⟨ρ,st,io,d,st',En,S,e0,kk⟩;obtain⟨⟨d1,s1⟩,e1,e0⟩:=zab e0
 cases d1 with
 | int n =>
   cases e0;have e2:zah m mNil ρ st=some ([.int n],st'):=by
     show (m ρ st).bind _=_;rw[e1];rfl
   refine thn (zfz hM hkp F hr hg hm hb ha hdb hst hpl pins s σ H (fun v H2=>∃ x dx H1 ka,v=.ref x/\dx≠x/\H1 x=none/\H1 dx=none/\Ext io ka H H1/\StR X.K H1 (io++ka) st'/\H2=upd (upd (upd H1 x (.ext (newE C x))) dx (.xd [(fld,.int n)])) x (.ext (hasE C x dx))) I ⟨ρ,st,io,_,st',En,S,e2,fun vs H1 ka X1 S1 R1=>?_⟩) ?_
   . obtain⟨v,vs',rfl,hv,h2⟩:=R1
     cases (show vs'=[] from h2)
     cases (show v=.int n from hv)
     refine⟨by simp,fun x hx hle=>⟨x,.int n,rfl,zai,fun dx h1 h2=>⟨rfl,x,dx,H1,ka,rfl,h2,hx,?_,X1,S1,rfl⟩⟩⟩;rw[zaf h2] at h1;exact h1
   . rintro u s2 ⟨v,H2,I2,rv,x,dx,H1,ka,rfl,nd,hx,hdx,X1,S1,e3⟩;have hx2:H2 x=some (.ext (hasE C x dx)):=by rw[e3,zai]
     have hd2:H2 dx=some (.xd [(fld,.int n)]):=by rw[e3,zaf nd,zai]
     obtain⟨⟨t,ox⟩,_,_⟩:=I2.hok x _ hx2;obtain⟨mA,ns,_⟩:=I2.hok dx _ hd2;obtain⟨od,god,_⟩:=zbu ns;have I3:=Inv.er I2 hx2 ox rfl rfl rfl;have I4:=Inv.freeze I3 (d:=dx) (o:=od) (by rw[zaf nd];exact hd2) god (by simp) (by simp) (by simp) (by simp);obtain⟨X2,S2⟩:=zb0 (p:=x) (o:=.frz { cls:=.ref C,dict:=some dx,data:=.fields #[.ref t,.none,.none,.none,.bool false,.none] } (.ext (ErZ C x (some dx)))) S1 hx;obtain⟨X3,S3⟩:=zb0 (p:=dx) (o:=.frz od (.xd [(fld,.int n)])) S2 (by rw[zaf nd];exact hdx);have X4:=(X1.trans S1 X2).trans (by rw[<-Ag];exact S2) (by rw[<-Ag];exact X3);have e4:upd (upd H2 x (.frz { cls:=.ref C,dict:=some dx,data:=.fields #[.ref t,.none,.none,.none,.bool false,.none] } (.ext (ErZ C x (some dx))))) dx (.frz od (.xd [(fld,.int n)]))=upd (upd H1 x (.frz { cls:=.ref C,dict:=some dx,data:=.fields #[.ref t,.none,.none,.none,.bool false,.none] } (.ext (ErZ C x (some dx))))) dx (.frz od (.xd [(fld,.int n)])):=by
       rw[e3]
       funext b
       unfold upd
       by_cases h1:b=x
       . simp[h1]
       . by_cases h2:b=dx
         . simp[h2]
         . simp[h1,h2]
     rw[e4] at I4;refine⟨.ref x,_,I4,rv,kk _ _ _ X4 ?_ ⟨rfl,x,C,{ cls:=.ref C,dict:=some dx,data:=.fields #[.ref t,.none,.none,.none,.bool false,.none] },dx,od,rfl,hn,?_,zai⟩⟩
     . rw[<-Ag,<-Ag];exact S3
     . rw[zaf (BD nd),zai]
 | _=>cases e0
theorem zek(hM:∀ h:Heap,X.K.In h->PlainAt h C)(hkp:keepIn X.K (.ref C)=true)(hg:Gl X y)(hm:X.mg y=some (.ref C))(hn:FnA X.K y C)(hdb:(y==("__debug__":Str))=false:=by decide):SE X (.Call (.Name y p) [] [] pos) (mCon (.er true y none)):=by
 rintro pins s σ H Q I ⟨ρ,st,io,d,st',En,S,e0,kk⟩;cases e0;obtain⟨nm,ql,N,bs,bm,bmB,bmN,b1,sn,sub,b2,b3,dd,k0,k1,k2,k3,k5,newId,B,Bn,nid,initId,inN,mN,X1,X2,X3,T,at_,ns,no⟩:=(hM _ I.kIn).ex;refine A1 (zbv I hg hm ?_ hdb);refine callWith_K0 I.kIn hkp ?_;obtain⟨hp,gs,dr,tk,os⟩:=s;refine call_plain X1 X2 X3 T at_ ns no fun h' x hle kp ⟨t,ht⟩=>?_;have hx:H x=none:=I.hok.fresh hle;have I2:Inv X pins σ (upd H x (.ext (ErZ C x none))) ⟨h',gs,dr,tk,os⟩:=I.laid (t':=tk) kp hle ⟨⟨_,_,ht,rfl,rfl,rfl⟩,⟨_,ht⟩,fun h1 h2 ⟨o',fs',g',r⟩ kk=>⟨o',fs',kk _ g',r⟩⟩;have I3:=Inv.er I2 zai ht rfl rfl rfl;rw[zdl] at I3;obtain⟨X2,S2⟩:=zb0 (p:=x) (o:=.frz (errO C t) (.ext (ErZ C x none))) S hx;exact⟨.ref x,_,I3,rfl,kk _ _ _ X2 S2 ⟨rfl,x,C,_,rfl,hn,zai⟩⟩
theorem zfn{ok:Str->Bool}(A:AtOk X.K fld ok)(he:SE X e m)(hb:attributeBase e fld X.env (eval e X.env)=eval e X.env:=by rfl):SE X (.Attribute e fld pos) (mAtE ok fld m):=by
 rintro pins s σ H Q I ⟨ρ,st,io,d,st',En,S,e0,kk⟩;obtain⟨⟨d0,s1⟩,e1,e5⟩:=zab e0;clear e0;dsimp only at e5
 split at e5
 . rename_i c g n
   split at e5
   . rename_i q;obtain⟨rfl,q⟩:=q;cases e5;refine ze3 hb (thn (he pins s σ H (fun v H1=>∃ ka,Ext io ka H H1/\StR X.K H1 (io++ka) st'/\Rep X.K H1 (io++ka) v (.er true c (some (g,n)))) I ⟨ρ,st,io,_,st',En,S,e1,fun v H1 ka X1 S1 R1=>⟨ka,X1,S1,R1⟩⟩) ?_);rintro u s2 ⟨v,H1,I1,rv,ka,X1,S1,_,a,C,o,dx,o',rfl,hC,hx,hd⟩;obtain rfl:=(show u=Ao a from rv)
     obtain⟨Z,h1,h2⟩:=A c C q hC;obtain⟨g0,⟨o1,fs,g1,c1,d1,e1⟩,_⟩:=I1.hok _ _ hx;obtain⟨g2,mA,ns,rl⟩:=I1.hok _ _ hd;obtain⟨od,god,lk⟩:=zbu ns;have J:InstAt s2.heap a o1 C (some od):=⟨g1,c1,by unfold notCls;rw[e1],by rw[d1];exact god⟩
     obtain⟨w,hw,rw'⟩:=RelO.some_of (v:=.int n) (o:=mA g) (by have:=rl g;simpa[Cn] using this);obtain⟨t,rfl⟩:=(show ∃ t,w=CF n t from rw')
     obtain⟨cd,hc,hdd⟩:=any_some h2;have hf:findObj X.K C (some od) g=some (.value (.int n t)):=by
       unfold findObj;rw[hc,Au,h1];simp only[Au,PySem.W.ownOf];rw[if_pos hdd,lk,hw];rfl
     exact zdT Z I1.kIn J hf rfl ⟨.int n,H1,I1.tok _,⟨t,rfl⟩,kk _ _ _ X1 S1 rfl⟩
   . cases e5
 . cases e5
noncomputable def rIsT(K:Frag)(T:String)(t:Str->Option Bool):List V->Hp->VK->Prop:=fun xs H Q=>∃ x c f b,xs=[x,.ty T]/\ErR K H x c f/\t c=some b/\Q (.bl b) H
theorem zd2{T:String}{t:Str->Option Bool}(O:zf5 X.K T t):zdk X (.builtin "isinstance") (rIsT X.K T t):=by
 rintro pins s σ H xs us Q I r ⟨x,c,f,b,rfl,R,e,q⟩;obtain⟨u,w,rfl,ru,rw'⟩:=r.two;cases rw';obtain⟨a,C,ox,od,rfl,hC,J⟩:=zcn I R;obtain rfl:=(show u=Ao a from ru)
 obtain⟨Z,hk⟩:=O c b C e hC;exact kia_one (zbj Z) I.kIn ⟨ox,od,J⟩ hk (by intro z;cases z) fun tk=>⟨.bl b,H,I.tok tk,rfl,q⟩
theorem zfl{T:String}{t:Str->Option Bool}{p2:Pos}(O:zf5 X.K T t)(hg:Gl X "isinstance")(hm:X.mg "isinstance"=none)(ha:SE X e m)(hgy:Gl X y)(hmy:X.mg y=none)(hvy:bootBuiltins y=some (.type T))(hny:y≠"__name__":=by decide)(hdy:(y==("__debug__":Str))=false:=by decide)
   (hs:starEach [e,.Name y p2] X.env=(false,eval e X.env)::starEach [.Name y p2] X.env:=by rfl) (hs2:starEach [.Name y p2] X.env=[(false,eval (.Name y p2) X.env)]:=by rfl) (hpl:(backTo pos (starEach [.Name y p2] X.env)).any (·.1)=false:=by rfl) :
   SE X (.Call (.Name "isinstance" p) [e,.Name y p2] [] pos) (mIsT t m) :=
 PE.imp (zb4 (zd2 O) hg hm (by decide +kernel) (zb5 ha (zb5 (zeA (v:=.ty T) hgy hmy hvy rfl hny hdy) zeB hs2) hs) (by decide) (by decide) hs hpl) <| by
   rintro σ H Q ⟨ρ,st,io,d,st',E,S,e0,k⟩;obtain⟨⟨x,s1⟩,e1,e0⟩:=zab e0;dsimp only at e0
   split at e0
   . rename_i c f;obtain⟨b,e2,e0⟩:=zae e0;cases e0;exact⟨ρ,st,io,_,_,E,S,e1,fun v1 H1 k1 X1 S1 R1=>⟨v1,c,f,b,rfl,R1.2,e2,k _ H1 k1 X1 S1 rfl⟩⟩
   . cases e0
end
end L2.MP
namespace L2.MP.Hb
open PySem L2.MP
end L2.MP.Hb
namespace L2.MP
open PySem
end L2.MP
namespace L2.MP.Hb
open PySem L2.MP
theorem ne_int(a b:Int)(st:Sto):neD (.int a) (.int b) st=some (.bl (!(a==b)),st):=by
 unfold neD;rw[toP,toP];simp[C3]
end L2.MP.Hb
namespace L2.MP.Hd
open PySem L2.MP
end L2.MP.Hd
namespace L2.MP
open PySem
@[simp] theorem zgL(n:Nat)(ds:List D):rho n ds=ds.map some++A4 (n - ds.length) none:=rfl
@[simp] theorem zgi(ρ:Rho)(n:Nat)(l:List Nat):rho0 ρ n l=A4 n none++l.map fun (j:Nat)=>(ρ[j]?).join:=rfl
@[simp] theorem zg9{a:Int}{st:Sto}:intC [.int a] st=some (.int a,st):=rfl
@[simp] theorem zg8{b:Bool}{st:Sto}:intC [.bl b] st=some (.int (if b then 1 else 0),st):=rfl
end L2.MP
namespace L2.MP.Hd
open PySem L2.MP
theorem zcP{m:ME}{ρ:Rho}{st s1:Sto}{k:Nat}{M:Int}(hM:M=(k:Int))(e:m ρ st=some (.int M,s1))(hk:k<=1000):mR1 m ρ st=some (⟨run 0 k,[]⟩,s1):=by
 have sm:small M=true:=zcJ (by omega) (by omega);rw[zgQ,e,Au];simp only[sm,if_true];rw[hM,A3]
theorem run_map(k:Nat):run 0 k=(Bm k).map fun (i:Nat)=>D.int (i:Int):=by
 unfold run;apply List.map_congr_left;intro i _;rw[Int.zero_add]
theorem zdz{j k:Nat}{d:D}(h:(run 0 j)[k]?=some d):k < j/\d=.int (k:Int):=by
 have hk:=getElem?_lt h;rw[zbq] at hk;rw[run_map,AA,CA hk] at h;exact⟨hk,by cases h;rfl⟩
end L2.MP.Hd
namespace L2.MP
open PySem
end L2.MP
namespace L2.MP.Ce
open PySem L2.MP
theorem ifB{t:MT}{a:MS}{ρ:Rho}{st s1:Sto}{b:Bool}(h:t ρ st=some (b,s1)):mIf t a zdJ ρ st=if b=true then a ρ s1 else some (.nx ρ,s1):=by
 simp only[zgT,h,Au,ze5]
theorem ifF{t:MT}{a:MS}{ρ:Rho}{st s1:Sto}(h:t ρ st=some (false,s1)):mIf t a zdJ ρ st=some (.nx ρ,s1):=by rw[ifB h,if_neg (by decide)]
theorem tstB{m:ME}{ρ:Rho}{st s1:Sto}{b:Bool}(h:m ρ st=some (.bl b,s1)):mTst m ρ st=some (b,s1):=by simp only[ze4,h,Au]
theorem notB{m:ME}{ρ:Rho}{st s1:Sto}{b:Bool}(h:m ρ st=some (.bl b,s1)):zd6 (mTst m) ρ st=some (!b,s1):=by simp only[ze6,ze4,h,Au,BA]
theorem orR{a b:MT}{ρ:Rho}{st s1:Sto}{r:Option (Bool×Sto)}(h1:a ρ st=some (false,s1))(h2:b ρ s1=r):mOrT a b ρ st=r:=by simp only[zf4,h1,Au,Bk,if_false,h2]
end L2.MP.Ce
namespace L2.MP.Hx
open PySem L2 L2.MP PySem.W PyProof.Rows
noncomputable def frag(h:Heap):Frag:=(Bm h.objs.size).filterMap fun a=>(h.get? a).map fun o=>(a,o)
theorem zck{g:Addr->Option Obj}(a:Addr):∀ l:List Addr,(l.filterMap fun b=>(g b).map fun o=>(b,o)).lookup a=if a∈l then g a else none
 | []=>rfl
 | b::l=>by
   rw[Bd]
   by_cases h:a=b
   . subst h;rw[if_pos Ap]
     cases hg:g a with
     | none =>
       simp only[C4];rw[zck a l,hg]
       split <;> rfl
     | some o=>simp only[BA,Ax,beq_self_eq_true]
   . have e:(a==b)=false:=beq_false_of_ne h;have e2:(if a∈b::l then g a else none)=if a∈l then g a else none:=by simp only[Dc,h,false_or]
     rw[e2,<-zck a l]
     cases hg:g b with
     | none=>simp only[C4]
     | some o=>simp only[BA,Ax,e]
theorem zbz(h:Heap)(a:Addr):(frag h).lookup a=h.get? a:=by
 unfold frag;rw[zck]
 split
 . rfl
 . rename_i hn
   cases hg:h.get? a with
   | none=>rfl
   | some o=>exact absurd (List.mem_range.mpr (Ae hg)) hn
theorem zeU(h:Heap):(frag h).In h:=fun a o e=>(zbz h a).symm.trans e
noncomputable def nsL(g:Addr->Option Obj)(ns:Addr)(x:Str):Option (Option Value):=match g ns with
 | some ⟨_,_,.dict es _,_⟩=>(match es.toList.find? (·.key.isStr x) with
     | some e=>some (some e.val)
     | none=>if es.toList.any (·.refKey) then none else some none)
 | _=>none
noncomputable def zgN(g:Addr->Option Obj)(cd:Value)(q:Str):Bool:=match cd with
 | .ref c=>(match g c with
     | some ⟨_,_,.fields vs,_⟩=>(match vs.toList with | _::.str n _::_=>n==q | _=>false)
     | _=>false)
 | _=>false
noncomputable def fnL(g:Addr->Option Obj)(x:Str):Option (FuncData×Bool):=match nsL g mainGlobals x with
 | some (some (.ref f))=>(match g f with
     | some ⟨_,_,.func fd,_⟩=>some ({ fd with kwdefaults:=.none,doc:=.none,pyModule:=.none,annotations:=none,code:=.none,closureTuple:=.none },zgN g fd.code x)
     | _=>none)
 | _=>none
noncomputable def fnD(x:Str)(st:Stmt):Option (FuncData×Bool):=some (fnOf x x (zax st) (zap st) (zad st) .none .none .none .none none .none .none,true)
noncomputable def coL(v:Option (Option Value)):Option (Str ⊕ Int):=match v with
 | some (some (.str s _))=>some (.inl s)
 | some (some (.int i _))=>some (.inr i)
 | _=>none
noncomputable def CoIn(K:Frag)(x:Str):Str ⊕ Int->Prop
 | .inl s=>∃ t,nsIn K mainGlobals x=some (some (.str s t))
 | .inr i=>∃ t,nsIn K mainGlobals x=some (some (.int i t))
theorem zdp{K:Frag}{f:Addr}{oc:Value}{od:Option Addr}{fd:FuncData}{sl:Array (Option Value)}(h:K.lookup f=some ⟨oc,od,.func fd,sl⟩):keepIn K (.ref f)=true:=by
 unfold keepIn;dsimp only;rw[h]
theorem zgJ{K:Frag}{x:Str}{st:Stmt}(e:fnL (K.lookup ·) x=fnD x st):∃ f,FdIn K x st f:=by
 unfold fnL fnD at e
 cases hn:nsL (K.lookup ·) mainGlobals x with
 | none=>rw[hn] at e;cases e
 | some v =>
   cases v with
   | none=>rw[hn] at e;cases e
   | some v =>
     cases v with
     | ref f =>
       rw[hn] at e;dsimp only at e
       cases hg:K.lookup f with
       | none=>rw[hg] at e;cases e
       | some o =>
         rw[hg] at e;obtain⟨oc,od,da,sl⟩:=o
         cases da with
         | func fd =>
           dsimp only at e;obtain⟨a1,a2⟩:=AB (Ai e);obtain⟨n,q,p,b,sc,gl,cl,df,kd,dc,pm,an,cd,ct,bu⟩:=fd;cases a1;exact⟨f,zgK hn hg a2 (zdp hg)⟩
         | _=>cases e
     | _=>rw[hn] at e;cases e
theorem zgO{K:Frag}{x:Str}{c:Str ⊕ Int}(e:coL (nsL (K.lookup ·) mainGlobals x)=some c):CoIn K x c:=by
 unfold coL at e
 cases hn:nsL (K.lookup ·) mainGlobals x with
 | none=>rw[hn] at e;cases e
 | some v =>
   cases v with
   | none=>rw[hn] at e;cases e
   | some v =>
     rw[hn] at e
     cases v with
     | str s t=>cases e;exact⟨t,hn⟩
     | int i t=>cases e;exact⟨t,hn⟩
     | _=>cases e
structure Has(K:Frag)(fns:List (Str×Stmt))(bl:List Str)(co:List (Str×(Str ⊕ Int))):Prop where
 fn:∀ p∈fns,∃ f,FdIn K p.1 p.2 f
 bl:∀ x∈bl,nsIn K mainGlobals x=some none
 co:∀ c∈co,CoIn K c.1 c.2
theorem zcE{α β:Type}{f g:α->β}:∀ {l:List α},l.map f=l.map g->∀ a∈l,f a=g a
 | [],_,a,h=>by cases h
 | b::l,e,a,h=>by
   obtain⟨e1,e2⟩:=List.cons.inj e
   rcases List.mem_cons.mp h with rfl | h
   . exact e1
   . exact zcE e2 a h
noncomputable def zf7(g:Addr->Option Obj)(fns:List (Str×Stmt))(bl:List Str)(co:List (Str×(Str ⊕ Int))):List (Option (FuncData×Bool))×List (Option (Option Value))×List (Option (Str ⊕ Int)) :=
 (fns.map fun p=>fnL g p.1,bl.map fun x=>nsL g mainGlobals x,co.map fun c=>coL (nsL g mainGlobals c.1))
noncomputable def dueG(fns:List (Str×Stmt))(bl:List Str)(co:List (Str×(Str ⊕ Int))):List (Option (FuncData×Bool))×List (Option (Option Value))×List (Option (Str ⊕ Int)) :=
 (fns.map fun p=>fnD p.1 p.2,bl.map fun _=>some none,co.map fun c=>some c.2)
theorem zfT{K:Frag}{fns:List (Str×Stmt)}{bl:List Str}{co:List (Str×(Str ⊕ Int))}(e:zf7 (K.lookup ·) fns bl co=dueG fns bl co):Has K fns bl co:=by
 obtain⟨e1,e2⟩:=AB e;obtain⟨e2,e3⟩:=AB e2;exact⟨fun p hp=>zgJ (zcE e1 p hp),fun x hx=>zcE e2 x hx,fun c hc=>zgO (zcE e3 c hc)⟩
end L2.MP.Hx
namespace L2.MP
open PySem L2 PySem.W PyProof.Rows
section
variable {K:Frag} {mg:Str->Option Value} {fns:List (Str×Stmt)} {bl:List Str} {co:List (Str×(Str ⊕ Int))}
structure En(K:Frag)(mg:Str->Option Value)(fns:List (Str×Stmt))(bl:List Str)(co:List (Str×(Str ⊕ Int))):Prop where
 b:∀ x∈bl,mg x=none
 c:∀ c∈co,match c.2 with
   | .inl s=>∃ t,mg c.1=some (.str s t)
   | .inr i=>∃ t,mg c.1=some (.int i t)
 l:∀ p∈fns,∃ f,FdIn K p.1 p.2 f/\mg p.1=some (.ref f)
theorem En.of{h:Heap}(A:Hx.Has K fns bl co)(X:K.In h)(G:h.Ns mainGlobals mg):En K mg fns bl co:=by
 refine⟨fun x hx=>mg_none_of X G (A.bl x hx),fun c hc=>?_,fun p hp=>?_⟩
 . have q:=A.co c hc;obtain⟨x,c⟩:=c
   cases c with
   | inl s=>obtain⟨t,q⟩:=q;exact⟨t,mg_of X G q⟩
   | inr i=>obtain⟨t,q⟩:=q;exact⟨t,mg_of X G q⟩
 . obtain⟨f,q⟩:=A.fn p hp;exact⟨f,q,mg_of X G q.ns⟩
theorem En.b1(Z:En K mg fns bl co){x:Str}(h:x∈bl:=by decide +kernel):mg x=none:=Z.b x h
noncomputable def scB(N ps:List Str)(sc:Scope):Bool:=decide (sc.kind=.function)&&decide (sc.isCoroutine=false)&&decide (sc.isGenerator=false)&&decide N.Nodup&&decide (N.take ps.length=ps)&&ps.all (fun x=>decide (sc.names.lookup x=some .local\/sc.names.lookup x=some .cell))&&sc.names.all fun y=>decide (y.2≠.free)
theorem zd5{N ps:List Str}{sc:Scope}(h:scB N ps sc=true):FnScope N ps sc:=by
 unfold scB at h;simp only[Az,decide_eq_true_eq,CY] at h;obtain⟨⟨⟨⟨⟨⟨a,b⟩,c⟩,d⟩,e⟩,f⟩,g⟩:=h;exact⟨a,b,c,d,e,f,g⟩
noncomputable abbrev Bnd (x:Str) (st:Stmt) (ps:List Str):Prop:=∀ (kV doc pm:Value) (an:Option Addr) (cdv ct:Value) (us:List Value),us.length=ps.length->bindArgs (AS x x (zax st) (zap st) (zad st) .none kV doc pm an cdv ct) ⟨us,[]⟩=pure (ps.zip us)
theorem En.laid{x:Str}{st:Stmt}{ps:List Str}{i:Nat}(Z:En K mg fns bl co)(hi:fns[i]?=some (x,st))(b:Bnd x st ps):Laid K mg x st ps:=by
 obtain⟨f,F,hm⟩:=Z.l _ (AF hi);obtain⟨⟨oc,od,kV,dc,pm,an,cd,ct,sl,l,c⟩,a,k⟩:=F;exact⟨_,_,zc8 l c k,hm,(zc8 l c k).binds b⟩
theorem zeZ{P:Program}{w:World}{base:Heap}{x:Str}{k:Nat}{m:MS}(Z:En K mg fns bl co)(st:Stmt)(i:Nat)(N ps:List Str)
   (hbody:N.Nodup->∀ (f:Addr) (cdv:Value) (A:Around) (outer:List Env) (s:Shared) (H:Hp) (E:XK),Room k (A.deeper (envOfC x (zad st) s.heap.objs.size f cdv)) ->
     SSs (cxOf CX0 P w K mg base N x (zad st) f cdv A outer s H E).nox (zap st) m) (hi:fns[i]?=some (x,st):=by rfl)
   (S:scB N ps (zad st)=true:=by decide +kernel) (b:Bnd x st ps:=by intro _ _ _ _ _ _;first | exact len1 fun _=>rfl | exact len2 fun _ _=>rfl | exact len3 fun _ _ _=>rfl | exact len4 fun _ _ _ _=>rfl | exact len5 fun _ _ _ _ _=>rfl):ze9 P w K mg base (k+1) x ps.length (fnM N.length m) :=
 zf0 (Z.laid hi b) (zd5 S) (hbody (zd5 S).nd)
theorem zgI{P:Program}{w:World}{base:Heap}{x qual:Str}{st:Stmt}{f:Addr}{fd:FuncData}{k:Nat}{m:MS}(F:Fun K x qual st f fd)(N ps:List Str)
   (hbody:N.Nodup->∀ (cdv:Value) (A:Around) (outer:List Env) (s:Shared) (H:Hp) (E:XK),Room k (A.deeper (envOfC qual (zad st) s.heap.objs.size f cdv)) ->
     SSs (cxOf CX0 P w K mg base N qual (zad st) f cdv A outer s H E).nox (zap st) m) (S:scB N ps (zad st)=true:=by decide +kernel):FnOk P w K mg base CX0 (k+1) f fd ps (spM K ps.length (fnM N.length m)):=fn_m F (zd5 S) (hbody (zd5 S).nd)
end
section
variable {X:Cx} {e:Expr} {es:List Expr} {m:ME} {mm:MA} {pos pos' p p2:Pos} {x y:Str}
theorem sgn(i:Nat)(hN:X.N.Nodup)(hi:X.N[i]?=some x:=by rfl)(hx:Loc X.env.scope x:=by first | exact Co rfl | exact BI rfl)(hf:X.fn x=true\/X.env.scope.names.lookup x=some .local:=by first | exact .inl rfl | exact .inr rfl | assumption):SG X (.Name x pos) (gNm i):=zeg hN hi hx hf
theorem sst(i:Nat)(hN:X.N.Nodup)(he:SE X e m)(hi:X.N[i]?=some x:=by rfl)(hx:Loc X.env.scope x:=by first | exact Co rfl | exact BI rfl)(hs:swapsWith e (some (.Name x pos')) pos.line X.env=pure false:=by rfl)(hf:X.fn x=true\/X.env.scope.names.lookup x=some .local:=by first | exact .inl rfl | exact .inr rfl | assumption):SS X (.Assign [.Name x pos'] e pos) (mAsg m (gNm i)):=zfh hN hi hx he hs hf
theorem zf8{j k n:Nat}{g:GN}(F:ze9 X.prog X.w X.K X.mg X.base k x n g)(hr:Room j X.A)(ha:SA X (e::es) mm)(hj:k<=j:=by decide)(hg:Gl X x:=by rfl)(hl:zcY n mm:=by repeat (first | exact zcY.nil | refine zcY.cons ?_))(hdb:(x==("__debug__":Str))=false:=by decide)
   (he:starEach (e::es) X.env=(false,eval e X.env)::starEach es X.env:=by rfl) (hpl:(backTo pos (starEach es X.env)).any (·.1)=false:=by rfl) (hn:(e::es).length=n:=by rfl):SE X (.Call (.Name x p) (e::es) [] pos) (zau g mm):=zdy F (hr.mono hj) hg ha hl hdb he hpl hn
variable {fns:List (Str×Stmt)} {bl:List Str} {co:List (Str×(Str ⊕ Int))}
theorem cBE{id:String}{g:GN}(Z:En X.K X.mg fns bl co)(hc:zbg X (.builtin id) g)(hv:bootBuiltins x=some (.builtin id))(ha:SA X (e::es) mm)(hg:Gl X x:=by rfl)(hm:x∈bl:=by decide +kernel)(hn:x≠"__name__":=by decide)(hdb:(x==("__debug__":Str))=false:=by decide)
   (he:starEach (e::es) X.env=(false,eval e X.env)::starEach es X.env:=by rfl) (hpl:(backTo pos (starEach es X.env)).any (·.1)=false:=by rfl):SE X (.Call (.Name x p) (e::es) [] pos) (zau g mm):=zb2 hc hg (Z.b _ hm) hv ha hn hdb he hpl
theorem cTE{T:String}{g:GN}(Z:En X.K X.mg fns bl co)(hc:zbg X (.type T) g)(hv:bootBuiltins x=some (.type T))(ha:SA X (e::es) mm)(hg:Gl X x:=by rfl)(hm:x∈bl:=by decide +kernel)(hn:x≠"__name__":=by decide)(hdb:(x==("__debug__":Str))=false:=by decide)
   (he:starEach (e::es) X.env=(false,eval e X.env)::starEach es X.env:=by rfl) (hpl:(backTo pos (starEach es X.env)).any (·.1)=false:=by rfl):SE X (.Call (.Name x p) (e::es) [] pos) (zau g mm):=zcM hc hg (Z.b _ hm) hv ha hn hdb he hpl
end
end L2.MP
namespace L2.MP.Hx
open PySem L2 L2.MP PySem.W PyProof.Rows
noncomputable def inClass(s:Stmt)(i:Nat):Stmt:=match s with
 | .ClassDef _ _ _ b _ _ _ _ _ _ _=>b.getD i (.Pass ⟨0,0,0,0⟩)
 | _=>.Pass ⟨0,0,0,0⟩
noncomputable def zcB:List Value:=[.type "ValueError",.type "Exception",.type "BaseException",.type "object"]
noncomputable def nnV:List Str:=["__init__","__setattr__","number","line"]
noncomputable def clsE(K:Frag)(C:Addr):Option (ClassData×Addr×Array DictEntry):=match K.lookup C with
 | some ⟨.type t,_,.cls cd,⟨[_,_,_,_,some (.builtin n),_]⟩⟩=>if t="type"/\n="ValueError.__new__"/\cd.hasDel=false/\cd.hasDict=true then (match K.lookup cd.ns with
     | some ⟨_,_,.dict es _,_⟩=>if es.toList.all (fun e=>match e.key with | .str _ _=>true | _=>false)=true then some (cd,C,es) else none
     | _=>none) else none
 | _=>none
structure ClE(K:Frag)(C:Addr)(cd:ClassData)(es:Array DictEntry):Prop where
 at_:∀ bm,cd.mro=.ref C::bm->∃ nm ql bs sn sub b2 b3 dd k0 k1 k2 k3 k5,K.lookup C=some (excClassObj nm ql C cd.ns bs bm true sn sub b2 b3 dd k0 k1 k2 k3 k5 "ValueError.__new__")
 ns:∀ h:Heap,K.In h->h.Ns cd.ns (nsFind es)
theorem ze0{K:Frag}{C:Addr}{cd:ClassData}{es:Array DictEntry}{a:Addr}(h:clsE K C=some (cd,a,es)):ClE K C cd es:=by
 unfold clsE at h
 split at h
 . rename_i t dd cd' k0 k1 k2 k3 n k5 hl
   split at h
   . rename_i q;obtain⟨rfl,rfl,q3,q4⟩:=q
     split at h
     . rename_i c2 d2 es2 ep2 sl2 hn
       split at h
       . rename_i ha;cases h;refine⟨fun bm e=>?_,fun h X=>⟨_,_,_,X _ _ hn,rfl,fun e he=>?_,fun _=>rfl⟩⟩
         . obtain⟨nm,bs,mro,ns,ql,hd,sn,sub,ab,col,del⟩:=cd;dsimp only at e q3 q4;subst e q3 q4;exact⟨nm,ql,bs,sn,sub,ab,col,dd,k0,k1,k2,k3,k5,hl⟩
         . have:=List.all_eq_true.mp ha e (Array.mem_toList_iff.mpr he)
           split at this
           . rename_i x t' hk;exact⟨x,t',hk⟩
           . cases this
       . cases h
     . cases h
   . cases h
 . cases h
noncomputable def exkB(K:Frag)(C:Addr):Bool:=findIn K (.ref C) "__getattribute__"==some (some (.builtin "BaseException.__getattribute__"))&&findIn K (.ref C) "__getattr__"==some none&&findIn K (.ref C) "__class__"==some (some (.builtin "object.__class__"))
&&mroIn K C (.type "object")==some true&&mroIn K C (.type "BaseException")==some true&&keepIn K (.ref C)&&kitOne K (.ref C) (.type "ValueError")==some true&&hasDictIn K C
noncomputable def gsB(K:Frag):Bool:=specialIn K (.builtin "object.__class__") "__get__"==some (some (.builtin "getset_descriptor.__get__"))&&takesIn K (.builtin "object.__class__")==some true
theorem zfV{K:Frag}{C:Addr}(a:exkB K C=true)(b:gsB K=true):ExK K C/\keepIn K (.ref C)=true/\kitOne K (.ref C) (.type "ValueError")=some true/\hasDictIn K C=true:=by
 unfold exkB at a;unfold gsB at b;simp only[Az,beq_iff_eq] at a b;obtain⟨⟨⟨⟨⟨⟨⟨a1,a2⟩,a3⟩,a4⟩,a5⟩,a6⟩,a7⟩,a8⟩:=a;exact⟨⟨a1,a2,a3,b.1,b.2,a4,a5⟩,a6,a7,a8⟩
structure ED where
 c:Str
 f:Option (Str×Stmt)
noncomputable def zfR(K:Frag)(qual:Str)(v:Option Value):Option (FuncData×Bool):=match v with
 | some (.ref f)=>(match K.lookup f with
     | some ⟨.type t,_,.func fd,_⟩=>if t="function" then some ({ fd with kwdefaults:=.none,doc:=.none,pyModule:=.none,annotations:=none,code:=.none,closureTuple:=.none },codeIn K fd.code qual) else none
     | _=>none)
 | _=>none
noncomputable def zfS(qual:Str)(st:Stmt):Option (FuncData×Bool):=some (fnOf "__init__" qual (zax st) (zap st) (zad st) .none .none .none .none none .none .none,true)
noncomputable def zbf(K:Frag)(c:Str):Option Addr:=match nsIn K mainGlobals c with
 | some (some (.ref C))=>some C
 | _=>none
theorem zaS{K:Frag}{c:Str}{C:Addr}(h:zbf K c=some C):FnA K c C:=by
 unfold zbf at h
 split at h
 . rename_i D e;cases h;exact e
 . cases h
theorem zbc{K:Frag}{c:Str}{C D:Addr}(h:zbf K c=some C)(g:FnA K c D):D=C:=by
 have:=zaS h;unfold FnA at this g;rw[g] at this;cases this;rfl
noncomputable abbrev OneT:=Bool×Option (FuncData×Bool)
noncomputable def oneL(K:Frag)(T:Addr)(d:ED):OneT:=match zbf K d.c with
 | some C=>(match clsE K C with
     | some (cd,_,es)=>(exkB K C&&(cd.mro==.ref C::(if d.c="TileError" then zcB else .ref T::zcB))&&(if d.f.isSome then nnV.tail else nnV).all (fun n=>(nsFind es n).isNone)&&(match d.f with
           | some (f,_)=>findIn K (.ref C) f==some none&&fastLookup "ValueError" f==some none
           | none=>true),match d.f with
           | some _=>zfR K (d.c++".__init__") (nsFind es "__init__")
           | none=>none)
     | none=>(false,none))
 | none=>(false,none)
noncomputable def oneD(d:ED):OneT:=(true,match d.f with
 | some (_,st)=>zfS (d.c++".__init__") st
 | none=>none)
noncomputable def subS(c y:Str):Bool:=decide (c=y) || decide (y="TileError")
noncomputable def zga(K:Frag)(c y:Str):Bool:=match zbf K c,zbf K y with
 | some C,some D=>kitOne K (.ref C) (.ref D)==some (subS c y)
 | _,_=>false
noncomputable def errL(K:Frag)(ds:List ED):Bool×List OneT:=match zbf K "TileError" with
 | some T=>(gsB K&&(ds.all fun d=>ds.all fun e=>zga K d.c e.c),ds.map fun d=>oneL K T d)
 | none=>(false,[])
noncomputable def errD(ds:List ED):Bool×List OneT:=(true,ds.map oneD)
structure EOk(K:Frag)(T:Addr)(d:ED)(C:Addr)(bm:List Value)(cd:ClassData)(es:Array DictEntry):Prop where
 a:zbf K d.c=some C
 k:ExK K C
 kp:keepIn K (.ref C)=true
 v:kitOne K (.ref C) (.type "ValueError")=some true
 hd:hasDictIn K C=true
 cl:ClE K C cd es
 m:cd.mro=.ref C::bm
 b:bm=if d.c="TileError" then zcB else .ref T::zcB
 no:∀ n∈(if d.f.isSome then nnV.tail else nnV),nsFind es n=none
 ini:∀ f st,d.f=some (f,st)->findIn K (.ref C) f=some none/\fastLookup "ValueError" f=some none/\zfR K (d.c++".__init__") (nsFind es "__init__")=zfS (d.c++".__init__") st
theorem zfE{K:Frag}{T:Addr}{d:ED}(g:gsB K=true)(h:oneL K T d=oneD d):∃ C bm cd es,EOk K T d C bm cd es:=by
 unfold oneL oneD at h
 cases ha:zbf K d.c with
 | none=>rw[ha] at h;cases (AB h).1
 | some C =>
   rw[ha] at h;dsimp only at h
   cases hc:clsE K C with
   | none=>rw[hc] at h;cases (AB h).1
   | some p =>
     obtain⟨cd,a0,es⟩:=p;rw[hc] at h;dsimp only at h;obtain⟨h1,h2⟩:=AB h;simp only[Az,beq_iff_eq,CY,Option.isNone_iff_eq_none] at h1;obtain⟨⟨⟨b1,b2⟩,b3⟩,b4⟩:=h1;obtain⟨e1,e2,e3,e4⟩:=zfV b1 g;refine⟨C,_,cd,es,ha,e1,e2,e3,e4,ze0 hc,b2,rfl,b3,fun f st e=>?_⟩;rw[e] at h2 b4;dsimp only at h2 b4;simp only[Az,beq_iff_eq] at b4;exact⟨b4.1,b4.2,h2⟩
structure HasE(K:Frag)(ds:List ED):Prop where
 ex:∃ T,zbf K "TileError"=some T/\∀ d∈ds,∃ C bm cd es,EOk K T d C bm cd es
 pr:∀ d∈ds,∀ e∈ds,∀ C D,FnA K d.c C->FnA K e.c D->kitOne K (.ref C) (.ref D)=some (subS d.c e.c)
theorem zeS{K:Frag}{ds:List ED}(h:errL K ds=errD ds):HasE K ds:=by
 unfold errL errD at h
 cases hT:zbf K "TileError" with
 | none=>rw[hT] at h;cases (AB h).1
 | some T =>
   rw[hT] at h;dsimp only at h;obtain⟨h1,h2⟩:=AB h;rw[Az] at h1;obtain⟨g,h1⟩:=h1;refine⟨⟨T,hT,fun d hd=>zfE g (zcE h2 d hd)⟩,fun d hd e he C D hC hD=>?_⟩;have:=List.all_eq_true.mp (List.all_eq_true.mp h1 d hd) e he;unfold zga at this
   split at this
   . rename_i C' D' a1 a2
     cases zbc a1 hC
     cases zbc a2 hD
     exact beq_iff_eq.mp this
   . cases this
theorem zfc{K:Frag}{T C D:Addr}{d:ED}{bm b2:List Value}{cd cd2:ClassData}{es es2:Array DictEntry}{h:Heap}(X:K.In h)(U:EOk K T ⟨"TileError",none⟩ D b2 cd2 es2)(hT:zbf K "TileError"=some T)(E:EOk K T d C bm cd es):OT h nnV zcB bm:=by
 rw[E.b]
 split
 . exact .base
 . have e:D=T:=Ai (U.a.symm.trans hT);subst e;obtain⟨nm,ql,bs,sn,sub,b2',b3,dd,k0,k1,k2,k3,k5,at_⟩:=U.cl.at_ b2 U.m;exact .own (X _ _ at_) (U.cl.ns h X) (fun n hn=>U.no n hn) .base
theorem zcr:zcB.contains (.type "ValueError")=true:=by decide +kernel
theorem zdF{K:Frag}{T C D:Addr}{d:ED}{bm b2:List Value}{cd cd2:ClassData}{es es2:Array DictEntry}{h:Heap}(X:K.In h)(U:EOk K T ⟨"TileError",none⟩ D b2 cd2 es2)(hT:zbf K "TileError"=some T)(E:EOk K T d C bm cd es)(hf:d.f=none):PlainAt h C:=by
 obtain⟨nm,ql,bs,sn,sub,b2',b3,dd,k0,k1,k2,k3,k5,at_⟩:=E.cl.at_ bm E.m;exact⟨nm,ql,cd.ns,bs,bm,zcB,zcB,true,sn,sub,b2',b3,dd,k0,k1,k2,k3,k5,"ValueError.__new__","ValueError","ValueError","ValueError.__new__","ValueError.__init__","ValueError.__init__",nsFind es,F.excBase_ValueError,zcr,F.excBase_ValueError,(zfc X U hT E).tail (by decide),X _ _ at_,E.cl.ns h X,E.no _ (by rw[hf];exact Ap)⟩
theorem zdC{K:Frag}{T C D:Addr}{d:ED}{bm b2:List Value}{cd cd2:ClassData}{es es2:Array DictEntry}{h:Heap}(X:K.In h)(U:EOk K T ⟨"TileError",none⟩ D b2 cd2 es2)(hT:zbf K "TileError"=some T)(E:EOk K T d C bm cd es):RaiseAt h C:=by
 obtain⟨nm,ql,bs,sn,sub,b2',b3,dd,k0,k1,k2,k3,k5,at_⟩:=E.cl.at_ bm E.m;exact⟨nm,ql,cd.ns,bs,bm,true,sn,sub,b2',b3,dd,k0,k1,k2,k3,k5,"ValueError.__new__",X _ _ at_,(zfc X U hT E).has (by decide +kernel)⟩
theorem zfW{K:Frag}{T C D:Addr}{d:ED}{bm b2:List Value}{cd cd2:ClassData}{es es2:Array DictEntry}{h:Heap}(X:K.In h)(U:EOk K T ⟨"TileError",none⟩ D b2 cd2 es2)(hT:zbf K "TileError"=some T)(E:EOk K T d C bm cd es){f:Str}{st:Stmt}(hf:d.f=some (f,st))(hn:f∈nnV.tail):ErrAt h C f:=by
 obtain⟨nm,ql,bs,sn,sub,b2',b3,dd,k0,k1,k2,k3,k5,at_⟩:=E.cl.at_ bm E.m;have no:=E.no;rw[hf] at no;have e2:typeLookup (.type "ValueError") f=pure none:=by rw[typeLookup_type,builtinLookup_eq_fast,(E.ini f st hf).2.1]
 exact⟨nm,ql,cd.ns,bs,bm,zcB,sn,sub,b2',b3,dd,k0,k1,k2,k3,k5,"ValueError.__new__","ValueError","object.__setattr__","object",nsFind es,nnV,X _ _ at_,E.cl.ns h X,no f hn,no _ (show ("__setattr__":Str)∈nnV.tail by decide),zfc X U hT E,List.mem_of_mem_tail hn,by decide,F.store_ValueError,e2⟩
theorem zeR{K:Frag}{T C D:Addr}{d:ED}{bm b2:List Value}{cd cd2:ClassData}{es es2:Array DictEntry}(U:EOk K T ⟨"TileError",none⟩ D b2 cd2 es2)(hT:zbf K "TileError"=some T)(E:EOk K T d C bm cd es){f:Str}{st:Stmt}(hf:d.f=some (f,st)) :
   ∃ fa fd,Fun K "__init__" (d.c++".__init__") st fa fd/\∀ h:Heap,K.In h->MadeAt h C fa:=by
 have e:=(E.ini f st hf).2.2;unfold zfR zfS at e
 split at e
 . rename_i fa hv
   split at e
   . rename_i t od fd sl hl
     split at e
     . rename_i ht;subst ht;obtain⟨a1,a2⟩:=AB (Ai e);obtain⟨n,q,p,b,sc,gl,cl,df,kd,dc,pm,an,cdv,ct,bu⟩:=fd;cases a1;refine⟨fa,_,zc8 hl a2 (zdp hl),fun h X=>?_⟩;obtain⟨nm,ql,bs,sn,sub,b2',b3,dd,k0,k1,k2,k3,k5,at_⟩:=E.cl.at_ bm E.m;exact⟨nm,ql,cd.ns,bs,bm,zcB,zcB,true,sn,sub,b2',b3,dd,k0,k1,k2,k3,k5,"ValueError.__new__","ValueError","ValueError","ValueError.__new__","ValueError.__init__","ValueError.__init__",nsFind es,_,F.excBase_ValueError,zcr,F.excBase_ValueError,(zfc X U hT E).tail (by decide),X _ _ at_,E.cl.ns h X,hv,X _ _ hl,rfl⟩
     . cases e
   . cases e
 . cases e
end L2.MP.Hx
namespace L2.MP
open PySem L2 PySem.W PyProof.Rows Hx
noncomputable def tKls(ns:List Str)(c y:Str):Option Bool:=if c∈ns/\y∈ns then some (subS c y) else none
noncomputable def tKlv(ns:List Str)(c:Str):Option Bool:=if c∈ns then some true else none
structure EE(K:Frag)(mg:Str->Option Value)(ds:List ED):Prop where
 e0:∀ d∈ds,d.f=none->∃ C,FnA K d.c C/\mg d.c=some (.ref C)/\keepIn K (.ref C)=true/\∀ h:Heap,K.In h->PlainAt h C
 e1:∀ d∈ds,∀ f st,d.f=some (f,st)->f∈nnV.tail->∃ C fa fd,FnA K d.c C/\mg d.c=some (.ref C)/\keepIn K (.ref C)=true/\Fun K "__init__" (d.c++".__init__") st fa fd/\(∀ h:Heap,K.In h->MadeAt h C fa)/\(∀ h:Heap,K.In h->ErrAt h C f)/\∀ h:Heap,K.In h->RaiseAt h C
 is:IsOk K (tKls (ds.map (·.c)))
 it:zf5 K "ValueError" (tKlv (ds.map (·.c)))
 at_:∀ d∈ds,∀ f st,d.f=some (f,st)->AtOk K f fun c=>decide (c=d.c)
 fn:∀ d∈ds,∃ C,FnA K d.c C/\mg d.c=some (.ref C)
theorem EE.of{K:Frag}{mg:Str->Option Value}{ds:List ED}{h:Heap}(A:HasE K ds)(hT:⟨"TileError",none⟩∈ds)(X:K.In h)(G:h.Ns mainGlobals mg):EE K mg ds:=by
 obtain⟨T,aT,all⟩:=A.ex;obtain⟨D,b2,cd2,es2,U⟩:=all _ hT;refine⟨fun d hd hf=>?_,fun d hd f st hf hn=>?_,fun c y b C D e hC hD=>?_,fun c b C e hC=>?_,fun d hd f st hf c C hc hC=>?_,fun d hd=>?_⟩
 . obtain⟨C,bm,cd,es,E⟩:=all d hd;exact⟨C,zaS E.a,mg_of X G (zaS E.a),E.kp,fun h' X'=>zdF X' U aT E hf⟩
 . obtain⟨C,bm,cd,es,E⟩:=all d hd;obtain⟨fa,fd,F,M⟩:=zeR U aT E hf;exact⟨C,fa,fd,zaS E.a,mg_of X G (zaS E.a),E.kp,F,M,fun h' X'=>zfW X' U aT E hf hn,fun h' X'=>zdC X' U aT E⟩
 . unfold tKls at e
   split at e
   . rename_i q;cases e;obtain⟨d,hd,rfl⟩:=List.mem_map.mp q.1;obtain⟨d',hd',rfl⟩:=List.mem_map.mp q.2;obtain⟨C',bm,cd,es,E⟩:=all d hd
     cases zbc E.a hC
     exact⟨E.k,A.pr d hd d' hd' _ _ hC hD⟩
   . cases e
 . unfold tKlv at e
   split at e
   . rename_i q;cases e;obtain⟨d,hd,rfl⟩:=List.mem_map.mp q;obtain⟨C',bm,cd,es,E⟩:=all d hd
     cases zbc E.a hC
     exact⟨E.k,E.v⟩
   . cases e
 . have hc':=of_decide_eq_true hc;subst hc';obtain⟨C',bm,cd,es,E⟩:=all d hd
   cases zbc E.a hC
   exact⟨E.k,(E.ini f st hf).1,E.hd⟩
 . obtain⟨C,bm,cd,es,E⟩:=all d hd;exact⟨C,zaS E.a,mg_of X G (zaS E.a)⟩
noncomputable def okE(c:Str):Str->Bool:=fun x=>decide (x=c)
structure InitOk(c f n1:Str)(st:Stmt):Prop where
 S:FnScope ["self",n1] ["self",n1] (zad st)
 hb:∃ p0 p1 pos' pos,zap st=[.Assign [.Attribute (.Name "self" p0) f pos'] (.Name n1 p1) pos]/\∀ env,swapsWith (.Name n1 p1) (some (.Attribute (.Name "self" p0) f pos')) pos.line env=pure false
 v0:(zad st).names.lookup ("self":Str)=some .local
 v1:(zad st).names.lookup n1=some .local
 d1:(n1==("__debug__":Str))=false
 c1:(n1==("__classdict__":Str))=false
 bd:∀ (kV doc pm:Value) (an:Option Addr) (cdv ct:Value) (us:List Value),us.length=2->bindArgs (fnOf "__init__" (c++".__init__") (zax st) (zap st) (zad st) .none kV doc pm an cdv ct) ⟨us,[]⟩=pure ((["self",n1]:List Str).zip us)
section
variable {X:Cx} {ds:List ED} {c f n1:Str} {st:Stmt} {m:ME} {mm:MA} {e:Expr} {es:List Expr} {p p2 pos:Pos} {d:ED}
theorem er0(Y:EE X.K X.mg ds)(i:Nat)(hi:ds[i]?=some ⟨c,none⟩:=by rfl)(hg:Gl X c:=by rfl)(hdb:(c==("__debug__":Str))=false:=by decide):SE X (.Call (.Name c p) [] [] pos) (mCon (.er true c none)):=by
 obtain⟨C,hn,hm,hk,hP⟩:=Y.e0 _ (AF hi) rfl;exact zek hP hk hg hm hn hdb
theorem er1{j:Nat}(Y:EE X.K X.mg ds)(J:InitOk c f n1 st)(i:Nat)(hr:Room j X.A)(ha:SA X [e] (zah m mNil))(hj:2<=j:=by decide)(hi:ds[i]?=some ⟨c,some (f,st)⟩:=by rfl)(hf:f∈nnV.tail:=by decide)(hg:Gl X c:=by rfl)(hdb:(c==("__debug__":Str))=false:=by decide)
   (hst:starEach [e] X.env=(false,eval e X.env)::starEach [] X.env:=by rfl) (hpl:(backTo pos (starEach [] X.env)).any (·.1)=false:=by rfl):SE X (.Call (.Name c p) [e] [] pos) (mErr c f m):=by
 obtain⟨C,fa,fd,hn,hm,hk,F,hM,hE,_⟩:=Y.e1 _ (AF hi) f st rfl hf;obtain⟨p0,p1,pos',pos2,hb,hs⟩:=J.hb;exact zej hM hk (zeQ (k:=0) F J.S hb hE J.v0 J.v1 (by decide) J.d1 (by decide) J.c1 hs) (hr.mono hj) hg hm hn (F.binds J.bd) ha hdb hst hpl
theorem efn(Y:EE X.K X.mg ds)(i:Nat)(hi:ds[i]?.map (·.c)=some c:=by rfl)(hg:Gl X c:=by rfl)(hdb:(c==("__debug__":Str))=false:=by decide):SE X (.Name c p) (mCon (.fn c)):=by
 obtain⟨d,hd,rfl⟩:=Option.map_eq_some_iff.mp hi;obtain⟨C,hn,hm⟩:=Y.fn _ (AF hd);exact zgw hg hm hn hdb
theorem eis{ns:List Str}(Y:EE X.K X.mg ds)(hb:X.mg "isinstance"=none)(ha:SA X (e::es) mm)(hn:ds.map (·.c)=ns:=by rfl)(hg:Gl X "isinstance":=by rfl)(he:starEach (e::es) X.env=(false,eval e X.env)::starEach es X.env:=by rfl)(hpl:(backTo pos (starEach es X.env)).any (·.1)=false:=by rfl) :
   SE X (.Call (.Name "isinstance" p) (e::es) [] pos) (zau (isE (tKls ns)) mm):=by
 subst hn;exact zb2 (zd3 Y.is) hg hb (by decide +kernel) ha (by decide) (by decide) he hpl
theorem eit{ns:List Str}(Y:EE X.K X.mg ds)(hb:X.mg "isinstance"=none)(hv:X.mg "ValueError"=none)(ha:SE X e m)(hn:ds.map (·.c)=ns:=by rfl)(hg:Gl X "isinstance":=by rfl)(hgv:Gl X "ValueError":=by rfl)
   (hs:starEach [e,.Name "ValueError" p2] X.env=(false,eval e X.env)::starEach [.Name "ValueError" p2] X.env:=by rfl) (hs2:starEach [.Name "ValueError" p2] X.env=[(false,eval (.Name "ValueError" p2) X.env)]:=by rfl) (hpl:(backTo pos (starEach [.Name "ValueError" p2] X.env)).any (·.1)=false:=by rfl) :
   SE X (.Call (.Name "isinstance" p) [e,.Name "ValueError" p2] [] pos) (mIsT (tKlv ns) m):=by
 subst hn;exact zfl Y.it hg hb ha hgv hv (by decide +kernel) (by decide) (by decide) hs hs2 hpl
theorem eat(Y:EE X.K X.mg ds)(i:Nat)(he:SE X e m)(hi:ds[i]?=some ⟨c,some (f,st)⟩:=by rfl)(hb:attributeBase e f X.env (eval e X.env)=eval e X.env:=by rfl):SE X (.Attribute e f pos) (mAtE (okE c) f m) :=
 zfn (Y.at_ _ (AF hi) f st rfl) he hb
end
end L2.MP
namespace L2.MP.Hx
open PySem L2 L2.MP PySem.W PyProof.Rows
noncomputable def hookE(fns:List (Str×Stmt))(bl:List Str)(co:List (Str×(Str ⊕ Int)))(ds:List ED):Hook where
 α:=(List (Option (FuncData×Bool))×List (Option (Option Value))×List (Option (Str ⊕ Int)))×Bool×List OneT
 obs s:=(zf7 s.heap.get? fns bl co,errL (frag s.heap) ds)
 val _:=(dueG fns bl co,errD ds)
 says _ h:=∃ K:Frag,K.In h/\Has K fns bl co/\HasE K ds
 of w s e:=by
   obtain⟨e1,e2⟩:=AB e;exact⟨frag s.heap,zeU _,zfT (by rw[funext (zbz s.heap)];exact e1),zeS e2⟩
 keeps w h h':=fun⟨K,a,b⟩ k=>⟨K,a.keeps k,b⟩
theorem walk_hasE{l:OpenLaw}{n k:Nat}{q:Program}{loose:List Str}{XP:(Str->Option Value)->Heap->Prop}{fns:List (Str×Stmt)}{bl:List Str}{co:List (Str×(Str ⊕ Int))}{ds:List ED}{d:DefRec}{CX:CXT}{sp:Frag->Sp}{x:Str}
   (hn:l.most=some n) (hn2:n<=sizeLine) (hdf:d.params.defaults=[]) (hr:Room k callerA)
   (F:∀ (K:Frag) (w:World) (mg:Str->Option Value) (fa:Addr) (h:Heap),Has K fns bl co->HasE K ds->K.In h->h.Ns mainGlobals mg->mg d.name=some (.ref fa) ->
     ∃ fd:FuncData,(∀ (s:Shared) (u:Value),BindsTo s fd ⟨[u],[]⟩ [(x,u)])/\∀ base:Heap,K.In base->base.Ns mainGlobals mg->FnOk l.prog w K mg base CX k fa fd [x] (sp K))
   (hsp:∀ (K:Frag) (H:Hp) (a:Addr) (ns:List Int),ns.length<=n->Only H->SqL K H a (ns.map V.int)->sp K [.ref a] H (fun v _=>v=.bl true) fun _ _ _=>False)
   (hCX:∀ (H:Hp) (s:Shared) (e:Value) (s':Shared),CX [] H s (fun _ _ _=>False) e s'->False) :
   WalkO q loose XP (hookE fns bl co ds).says l.row.toRowW d [] (fun f vs=>C0 f vs):=by
 intro w s₀ s₁ mg mb G Y;obtain⟨K,hK,hH,hC⟩:=Y;exact L2.walk_of (K:=fun _=>K) (CX:=fun _=>CX) (sp:=fun _=>sp K) (YP:=fun _ h=>K.In h) hn hn2 hdf hr (fun _ _ y=>y) (fun w mg fa h a b c=>F K w mg fa h hH hC a b c) (fun _ H a ns h1 h2 h3=>hsp K H a ns h1 h2 h3) (fun _ H s e s'=>hCX H s e s') w s₀ s₁ mg mb G hK
end L2.MP.Hx
namespace L2.MP.stickytiles_k08_errors_apart
open PySem L2.MP
noncomputable def erN:List Str:=["TileError","NoGrowing","NoText","NoPlace","Taken","NoKind","NotHeld","NothingBack","NotSure","TooMany","NotFramed","NoLine"]
noncomputable def zao:ME:=mVar 0
noncomputable def zal:MT:=mTst (mBin ixA (mVar 1) (mVar 0))
noncomputable def zaI:MS:=mSeq (mAsg (mLst (zah (zau (isE (tKls erN)) (zah (mVar 0) (zah (mCon (.fn "NoGrowing")) (mNil)))) (zah (zau (isE (tKls erN)) (zah (mVar 0) (zah (mCon (.fn "NoText")) (mNil)))) (zah (zau (isE (tKls erN)) (zah (mVar 0) (zah (mCon (.fn "NoPlace")) (mNil)))) (mNil))))) (gNm 1)) (mSeq (mAsg (mBin addD (mVar 1) (mLst (zah (zau (isE (tKls erN)) (zah (mVar 0) (zah (mCon (.fn "Taken")) (mNil)))) (zah (zau (isE (tKls erN)) (zah (mVar 0) (zah (mCon (.fn "NoKind")) (mNil)))) (zah (zau (isE (tKls erN)) (zah (mVar 0) (zah (mCon (.fn "NotHeld")) (mNil)))) (mNil)))))) (gNm 1)) (mSeq (mAsg (mBin addD (mVar 1) (mLst (zah (zau (isE (tKls erN)) (zah (mVar 0) (zah (mCon (.fn "NothingBack")) (mNil)))) (zah (zau (isE (tKls erN)) (zah (mVar 0) (zah (mCon (.fn "NotSure")) (mNil)))) (zah (zau (isE (tKls erN)) (zah (mVar 0) (zah (mCon (.fn "TooMany")) (mNil)))) (mNil)))))) (gNm 1)) (mSeq (mAsg (mBin addD (mVar 1) (mLst (zah (zau (isE (tKls erN)) (zah (mVar 0) (zah (mCon (.fn "NotFramed")) (mNil)))) (zah (zau (isE (tKls erN)) (zah (mVar 0) (zah (mCon (.fn "NoLine")) (mNil)))) (mNil))))) (gNm 1)) (mRet (zeK (mR1 (zau lenD (zah (mVar 1) (mNil)))) 1 [1] (gNm 0) (zal) (zao))))))
noncomputable def zan:GN:=fnM 2 zaI
noncomputable def zbe:MS:=mIf (mOrT (zd6 (mTst (zau (isE (tKls erN)) (zah (mVar 5) (zah (mCon (.fn "TileError")) (mNil)))))) (mOrT (zd6 (mTst (mIsT (tKlv erN) (mVar 5)))) (mTst (mBin neD (zau zan (zah (mVar 5) (mNil))) (mLst (zah (mVar 4) (mNil))))))) (mRet (mCon (.bl false))) (zdJ)
noncomputable def zbG:MS:=mSeq (mAsg (mBin subD (mBin modD (mBin ixA (mBin addD (zau zeL (zah (mVar 0) (mNil))) (mLst (zah (mCon (.int 3)) (mNil)))) (mVar 1)) (mBin powB (mCon (.int 10)) (mCon (.int 30)))) (mBin powB (mCon (.int 10)) (mCon (.int 6)))) (gNm 2)) (mSeq (mAsg (mLst (zah (mErr "NoGrowing" "number" (mVar 2)) (zah (mErr "NoText" "line" (mBin addD (mVar 2) (mCon (.int 1)))) (zah (mCon (.er true "NoPlace" none)) (zah (mCon (.er true "Taken" none)) (zah (mCon (.er true "NoKind" none)) (zah (mCon (.er true "NotHeld" none)) (zah (mCon (.er true "NothingBack" none)) (mNil))))))))) (gNm 3)) (mSeq (mAsg (mBin addD (mVar 3) (mLst (zah (mCon (.er true "NotSure" none)) (zah (mCon (.er true "TooMany" none)) (zah (mCon (.er true "NotFramed" none)) (zah (mCon (.er true "NoLine" none)) (mNil))))))) (gNm 3)) (mSeq (mFor (zeJ (mVar 3)) (gTp 2 (gC (gNm 4) (gC (gNm 5) (gN0)))) (zbe)) (mIf (mOrT (mTst (mBin neD (mAtE (okE "NoGrowing") "number" (mBin ixA (mVar 3) (mCon (.int 0)))) (mVar 2))) (mOrT (mTst (mBin neD (mAtE (okE "NoText") "line" (mBin ixA (mVar 3) (mCon (.int 1)))) (mBin addD (mVar 2) (mCon (.int 1))))) (mTst (mBin neD (zau zan (zah (mCon (.er true "TileError" none)) (mNil))) (mLst (mNil)))))) (mRet (mCon (.bl false))) (zdJ)))))
noncomputable def zgn:MS:=mSeq (mFor (mR1 (zau zeI (zah (mCon (.int 1)) (zah (zau zeH (zah (zau lenD (zah (mVar 0) (mNil))) (zah (mCon (.int 8)) (mNil)))) (mNil))))) (gNm 1) (zbG)) (mRet (mCon (.bl true)))
noncomputable def zf6:GN:=fnM 6 zgn
end L2.MP.stickytiles_k08_errors_apart
namespace L2.MP.stickytiles_k08_errors_apart
open PySem L2 L2.MP  PySem.Spec PyProof.Rows
noncomputable def top(i:Nat):Stmt:=PySem.Challenge.pw_stickytiles_k08_errors_apart.main.body.getD i (.Pass ⟨0,0,0,0⟩)
noncomputable def fns:List (Str×Stmt):=("_law_marks",top 14)::("law",top 15)::[]
noncomputable def bls:List Str:=["isinstance","len","range","min","max","list","enumerate","ValueError"]
noncomputable def cos:List (Str×(Str ⊕ Int)):=[]
noncomputable def ers:List Hx.ED:=[⟨"TileError",none⟩,⟨"NoGrowing",some ("number",Hx.inClass (top 2) 0)⟩,⟨"NoText",some ("line",Hx.inClass (top 3) 0)⟩,⟨"NoPlace",none⟩,⟨"Taken",none⟩,⟨"NoKind",none⟩,⟨"NotHeld",none⟩,⟨"NothingBack",none⟩,⟨"NotSure",none⟩,⟨"TooMany",none⟩,⟨"NotFramed",none⟩,⟨"NoLine",none⟩]
theorem zba:InitOk "NoGrowing" "number" "number" (Hx.inClass (top 2) 0):=⟨zd5 (by decide +kernel),⟨_,_,_,_,rfl,fun _=>rfl⟩,rfl,rfl,rfl,rfl,fun _ _ _ _ _ _=>len2 fun _ _=>rfl⟩
theorem zco:InitOk "NoText" "line" "line" (Hx.inClass (top 3) 0):=⟨zd5 (by decide +kernel),⟨_,_,_,_,rfl,fun _=>rfl⟩,rfl,rfl,rfl,rfl,fun _ _ _ _ _ _=>len2 fun _ _=>rfl⟩
section
variable {P:Program} {w:World} {K:Aa} {mg:Str->Option Value} {base:Heap} (Z:En K mg fns bls cos) (Y:EE K mg ers)
theorem nd_1:(["_law_at","_law_some"]:List Str).Nodup:=by decide +kernel
include Z Y
theorem zaC:ze9 P w K mg base 1 "_law_marks" 1 zan :=
 zeZ (k:=0) Z (top 14) 0 ["_law_error","_law_some"] ["_law_error"] fun nd f cdv A outer s H E hr=>JSs.out (zas (JS.mk (sst 1 nd (zaY (zaa (eis Y Z.b1 (zaa (zak 0) (zaa (efn Y 1) (zam)))) (zaa (eis Y Z.b1 (zaa (zak 0) (zaa (efn Y 2) (zam)))) (zaa (eis Y Z.b1 (zaa (zak 0) (zaa (efn Y 3) (zam)))) (zam))))))) (zas (JS.mk (sst 1 nd (zaL zaM (zak 1) (zaY (zaa (eis Y Z.b1 (zaa (zak 0) (zaa (efn Y 4) (zam)))) (zaa (eis Y Z.b1 (zaa (zak 0) (zaa (efn Y 5) (zam)))) (zaa (eis Y Z.b1 (zaa (zak 0) (zaa (efn Y 6) (zam)))) (zam)))))))) (zas (JS.mk (sst 1 nd (zaL zaM (zak 1) (zaY (zaa (eis Y Z.b1 (zaa (zak 0) (zaa (efn Y 7) (zam)))) (zaa (eis Y Z.b1 (zaa (zak 0) (zaa (efn Y 8) (zam)))) (zaa (eis Y Z.b1 (zaa (zak 0) (zaa (efn Y 9) (zam)))) (zam)))))))) (zas (JS.mk (sst 1 nd (zaL zaM (zak 1) (zaY (zaa (eis Y Z.b1 (zaa (zak 0) (zaa (efn Y 10) (zam)))) (zaa (eis Y Z.b1 (zaa (zak 0) (zaa (efn Y 11) (zam)))) (zam))))))) (zaU (JS.mk (zcI (zem rfl rfl (zdZ (N':=["_law_at","_law_some"]) (nt:=1) (fr:=[1]) ["_law_some"] rfl (by decide +kernel) (by decide +kernel) (by decide +kernel) rfl ⟨⟨rfl,by decide⟩,trivial⟩ ⟨by first | exact Co rfl | exact BI rfl,trivial⟩) (zbp rfl Z.b1 (cBE Z zbB ze2 (zaa (zak 1) (zam)))) (fun C s0 H0 fp=>sgn 0 nd_1) (fun C s0 H0 fp=>zfo (zfp (zcL (zfd hr) (zak 1) (zak 0)))) (fun C s0 H0 fp=>zak 0)))))))))
theorem zfU{f:Addr}{fd:FuncData}(F:Fun K "law" "law" (top 15) f fd):FnOk P w K mg base CX0 3 f fd ["_law_script"] (spM K 1 zf6) :=
 zgI (k:=2) F ["_law_script","_law_k","_law_number","_law_errors","_law_place","_law_error"] ["_law_script"] fun nd cdv A outer s H E hr=>JSs.out (zas (zeN C5 rfl (zbp rfl Z.b1 (cBE Z (zdh rfl) zf2 (zaa (zaK) (zaa (cBE Z (zdf rfl) zf1 (zaa (cBE Z zbB ze2 (zaa (zak 0) (zam))) (zaa (zaK) (zam)))) (zam))))) (sgn 1 nd) (zas (JS.mk (sst 2 nd (zaL zeC (zaL zeD (zcL (zfd hr) (zaL zaM (cTE Z (zcy rfl) ze1 (zaa (zak 0) (zam))) (zaY (zaa (zaK) (zam)))) (zak 1)) (zaL zdn (zaK) (zaK))) (zaL zdn (zaK) (zaK))))) (zas (JS.mk (sst 3 nd (zaY (JA.out (zav (er1 Y zba 1 hr (zaa (zak 2) (zam))) (zav (er1 Y zco 2 hr (zaa (zaL zaM (zak 2) (zaK)) (zam))) (zav (er0 Y 3) (zav (er0 Y 4) (zav (er0 Y 5) (zav (er0 Y 6) (zav (er0 Y 7) (zeO)))))))))))) (zas (JS.mk (sst 3 nd (zaL zaM (zak 3) (zaY (JA.out (zav (er0 Y 8) (zav (er0 Y 9) (zav (er0 Y 10) (zav (er0 Y 11) (zeO)))))))))) (zas (zeN C5 rfl (zee rfl Z.b1 (zak 3)) (zfj rfl (zb1 (sgn 4 nd) (zb1 (sgn 5 nd) (zef)))) (zaU (zgf (SW.sb (zfb (zeo (zfp (eis Y Z.b1 (zaa (zak 5) (zaa (efn Y 0) (zam)))))) (zfb (zeo (zfp (eit Y Z.b1 Z.b1 (zak 5)))) (zd9 (zcO (zcT (zbr hr)) (zf8 (zaC Z Y) hr (zaa (zak 5) (zam))) (zaY (zaa (zak 4) (zam))) rfl))))) (zaU (JS.mk (zcI (zfm)))) (zdq)))) (zaU (zgf (SW.sb (zfb (zcO (zcT (zbr hr)) (eat Y 1 (zcL (zfd hr) (zak 3) (zaK))) (zak 2) rfl) (zfb (zcO (zcT (zbr hr)) (eat Y 2 (zcL (zfd hr) (zak 3) (zaK))) (zaL zaM (zak 2) (zaK)) rfl) (zd9 (zcO (zcT (zbr hr)) (zf8 (zaC Z Y) hr (zaa (er0 Y 0) (zam))) (zaY (zam)) rfl))))) (zaU (JS.mk (zcI (zfm)))) (zdq)))))))) (zaU (JS.mk (zcI (zfm)))))
end
end L2.MP.stickytiles_k08_errors_apart
namespace L2.MP.stickytiles_k08_errors_apart
open PySem L2.MP
open L2.MP.Ce (ifF ifB tstB notB orR)
open L2.MP.Hd (zcP run_map zdz)
theorem zaJ{c y:Str}{f:Option (Str×Int)}{b:Bool}(h:tKls erN c y=some b)(st:Sto):isE (tKls erN) [.er true c f,.fn y] st=some (.bl b,st):=by
 show (tKls erN c y).map _=_;rw[h];rfl
noncomputable def mks(bs:List Bool):List D:=((Bm 11).filter fun i=>bs.getD i false).map fun i:Nat=>D.int (i:Int)
section
variable {c:Str} {f:Option (Str×Int)} {b0 b1 b2 b3 b4 b5 b6 b7 b8 b9 b10:Bool}
theorem zce(h0:tKls erN c "NoGrowing"=some b0)(h1:tKls erN c "NoText"=some b1)(h2:tKls erN c "NoPlace"=some b2)(h3:tKls erN c "Taken"=some b3)(h4:tKls erN c "NoKind"=some b4)(h5:tKls erN c "NotHeld"=some b5)(h6:tKls erN c "NothingBack"=some b6)(h7:tKls erN c "NotSure"=some b7)(h8:tKls erN c "TooMany"=some b8)(h9:tKls erN c "NotFramed"=some b9)(h10:tKls erN c "NoLine"=some b10)(st:Sto) :
   ∃ s n,zan [.er true c f] st=some (.ref n,s)/\s[n]?=some (O.lst (mks [b0,b1,b2,b3,b4,b5,b6,b7,b8,b9,b10]))/\Gr st s:=by
 have i0:=fun s=>zaJ (f:=f) h0 s;have i1:=fun s=>zaJ (f:=f) h1 s;have i2:=fun s=>zaJ (f:=f) h2 s;have i3:=fun s=>zaJ (f:=f) h3 s;have i4:=fun s=>zaJ (f:=f) h4 s;have i5:=fun s=>zaJ (f:=f) h5 s;have i6:=fun s=>zaJ (f:=f) h6 s;have i7:=fun s=>zaJ (f:=f) h7 s;have i8:=fun s=>zaJ (f:=f) h8 s;have i9:=fun s=>zaJ (f:=f) h9 s;have i10:=fun s=>zaJ (f:=f) h10 s;have up:∀ {s:Sto} {n:Nat} {o p:O},s[n]?=some o->(s++[p])[n]?=some o:=fun {s n o p} h=>by rw[Ah (getElem?_lt h)];exact h
 have q1:=zaw st (O.lst [.bl b0,.bl b1,.bl b2]);obtain⟨s1,e1⟩:∃ s1,s1=st++[O.lst [.bl b0,.bl b1,.bl b2]]:=⟨_,rfl⟩
 rw[<-e1] at q1;have w1:addD (.ref st.length) (.ref s1.length) (s1++[O.lst [.bl b3,.bl b4,.bl b5]])=some (.ref (s1++[O.lst [.bl b3,.bl b4,.bl b5]]).length,(s1++[O.lst [.bl b3,.bl b4,.bl b5]])++[O.lst [.bl b0,.bl b1,.bl b2,.bl b3,.bl b4,.bl b5]]):=zbd (up q1) (zaw s1 _) (by simp);obtain⟨s2,e2⟩:∃ s2,s2=s1++[O.lst [.bl b3,.bl b4,.bl b5]]:=⟨_,rfl⟩
 have q2:=zaw s2 (O.lst [.bl b0,.bl b1,.bl b2,.bl b3,.bl b4,.bl b5]);rw[<-e2] at w1;obtain⟨s3,e3⟩:∃ s3,s3=s2++[O.lst [.bl b0,.bl b1,.bl b2,.bl b3,.bl b4,.bl b5]]:=⟨_,rfl⟩
 rw[<-e3] at w1 q2;have w2:addD (.ref s2.length) (.ref s3.length) (s3++[O.lst [.bl b6,.bl b7,.bl b8]])=some (.ref (s3++[O.lst [.bl b6,.bl b7,.bl b8]]).length,(s3++[O.lst [.bl b6,.bl b7,.bl b8]])++[O.lst [.bl b0,.bl b1,.bl b2,.bl b3,.bl b4,.bl b5,.bl b6,.bl b7,.bl b8]]):=zbd (up q2) (zaw s3 _) (by simp);obtain⟨s4,e4⟩:∃ s4,s4=s3++[O.lst [.bl b6,.bl b7,.bl b8]]:=⟨_,rfl⟩
 have q3:=zaw s4 (O.lst [.bl b0,.bl b1,.bl b2,.bl b3,.bl b4,.bl b5,.bl b6,.bl b7,.bl b8]);rw[<-e4] at w2;obtain⟨s5,e5⟩:∃ s5,s5=s4++[O.lst [.bl b0,.bl b1,.bl b2,.bl b3,.bl b4,.bl b5,.bl b6,.bl b7,.bl b8]]:=⟨_,rfl⟩
 rw[<-e5] at w2 q3;have w3:addD (.ref s4.length) (.ref s5.length) (s5++[O.lst [.bl b9,.bl b10]])=some (.ref (s5++[O.lst [.bl b9,.bl b10]]).length,(s5++[O.lst [.bl b9,.bl b10]])++[O.lst [.bl b0,.bl b1,.bl b2,.bl b3,.bl b4,.bl b5,.bl b6,.bl b7,.bl b8,.bl b9,.bl b10]]):=zbd (up q3) (zaw s5 _) (by simp);obtain⟨s6,e6⟩:∃ s6,s6=s5++[O.lst [.bl b9,.bl b10]]:=⟨_,rfl⟩
 have q4:=zaw s6 (O.lst [.bl b0,.bl b1,.bl b2,.bl b3,.bl b4,.bl b5,.bl b6,.bl b7,.bl b8,.bl b9,.bl b10]);rw[<-e6] at w3;obtain⟨s7,e7⟩:∃ s7,s7=s6++[O.lst [.bl b0,.bl b1,.bl b2,.bl b3,.bl b4,.bl b5,.bl b6,.bl b7,.bl b8,.bl b9,.bl b10]]:=⟨_,rfl⟩
 rw[<-e7] at w3 q4;have gr:Gr st s7:=by
   rw[e7,e6,e5,e4,e3,e2,e1];simp only[Ag];exact Gr.app _ _
 have cm:zeK (mR1 (zau lenD (zah (mVar 1) (mNil)))) 1 [1] (gNm 0) (zal) (zao) [some (.er true c f),some (.ref s6.length)] s7=some (.ref s7.length,s7++[O.lst (mks [b0,b1,b2,b3,b4,b5,b6,b7,b8,b9,b10])]):=by
   have r1:mR1 (zau lenD (zah (mVar 1) (mNil))) [some (.er true c f),some (.ref s6.length)] s7=some (⟨run 0 11,[]⟩,s7):=by
     refine zcP (M:=11) (k:=11) rfl ?_ (by decide);have ln:lenD [.ref s6.length] s7=some (.int 11,s7):=by simp[lenD,zbK,q4]
     simp[ln]
   have cf:=zbA (W:=⟨run 0 11,[]⟩) (g:=gNm 0) (c:=zal) (m:=zao) (f:=fun i:Nat=>D.int (i:Int)) (h:=fun i:Nat=>D.int (i:Int)) (p:=fun i:Nat=>[b0,b1,b2,b3,b4,b5,b6,b7,b8,b9,b10].getD i false) (R:=fun r=>∃ x,r=[x,some (.ref s6.length)]) (as:=Bm 11) (ρ:=[none,some (.ref s6.length)]) (st:=s7) ⟨none,rfl⟩ rfl (fun i hi r hr=>by
     obtain⟨x,rfl⟩:=hr;have hi:=List.mem_range.mp hi;have ix:ixA (.ref s6.length) (.int (i:Int)) s7=some (.bl ([b0,b1,b2,b3,b4,b5,b6,b7,b8,b9,b10].getD i false),s7):=by
       refine zc4 q4 (by omega) ?_;have:([b0,b1,b2,b3,b4,b5,b6,b7,b8,b9,b10].map D.bl)[i]?=some (.bl ([b0,b1,b2,b3,b4,b5,b6,b7,b8,b9,b10].getD i false)):=by
         rw[AA,List.getD_eq_getElem?_getD,AX (show i < [b0,b1,b2,b3,b4,b5,b6,b7,b8,b9,b10].length from hi)];rfl
       exact this
     refine⟨[some (.int (i:Int)),some (.ref s6.length)],rfl,?_,fun _=>rfl,_,rfl⟩;unfold zal;refine tstB ?_;simp[ix])
   rw[ze8,r1];simp only[Au];have rh:rho0 [some (.er true c f),some (.ref s6.length)] 1 [1]=[none,some (.ref s6.length)]:=rfl;rw[rh];have cf':mCI ⟨run 0 11,[]⟩ (gNm 0) zal zao (run 0 11) [none,some (.ref s6.length)] s7=some (mks [b0,b1,b2,b3,b4,b5,b6,b7,b8,b9,b10],s7):=by
     conv=>lhs;arg 5;rw[run_map]
     exact cf
   rw[cf'];simp only[Au];rw[if_pos (zaE (AE (by unfold mks;rw[AM];exact List.length_filter_le _ _) (by decide)))]
 refine⟨_,_,zgh ?_,zaw s7 _,gr.trans (Gr.app _ _)⟩;unfold zaI;refine zaX (ρ1:=[some (.er true c f),some (.ref st.length)]) (s1:=s1) (by simp[i0,i1,i2,e1]) ?_;refine zaX (ρ1:=[some (.er true c f),some (.ref s2.length)]) (s1:=s3) (by simp[i3,i4,i5,<-e2,w1]) ?_;refine zaX (ρ1:=[some (.er true c f),some (.ref s4.length)]) (s1:=s5) (by simp[i6,i7,i8,<-e4,w2]) ?_;refine zaX (ρ1:=[some (.er true c f),some (.ref s6.length)]) (s1:=s7) (by simp[i9,i10,<-e6,w3]) ?_;rw[zf3,cm];rfl
end
noncomputable def nmE(i:Nat):Str:=erN.tail.getD i ""
theorem zdI{k:Nat}(hk:k < 11){f:Option (Str×Int)}(st:Sto):∃ s n,zan [.er true (nmE k) f] st=some (.ref n,s)/\s[n]?=some (.lst [.int (k:Int)])/\Gr st s:=by
 have all:∀ k < 11,∀ i < 11,tKls erN (nmE k) (nmE i)=some (decide (i=k)):=by decide +kernel
 have h:=all k hk;obtain⟨s,n,e,a,g⟩:=zce (f:=f) (h 0 (by decide)) (h 1 (by decide)) (h 2 (by decide)) (h 3 (by decide)) (h 4 (by decide)) (h 5 (by decide)) (h 6 (by decide)) (h 7 (by decide)) (h 8 (by decide)) (h 9 (by decide)) (h 10 (by decide)) st;refine⟨s,n,e,?_,g⟩;rw[a];have m1:∀ k < 11,((Bm 11).filter fun i=>[decide (0=k),decide (1=k),decide (2=k),decide (3=k),decide (4=k),decide (5=k),decide (6=k),decide (7=k),decide (8=k),decide (9=k),decide (10=k)].getD i false)=[k]:=by decide +kernel
 unfold mks;rw[m1 k hk];rfl
theorem mark_none(st:Sto):∃ s n,zan [.er true "TileError" none] st=some (.ref n,s)/\s[n]?=some (.lst [])/\Gr st s:=by
 have all:∀ i < 11,tKls erN "TileError" (nmE i)=some false:=by decide +kernel
 have h:=all;obtain⟨s,n,e,a,g⟩:=zce (f:=none) (h 0 (by decide)) (h 1 (by decide)) (h 2 (by decide)) (h 3 (by decide)) (h 4 (by decide)) (h 5 (by decide)) (h 6 (by decide)) (h 7 (by decide)) (h 8 (by decide)) (h 9 (by decide)) (h 10 (by decide)) st;exact⟨s,n,e,a.trans (by rfl),g⟩
theorem zeG{s:Sto}{n m:Nat}{as:List Int}(h1:s[n]?=some (.lst (as.map D.int)))(h2:s[m]?=some (.lst (as.map D.int))):neD (.ref n) (.ref m) s=some (.bl false,s):=by
 have t:∀ bs:List Int,toPs (toP 99 s) (bs.map D.int)=some (bs.map BV):=by
   intro bs
   induction bs with
   | nil=>rfl
   | cons b bs ih =>
     rw[AG,toPs,ih];rfl
 have e1:toP 100 s (.ref n)=some (.list (as.map BV)):=by
   rw[toP];simp[zbK,h1,t]
 have e2:toP 100 s (.ref m)=some (.list (as.map BV)):=by
   rw[toP];simp[zbK,h2,t]
 have q:∀ bs:List Int,Cy (bs.map BV) (bs.map BV)=true:=by
   intro bs
   induction bs with
   | nil=>simp[Cy]
   | cons b bs ih=>simp[Cy,C3,ih]
 unfold neD;rw[e1,e2];simp[C3,q]
theorem zd8{k:Nat}(hk:k < 11){f:Option (Str×Int)}{a0 a1 a2 a3:Option D}(st:Sto):∃ s,zbe [a0,a1,a2,a3,some (.int (k:Int)),some (.er true (nmE k) f)] st=some (.nx [a0,a1,a2,a3,some (.int (k:Int)),some (.er true (nmE k) f)],s)/\Gr st s:=by
 obtain⟨s,n,e,a,g⟩:=zdI hk (f:=f) st;have hT:∀ k < 11,tKls erN (nmE k) "TileError"=some true:=by decide +kernel
 have hV:∀ k < 11,tKlv erN (nmE k)=some true:=by decide +kernel
 have i1:=zaJ (f:=f) (hT k hk) st;have i2:mIsT (tKlv erN) (mVar 5) [a0,a1,a2,a3,some (.int (k:Int)),some (.er true (nmE k) f)] st=some (.bl true,st):=by
   show (tKlv erN (nmE k)).map _=_;rw[hV k hk];rfl
 have i3:=zeG (s:=s++[.lst [.int (k:Int)]]) (n:=n) (m:=s.length) (as:=[(k:Int)]) (by rw[Ah (getElem?_lt a)];exact a) (zaw s _);refine⟨s++[.lst [.int (k:Int)]],?_,g.trans (Gr.app _ _)⟩;unfold zbe;refine ifF (orR (s1:=st) (notB (b:=true) (by simp[i1])) (orR (s1:=st) (notB (b:=true) i2) (tstB ?_)));simp[e,i3]
noncomputable def errs(N:Int):List D:=[.er true "NoGrowing" (some ("number",N)),.er true "NoText" (some ("line",N+1)),.er true "NoPlace" none,.er true "Taken" none,.er true "NoKind" none,.er true "NotHeld" none,.er true "NothingBack" none,.er true "NotSure" none,.er true "TooMany" none,.er true "NotFramed" none,.er true "NoLine" none]
theorem zeW{N:Int}{k:Nat}{d:D}(h:(errs N)[k]?=some d):k < 11/\∃ f,d=.er true (nmE k) f:=by
 have hk:k < 11:=getElem?_lt h;refine⟨hk,?_⟩
 rcases k with _ | _ | _ | _ | _ | _ | _ | _ | _ | _ | _ | k
 all_goals first | (cases h;exact⟨_,rfl⟩) | omega
theorem zda{N:Int}{lo:Nat}{a0 a1 a2 a3 a4 a5:Option D}(st:Sto)(hlo:st[lo]?=some (.lst (errs N))):∃ b4 b5 s,mFor (zeJ (mVar 3)) (gTp 2 (gC (gNm 4) (gC (gNm 5) (gN0)))) (zbe) [a0,a1,a2,some (.ref lo),a4,a5] st=some (.nx [a0,a1,a2,some (.ref lo),b4,b5],s)/\Gr st s:=by
 have hl:=getElem?_lt hlo;obtain⟨ρ',s,e,⟨b4,b5,rfl⟩,g⟩:=zcj (W:=⟨pairs (errs N),[(lo,errs N)]⟩) (g:=gTp 2 (gC (gNm 4) (gC (gNm 5) (gN0)))) (m:=zbe) (ds:=pairs (errs N)) (ρ:=[a0,a1,a2,some (.ref lo),a4,a5]) (st:=st)
   (Inv:=fun i ρ s=>(∃ b4 b5,ρ=[a0,a1,a2,some (.ref lo),b4,b5])/\Gr st s) ⟨⟨_,_,rfl⟩,Gr.refl _⟩ (fun k ρ s _ hI=>by
     have:=zcp ((hI.2.old lo hl).trans hlo);simp[walked,this]) (fun i dd ρ s hd hI=>by
     obtain⟨⟨b4,b5,rfl⟩,g⟩:=hI;obtain⟨x,hx,rfl⟩:=zbs hd;obtain⟨hi,f,rfl⟩:=zeW hx;obtain⟨s',e',g'⟩:=zd8 hi (f:=f) (a0:=a0) (a1:=a1) (a2:=a2) (a3:=some (.ref lo)) s;exact⟨_,s,_,s',rfl,e',⟨_,_,rfl⟩,g.trans g'⟩)
 refine⟨b4,b5,s,?_,g⟩;rw[ze7];have:zeJ (mVar 3) [a0,a1,a2,some (.ref lo),a4,a5] st=some (⟨pairs (errs N),[(lo,errs N)]⟩,st):=by
   simp[zfX,seqD,zbK,hlo]
 rw[this];exact e
theorem zgo(ρ:Rho)(st:Sto):mBin powB (mCon (.int 10)) (mCon (.int 30)) ρ st=some (.int 1000000000000000000000000000000,st):=rfl
theorem ten6(ρ:Rho)(st:Sto):mBin powB (mCon (.int 10)) (mCon (.int 6)) ρ st=some (.int 1000000,st):=rfl
theorem zgj{c f:Str}{N:Int}{m:ME}{ρ:Rho}{st:Sto}(h:m ρ st=some (.er true c (some (f,N)),st)):mAtE (okE c) f m ρ st=some (.int N,st):=by
 unfold mAtE;rw[h];simp[okE]
theorem zeY{c f:Str}{N:Int}{m:ME}{ρ:Rho}{st:Sto}(h:m ρ st=some (.int N,st)):mErr c f m ρ st=some (.er true c (some (f,N)),st):=by
 unfold mErr;rw[h];rfl
theorem zdA{ns:List Int}(hl:ns.length<=63){k:Nat}(hk:k<=ns.length){a2 a3 a4 a5:Option D}(st:Sto):∃ b2 b3 b4 b5 s,zbG [some (.kl (ns.map D.int)),some (.int (k:Int)),a2,a3,a4,a5] st=some (.nx [some (.kl (ns.map D.int)),some (.int (k:Int)),b2,b3,b4,b5],s):=by
 obtain⟨v,hv⟩:∃ v,(ns++[3])[k]?=some v:=⟨_,AX (by simp;omega)⟩
 have el:zeL [.kl (ns.map D.int)] st=some (.ref st.length,st++[.lst (ns.map D.int)]):=by
   have:zfG [.kl (ns.map D.int)] st=some (.ref st.length,st++[.lst (ns.map D.int)]):=by
     show (if fits (ns.map D.int).length=true then _ else _)=_;rw[if_pos (zaE (by simp;omega))]
   unfold zeL zfH orN;rw[this];rfl
 obtain⟨s1,e1⟩:∃ s1,s1=st++[O.lst (ns.map D.int)]:=⟨_,rfl⟩
 have q1:(s1++[O.lst [.int 3]])[st.length]?=some (.lst (ns.map D.int)):=by
   rw[Ah (by rw[e1];simp),e1];exact zaw st _
 have w1:addD (.ref st.length) (.ref s1.length) (s1++[O.lst [.int 3]])=some (.ref (s1++[O.lst [.int 3]]).length,(s1++[O.lst [.int 3]])++[O.lst (ns.map D.int++[.int 3])]):=zbd q1 (zaw s1 _) (by simp;omega);obtain⟨s2,e2⟩:∃ s2,s2=s1++[O.lst [.int 3]]:=⟨_,rfl⟩
 rw[<-e2] at w1;have w2:ixA (.ref s2.length) (.int (k:Int)) (s2++[O.lst (ns.map D.int++[.int 3])])=some (.int v,s2++[O.lst (ns.map D.int++[.int 3])]):=by
   refine zc4 (zaw s2 _) (by omega) ?_;have:((ns++[3]).map D.int)[k]?=some (.int v):=by rw[AA,hv];rfl
   rw[List.map_append] at this;exact this
 obtain⟨s3,e3⟩:∃ s3,s3=s2++[O.lst (ns.map D.int++[.int 3])]:=⟨_,rfl⟩
 rw[<-e3] at w1 w2;have md:modD (.int v) (.int 1000000000000000000000000000000) s3=some (.int (v % 1000000000000000000000000000000),s3):=by
   unfold modD intD;rfl
 have t30:∀ ρ:Rho,∀ s:Sto,powB (.int 10) (.int 30) s=some (.int 1000000000000000000000000000000,s):=fun _ s=>zgo [] s;have t6:∀ ρ:Rho,∀ s:Sto,powB (.int 10) (.int 6) s=some (.int 1000000,s):=fun _ s=>ten6 [] s;generalize (1000000000000000000000000000000:Int)=big at *;generalize (1000000:Int)=mil at *;obtain⟨N,hN⟩:∃ N,N=v % big - mil:=⟨_,rfl⟩
 have st1:mAsg (mBin subD (mBin modD (mBin ixA (mBin addD (zau zeL (zah (mVar 0) (mNil))) (mLst (zah (mCon (.int 3)) (mNil)))) (mVar 1)) (mBin powB (mCon (.int 10)) (mCon (.int 30)))) (mBin powB (mCon (.int 10)) (mCon (.int 6)))) (gNm 2) [some (.kl (ns.map D.int)),some (.int (k:Int)),a2,a3,a4,a5] st=some (.nx [some (.kl (ns.map D.int)),some (.int (k:Int)),some (.int N),a3,a4,a5],s3):=by
   have t30':=t30 [];have t6':=t6 [];generalize ns.map D.int=NS at *;generalize (k:Int)=K at *;simp[el,<-e1,<-e2,w1,w2,t30',t6',md,<-hN]
 have f1:=zeY (c:="NoGrowing") (f:="number") (N:=N) (m:=mVar 2) (ρ:=[some (.kl (ns.map D.int)),some (.int (k:Int)),some (.int N),a3,a4,a5]) (st:=s3) rfl;have f2:=zeY (c:="NoText") (f:="line") (N:=N+1) (m:=mBin addD (mVar 2) (mCon (.int 1))) (ρ:=[some (.kl (ns.map D.int)),some (.int (k:Int)),some (.int N),a3,a4,a5]) (st:=s3) rfl;obtain⟨s4,e4⟩:∃ s4,s4=s3++[O.lst ((errs N).take 7)]:=⟨_,rfl⟩
 have q4:(s4++[O.lst ((errs N).drop 7)])[s3.length]?=some (.lst ((errs N).take 7)):=by
   rw[Ah (by rw[e4];simp),e4];exact zaw s3 _
 have w4:addD (.ref s3.length) (.ref s4.length) (s4++[O.lst ((errs N).drop 7)])=some (.ref (s4++[O.lst ((errs N).drop 7)]).length,(s4++[O.lst ((errs N).drop 7)])++[O.lst (errs N)]):=zbd q4 (zaw s4 _) (by simp[errs]);obtain⟨s5,e5⟩:∃ s5,s5=s4++[O.lst ((errs N).drop 7)]:=⟨_,rfl⟩
 rw[<-e5] at w4;have at6:=zaw s5 (O.lst (errs N));obtain⟨s6,e6⟩:∃ s6,s6=s5++[O.lst (errs N)]:=⟨_,rfl⟩
 rw[<-e6] at w4 at6;obtain⟨b4,b5,s7,e7,g7⟩:=zda (a0:=some (.kl (ns.map D.int))) (a1:=some (.int (k:Int))) (a2:=some (.int N)) (a4:=a4) (a5:=a5) (a3:=none) s6 at6;have at7:=(g7.old _ (getElem?_lt at6)).trans at6;have x0:ixA (.ref s5.length) (.int 0) s7=some (.er true "NoGrowing" (some ("number",N)),s7):=zc4 at7 (by decide) rfl;have x1:ixA (.ref s5.length) (.int 1) s7=some (.er true "NoText" (some ("line",N+1)),s7):=zc4 at7 (by decide) rfl;obtain⟨s8,n8,e8,a8,g8⟩:=mark_none s7;have ne8:=zeG (s:=s8++[.lst []]) (n:=n8) (m:=s8.length) (as:=[]) (by rw[Ah (getElem?_lt a8)];exact a8) (zaw s8 _);have i1:=fun (a b:Int) s=>L2.MP.Hb.ne_int a b s;refine⟨some (.int N),some (.ref s5.length),b4,b5,s8++[.lst []],?_⟩;unfold zbG;refine zaX st1 ?_;refine zaX (ρ1:=[some (.kl (ns.map D.int)),some (.int (k:Int)),some (.int N),some (.ref s3.length),a4,a5]) (s1:=s4) (by
   generalize ns.map D.int=NS at *;generalize (k:Int)=K at *;simp[f1,f2,e4,errs]) ?_
 refine zaX (ρ1:=[some (.kl (ns.map D.int)),some (.int (k:Int)),some (.int N),some (.ref s5.length),a4,a5]) (s1:=s6) (by
   have w5:addD (.ref s3.length) (.ref s4.length) (s4++[O.lst [.er true "NotSure" none,.er true "TooMany" none,.er true "NotFramed" none,.er true "NoLine" none]])=some (.ref s5.length,s6):=by
     have:(errs N).drop 7=[.er true "NotSure" none,.er true "TooMany" none,.er true "NotFramed" none,.er true "NoLine" none]:=rfl;rw[<-this,<-e5];exact w4
   generalize ns.map D.int=NS at *;generalize (k:Int)=K at *;simp[w5]) ?_
 refine zaX e7 ?_;refine ifF (orR (s1:=s7) (tstB ?_) (orR (s1:=s7) (tstB ?_) (tstB ?_)))
 . have:=zgj (c:="NoGrowing") (f:="number") (N:=N) (m:=mBin ixA (mVar 3) (mCon (.int 0))) (ρ:=[some (.kl (ns.map D.int)),some (.int (k:Int)),some (.int N),some (.ref s5.length),b4,b5]) (st:=s7) (by
     generalize ns.map D.int=NS at *;generalize (k:Int)=K at *;simp[x0])
   simp[this,i1]
 . have:=zgj (c:="NoText") (f:="line") (N:=N+1) (m:=mBin ixA (mVar 3) (mCon (.int 1))) (ρ:=[some (.kl (ns.map D.int)),some (.int (k:Int)),some (.int N),some (.ref s5.length),b4,b5]) (st:=s7) (by
     generalize ns.map D.int=NS at *;generalize (k:Int)=K at *;simp[x1])
   simp[this,i1]
 . simp[e8,ne8]
theorem zdO(ns:List Int)(hl:ns.length<=63):∃ st,zf6 [.kl (ns.map D.int)] []=some (.bl true,st):=by
 obtain⟨M,hM,hM1,hM2⟩:∃ M:Nat,(if (if (8:Int) < (ns.length:Int) then (8:Int) else (ns.length:Int)) > 1 then (if (8:Int) < (ns.length:Int) then (8:Int) else (ns.length:Int)) else 1)=(M:Int)/\M<=8/\(M<=ns.length\/M=1):=by
   by_cases h:(8:Int) < (ns.length:Int)
   . exact⟨8,by rw[if_pos h,if_pos (by decide)];rfl,by omega,by omega⟩
   . by_cases h2:(ns.length:Int) > 1
     . exact⟨ns.length,by rw[if_neg h,if_pos h2],by omega,by omega⟩
     . exact⟨1,by rw[if_neg h,if_neg h2];rfl,by omega,by omega⟩
 have key:=zcj (W:=⟨run 0 M,[]⟩) (g:=gNm 1) (m:=zbG) (ds:=run 0 M) (ρ:=[some (.kl (ns.map D.int)),none,none,none,none,none]) (st:=[])
   (Inv:=fun i ρ s=>∃ a b c d e,ρ=[some (.kl (ns.map D.int)),a,b,c,d,e]) ⟨_,_,_,_,_,rfl⟩ (fun _ _ _ _ _=>rfl) (fun i dd ρ s hd hI=>by
     obtain⟨a1,a2,a3,a4,a5,rfl⟩:=hI;obtain⟨hi,rfl⟩:=zdz hd;obtain⟨b2,b3,b4,b5,s',e⟩:=zdA (ns:=ns) hl (k:=i) (a2:=a2) (a3:=a3) (a4:=a4) (a5:=a5) (by omega) s;exact⟨[some (.kl (ns.map D.int)),some (.int (i:Int)),a2,a3,a4,a5],s,_,s',rfl,e,_,_,_,_,_,rfl⟩)
 obtain⟨ρ',s2,el,a1,a2,a3,a4,a5,rfl⟩:=key;refine⟨s2,zgh ?_⟩;unfold zgn;have elen:lenD [.kl (ns.map D.int)] []=some (.int (ns.length:Int),[]):=by rw[zfI,AM]
 have er:mR1 (zau zeI (zah (mCon (.int 1)) (zah (zau zeH (zah (zau lenD (zah (mVar 0) (mNil))) (zah (mCon (.int 8)) (mNil)))) (mNil)))) [some (.kl (ns.map D.int)),none,none,none,none,none] []=some (⟨run 0 M,[]⟩,[]):=by
   refine zcP (s1:=[]) (k:=M) hM ?_ (by omega);generalize ns.map D.int=NS at *;generalize (ns.length:Int)=K at *;simp[elen,zeH,zeI]
 refine zaX (ρ1:=[some (.kl (ns.map D.int)),a1,a2,a3,a4,a5]) (s1:=s2) (by
   show mFor _ _ _ [some (.kl (ns.map D.int)),none,none,none,none,none] []=_;rw[ze7,er];exact el) ?_
 simp
end L2.MP.stickytiles_k08_errors_apart
namespace L2.MP.stickytiles_k08_errors_apart
open PySem L2 L2.MP PySem.Spec PyProof.Rows PySem.W
noncomputable def vw:Program:=view PySem.Challenge.pw_stickytiles_k08_errors_apart [1,2,3,4,5,6,7,8,9,10,11,12,14,15]
noncomputable abbrev hk:=Hx.hookE fns bls cos ers
theorem zei:LeftO PySem.Challenge.pw_stickytiles_k08_errors_apart vw [] (fun s=>xlAt vw [] s&&recOk [] s) hk.obs hk.val 20000:=by
 intro w
 kernel_rfl
end L2.MP.stickytiles_k08_errors_apart
open PySem PySem.W PyProof.Rows L2 L2.MP L2.MP.stickytiles_k08_errors_apart in
set_option maxRecDepth 100000 in
set_option maxHeartbeats 0 in
theorem PySem.Challenge.cw_stickytiles_k08_errors_apart_holds : PySem.Challenge.rw_stickytiles_k08_errors_apart.Holds := by
 refine holds_law (by decide +kernel) fun said=>?_;refine holds_open (q:=vw) (loose:=[]) (XP:=XL vw []) (YP:=hk.says) zei hk.of hk.keeps (fun s e=>xl_of s (Bool.and_eq_true_iff.mp e).1) XL.keeps (by rfl) (by rfl) (by rfl) (fun s e=>recFacts_of (Bool.and_eq_true_iff.mp e).2) (by rfl) said (by decide +kernel) ⟨rfl,rfl,rfl,rfl,rfl,by decide +kernel⟩ ?hw ?hc
 case hw=>w_witness2
 case hc =>
   refine Hx.walk_hasE (l:=PySem.Challenge.rw_stickytiles_k08_errors_apart) (n:=63) (k:=3) (x:="_law_script") (CX:=CX0) (sp:=fun K=>spM K 1 zf6) rfl (by decide) rfl ⟨rfl,by decide,by decide,rfl⟩ (fun K w mg fa h A B X G e=>?_) (fun K H a ns hl hO hS=>(zdO ns hl).elim fun _ e=>zdx hO hS e) fun _ _ _ _ z=>z;obtain⟨f,⟨oc,od,kV,dc,pm,an,cd,ct,sl,l,c⟩,n,k⟩:=A.fn ("law",top 15) (AF (i:=1) rfl)
   cases e.symm.trans (mg_of X G n)
   exact⟨_,fun s v=>.of_eq rfl,fun base _ _=>zfU (En.of A X G) (EE.of B Ap X G) (zc8 (st:=top 15) l c k)⟩
