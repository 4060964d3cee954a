import PyProof.Rows.All
import Wide.All
import OpenK.AllK
import Wide.FinOn
import Lean
import PyProof.EqAt
import PyProof.EqKinds
import PyProof.TupleCall
import KE.KRevSl
import PyProof.AttrMissHeap
import KE.KDictOf
import PyProof.StrWalks
import PyProof.ListStr
import PyProof.EnumMake
import PyProof.Rows.Range3
import PyProof.Rows.StrIndexOr
import KE.KRevIter
import PyProof.SumWalk
import PyProof.ReprRoads
import PyProof.DictWalks
import PyProof.FitsBits
import PyProof.CallStr
import PyProof.Rows.FStr
import PyProof.Rows.StrNews
import KE.KIntText
import PyProof.Rows.MinMaxN
import PyProof.StrCalls
import KE.KDictList
import PyProof.RulesTry
import PyProof.Rows.RuleIs
import KE.KDictSum
import PyProof.DictTruth
import PyProof.MinMaxWalk
import PyProof.Rows.SetFrom
import PyProof.ListMulRoad
import PyProof.FactsAll.tuple_2
import PyProof.TupleOfStr
import PyProof.StrLawsIn
import PyProof.Rows.StrLawsPart
import PyProof.StrLawsChain
import PyProof.Rows.StrIntSpec
import PyProof.StrLawsTight
import PyProof.Rows.ReprOcc
import PyProof.Rows.StrCountLaw
import PySem.Challenge.RW_stickytiles_k44_what_is_a_walker
set_option maxHeartbeats 8000000
set_option maxRecDepth 100000
open PySem renaming wpAny_bind→Aa,wpAny_pure→Ae,mem_of_lookup→AG,wpAny_newObj_type→AJ,wpAny_callSpecial?_slot→AR,wpAny_field→AU,wpAny_call_entry→A2,wpAny_truthy_bool→A4,wpAny_mono→Bf,wpAny_holding→Bj,wpAny_typeNameOfWhole_keyiter→Bl,wpAny_seqItems→Bs,wpAny_setField_rec→Bv,wpAny_passesOwn→Bx,wpAny_getItem_str_slice→BJ,wpAny_ite_false→BL,post_val_or_str→B1,tupleKind_room_in1→B6,call_meets→Cf,wpAny_execs_nil→Cs,codeAny_mono→Cu,pushCells_keeps→Cw,wpAny_updateSeq_pair→CA,wpAny_setField→CH,wpAny_Call_Name_kw→CK,wpAny_attempt→CQ,wpAny_onRaise→CS,wpAny_pyIter_list→CV,wpAny_sequenceKey→CY,wpAny_dictEntries→C1,wpAny_typeOf→Dc,wpAny_dictEpoch→Do,codeAny_builtin→Dp,wpAny_isTrue_Compare1→Dw,wpAny_isOneOf_keyiter→Dz,evalPart_none→DG,seqIndex_neg→DT,wpAny_pyIter_enum→DZ,wpAny_pyIter_strU→D0,sizeLine_eq→D3,seqIndex_of→D4,wpAny_letGo→D7,wpAny_Name→Ed,typeIs_str→Ee,typeIs_int→Ef,call→Eg,wpAny_rule→Ek
open PySem.W renaming Frag→Ab,mg_none_of→AL,nsIn→AX,fnOf→Bu,keepIn→BD,codeIn→Cd,methodObj→CU,OpenLaw→Dk,cellsFrom_some→Dq,KitAt→DH,mg_of→DI,kitx_list→DW,kitx_dict→DX,kitOne→Ep,WalkO→Eu
open Option renaming bind_some→Ac,map_some→Ap,getD_some→Co,isSome_map→CW,isSome_some→DQ,getD_none→D8,bind→ED
open PySem.Heap renaming get?_push_of_some→Ad,lt_size→Aj,get?_push_size→An,size_push→A3,SameBut→B4,get?_update_self→Cq,get?_update_other→Dt,ExtBut→D5
open Nat renaming le_refl→Af,lt_of_lt_of_le→Ao,ne_of_lt→AC,le_trans→AD,lt_irrefl→A0,zero_le→A8,le_of_succ_le→BB,succ_le_succ→BU,lt_of_le_of_lt→B7,le_add_right→Cp,ne_of_gt→Ct,sub_self→Cv,add_le_add_left→CD,le_succ→CJ,lt_succ_of_lt→C0,min_le_right→Da,lt_succ_self→De,le_of_lt→DP,min_le_left→Ei,not_lt_zero→En
open Bool renaming and_eq_true→Ag,false_eq_true→A1,true_and→A6,false_ne_true→Bb,eq_iff_iff→Bi,false_and→Bq,eq_false_iff→Ci,or_eq_true→Dm,and_false→DA,not_eq_true'→D2,and_true→Ex
open List renaming getElem?_append_left→Ah,size_toArray→Ai,append_assoc→Ak,append_nil→Al,mem_cons_of_mem→Am,length_map→Aq,mem_cons_self→Au,replicate→Av,map_cons→Az,length_append→AA,getElem?_set_ne→AB,getElem?_map→AE,not_mem_nil→AI,getElem?_append_right→AK,mem_append_right→AN,mem_cons→AQ,getElem?_eq_getElem→AW,lookup_cons→AZ,mem_append_left→Be,find?_cons→Bg,eq_nil_of_length_eq_zero→Bk,getElem?_cons_zero→Bn,getElem?_cons_succ→Bo,replicate_succ→Bp,length_singleton→By,mem_of_getElem?→BC,length_cons→BE,all_eq_true→BF,filterMap_cons→BH,getElem?_replicate→BI,range→BK,getElem?_set_self→BM,flatten_cons→BP,length_replicate→BQ,length_take→BS,getD_eq_getElem?_getD→BX,length_set→B0,nil_append→B3,map_nil→B5,forIn_nil→Ce,reverse_cons→Cg,sum_replicate_nat→Ck,any_cons→Cm,length_drop→Cn,length_reverse→CF,length_flatten→CG,mem_singleton→CM,map_replicate→CO,getElem?_set→CZ,drop_eq_getElem_cons→C5,getElem_mem→Df,all_map→Dg,of_mem_zip→Dj,forIn_cons→Dl,drop_eq_nil_of_le→Du,getElem_of_mem→DJ,map_eq_nil_iff→DN,filterMap_map→DR,nodup_append→DV,zipIdx_cons→D9,filter_cons→Ea,any_eq_true→Eb,cons_append→Ec,nodup_cons→Eh,zipIdx_nil→El,foldl→Em,drop_zero→Eo,all_cons→Ew
open Array renaming length_toList→Ar,getElem?_toList→Bc,getElem?_eq_getElem→B2,getD_eq_getD_getElem?→CN,toList→Ez
open Option.some renaming inj→As
open Or renaming inr→Aw,inl→Ax
open PySem.NameKind renaming free→Ay,cell→AH
open PySem.Builtin.SmallTypes renaming nextOf→AF,ownedTupleIsFree→A7,ownedTupleHandOut→Ca
open Ne renaming symm→AM
open PySem.Value renaming ref→AO,none→Ba,bool→Cr,type→C2,str→DO,int→Es,isStrOf→Et,isInt→EB
open PySem.Builtin.Slice renaming slicePlaces→AS,sliceAdjust→A5,sliceApplied→BA,sliceFields→C3
open PySem.Builtin.Tuple renaming tupleExact→AV,tupleItemsOf→BW,tupleTooMany→CT
open PyProof.Rows renaming slot_tuple_getitem→AY,callWith_type1→Bt,slot_tupleiter_next→BY,entry_tuple_getitem→CC,args_tuple_getitem→CL,subscriptTail_builtinR→Ds,Subscript_→DC,entry_tupleiter_next→DD,tupleItemsOf_→DF,args_tupleiter_next→DM
open PySem.Str renaming ofString→A9
open PySem.Txt renaming slice→Bd,slice_le→Cz
open PySem.Builtin.Str renaming occurrences→Bm
open PySem.PyData renaming canLay0→Br,canLayAll0→BN,strOk→BR,depth→B8,eqv→C6,depthAll→Dn,int→EE,str→EF
open PyProof.Rows.F renaming plain_set_update_loop→Bw,entry_set_update_loop→Cb
open PySem.PassesOwn renaming never→Bz
open PySem.AutoSeq1 renaming wpAny_loadPart'→BG
open Int renaming toNat_natCast→BO,emod_lt_of_pos→Cc,emod_nonneg→CB,toNat_of_nonneg→DL,natCast_mul→Ej
open PySem.Paired renaming length→BV,snoc→EC
open PySem.Heap.SameBut renaming update→BZ
open PySem.Obj renaming data_mapFields→B9,mapSeq→C4,isFreed_of_fields→Dx,cls_mapFields→DY,mapFields→Ey
open Prod.mk renaming inj→Cj
open ForInStep renaming yield→Cy
open PySem.Builtin.Dict_items renaming ownsTuple→CI
open PySem.Calls renaming Name_function_global→CP
open Sum renaming inl→C7,inr→C8
open PySem.F renaming args_tuple_add_2→C9,entry_tuple_add→Dh,plainAttrs_list→Di,slot_tuple_add→Dr,plainAttrs_str→Dv
open PySem.Builtin.Dict renaming showsAll→Dy
open True renaming intro→DB
open PySem.Around renaming under_plainId→DE
open PySem.Builtin.Int renaming intBits→DK
open PySem.Heap.IsSliceOf renaming new→DS
open List.Pairwise renaming nil→DU
open PySem.StrLaws renaming found_one→D1
open PySem.Shared renaming heap→D6
open PySem.Builtin.Frozenset renaming updateFrom→Er
open Nat.succ renaming inj→EA
open PySem.Heap.IsListIter renaming «at»→EG
set_option Elab.async false
set_option linter.all false
namespace L2
open PySem PySem.Spec PyProof.Rows
noncomputable abbrev Key:=Sum Int Str
noncomputable def zj9:Key->Value->Bool
 | .inl k,v=>EB k v
 | .inr x,v=>Et x v
noncomputable def keyH(w:World):Key->Int
 | .inl k=>hashInt k
 | .inr x=>hashStr w x
theorem zaZ:∀ {k:Key} {v:Value},zj9 k v=true->(∃ i t,k=C7 i/\v=Es i t)\/(∃ x t,k=C8 x/\v=DO x t)
 | .inl i,v,h=>by
   obtain⟨t,e⟩:=Value.isInt_shape (k:=i) (v:=v) h;exact .inl ⟨i,t,rfl,e⟩
 | .inr x,v,h=>by
   obtain⟨t,e⟩:=Value.isStrOf_shape (x:=x) (v:=v) h;exact .inr ⟨x,t,rfl,e⟩
theorem zhW(i:Int)(t:Tok):zj9 (.inl i) (.int i t)=true:=by simp[zj9,EB]
theorem zhV(x:Str)(t:Tok):zj9 (.inr x) (.str x t)=true:=by simp[zj9,Et]
theorem zmH(a b:Int):decide ((C7 a:Key)=C7 b)=(a==b):=by
 by_cases e:a=b
 . subst e;simp
 . have h:¬ (C7 a:Key)=C7 b:=fun q=>e (Sum.inl.inj q);rw[decide_eq_false h];exact (beq_eq_false_iff_ne.mpr e).symm
theorem zmE(a b:Str):decide ((C8 a:Key)=C8 b)=decide (a=b):=by
 by_cases e:a=b
 . subst e;simp
 . have h:¬ (C8 a:Key)=C8 b:=fun q=>e (Sum.inr.inj q);rw[decide_eq_false h,decide_eq_false e]
theorem zmG(a:Int)(b:Str):decide ((C7 a:Key)=C8 b)=false:=decide_eq_false (fun q=>nomatch q)
theorem zmF(a:Str)(b:Int):decide ((C8 a:Key)=C7 b)=false:=decide_eq_false (fun q=>nomatch q)
noncomputable def zbF(prog:Program)(w:World):PySem.KeyKind prog w Key where
 is:=zj9
 hash:=keyH w
 inj:=fun v a b ha hb=>by
   rcases zaZ ha with ⟨i,t,rfl,rfl⟩ | ⟨x,t,rfl,rfl⟩
   . rcases zaZ hb with ⟨j,u,rfl,e⟩ | ⟨y,u,rfl,e⟩
     . injection e with e1 _;rw[e1]
     . exact nomatch e
   . rcases zaZ hb with ⟨j,u,rfl,e⟩ | ⟨y,u,rfl,e⟩
     . exact nomatch e
     . injection e with e1 _;rw[e1]
 byValue:=fun k v h=>by
   rcases zaZ h with ⟨i,t,rfl,rfl⟩ | ⟨x,t,rfl,rfl⟩ <;> rfl
 pyHash:=fun hv h=>by
   rcases zaZ hv with ⟨i,t,rfl,rfl⟩ | ⟨x,t,rfl,rfl⟩
   . exact wpAny_pyHash_int h
   . exact wpAny_pyHash_str h
 eqBool:=fun hu hv h=>by
   rcases zaZ hu with ⟨i,t,rfl,rfl⟩ | ⟨x,t,rfl,rfl⟩
   . rcases zaZ hv with ⟨j,u,rfl,rfl⟩ | ⟨y,u,rfl,rfl⟩
     . rw[zmH] at h;exact wpAny_eqBool_int h
     . rw[zmG] at h;exact SeqAt.EqAt.int_str i t y u _ _ _ _ h
   . rcases zaZ hv with ⟨j,u,rfl,rfl⟩ | ⟨y,u,rfl,rfl⟩
     . rw[zmF] at h;exact SeqAt.EqAt.str_int x t j u _ _ _ _ h
     . rw[zmE] at h;exact wpAny_eqBool_str h
 «strs»:=fun k x t v h=>by
   rcases zaZ h with ⟨i,u,rfl,e⟩ | ⟨y,u,rfl,e⟩
   . exact nomatch e
   . injection e with e1 _
     subst e1
     cases v <;> rfl
theorem zfJ(prog:Program)(w:World)(i:Int)(t:Tok):(zbF prog w).is (.inl i) (.int i t)=true:=zhW i t
theorem zfI(prog:Program)(w:World)(x:Str)(t:Tok):(zbF prog w).is (.inr x) (.str x t)=true:=zhV x t
inductive V where
 | non | bl (b:Bool) | int (i:Int) | str (x:Str) | byt (b:Array UInt8) | flt (b:UInt64) | ref (a:Addr) | ty (n:String)
 deriving DecidableEq
noncomputable def RelV:V->Value->Prop
 | .non,u=>u=Ba
 | .bl b,u=>u=Cr b
 | .int i,u=>∃ t,u=Es i t
 | .str x,u=>∃ t,u=DO x t
 | .byt b,u=>∃ t,u=Value.bytes b t
 | .flt b,u=>∃ t,u=Value.float b t
 | .ref a,u=>u=AO a
 | .ty n,u=>u=C2 n
noncomputable abbrev Vals:List V->List Value->Prop:=Paired RelV
theorem Vals.length{xs:List V}{us:List Value}(r:Vals xs us):xs.length=us.length:=BV r
theorem Vals.get:∀ {xs:List V} {us:List Value} {i:Nat} {x:V},Vals xs us->xs[i]?=some x->∃ u,us[i]?=some u/\RelV x u
 | _,_,_,_,.nil,e=>by simp at e
 | _,_,0,_,.cons r _,e=>by simp at e;subst e;exact⟨_,rfl,r⟩
 | _,_,i+1,x,.cons _ t,e=>by
   obtain⟨u,h1,h2⟩:=Vals.get (i:=i) (x:=x) t (by simpa using e);exact⟨u,by simpa using h1,h2⟩
theorem Vals.set{x:V}{u:Value}(r:RelV x u):∀ {xs:List V} {us:List Value} (i:Nat),Vals xs us->Vals (xs.set i x) (us.set i u)
 | _,_,_,.nil=>.nil
 | _,_,0,.cons _ t=>.cons r t
 | _,_,i+1,.cons q t=>.cons q (Vals.set r i t)
theorem Vals.append:∀ {xs ys:List V} {us ws:List Value},Vals xs us->Vals ys ws->Vals (xs++ys) (us++ws)
 | _,_,_,_,.nil,s=>s
 | _,_,_,_,.cons r t,s=>.cons r (Vals.append t s)
theorem Vals.take:∀ {xs:List V} {us:List Value} (n:Nat),Vals xs us->Vals (xs.take n) (us.take n)
 | _,_,0,_=>.nil
 | _,_,_+1,.nil=>.nil
 | _,_,n+1,.cons r t=>.cons r (Vals.take n t)
theorem Vals.drop:∀ {xs:List V} {us:List Value} (n:Nat),Vals xs us->Vals (xs.drop n) (us.drop n)
 | _,_,0,r=>r
 | _,_,_+1,.nil=>.nil
 | _,_,n+1,.cons _ t=>Vals.drop n t
noncomputable def RelO:Option V->Option Value->Prop
 | some v,some u=>RelV v u
 | none,none=>True
 | _,_=>False
noncomputable def KV{κ:Type}:List (κ×V)->List (κ×Value)->Prop:=Paired fun (p:κ×V) (q:κ×Value)=>p.1=q.1/\RelV p.2 q.2
noncomputable def kV:Key->V
 | .inl i=>.int i
 | .inr x=>.str x
inductive HO where
  | lst (xs:List V)
  | tup (xs:List V)
  | dK (kvs:List (Key×V)) | dT (kvs:List (List Key×V))
  | set (S:Int->Bool) (n:Nat)
  | ins (C dx:Addr) (fs:List (Str×V))
  | own (x:Addr)
  | xd (fs:List (Str×V))
  | met (f x:Addr)
  | rng (lo hi:Int)
  | frz (o:Obj) (u:HO)
  | tbl (ps:Array Value)
  | ext (φ:Heap->Prop)
noncomputable abbrev Hp:=Addr->Option HO
noncomputable def upd(H:Hp)(a:Addr)(o:HO):Hp:=fun b=>if b=a then some o else H b
theorem zbU{H:Hp}{a:Addr}{o:HO}:upd H a o a=some o:=by unfold upd;rw[if_pos rfl]
theorem zaW{H:Hp}{a b:Addr}{o:HO}(h:b≠a):upd H a o b=H b:=by unfold upd;rw[if_neg h]
theorem zmz{H:Hp}{a b:Addr}{o u:HO}(h:H a=some o)(h':H b=some u)(d:o≠u):a≠b:=by
 intro e;subst e;rw[h] at h';exact d (As h')
theorem zax{H:Hp}{a b:Addr}{o:HO}(h:H a=some o)(h':H b=none):a≠b:=by
 intro e;subst e;rw[h] at h';cases h'
def zdB(h:Heap)(a:Addr)(items:Array Value):Prop:=∃ o,h.get? a=some o/\o.cls=.type "tuple"/\o.dict=none/\∃ n,o.data=.seq items n
theorem zdB.t{h:Heap}{a:Addr}{items:Array Value}(x:zdB h a items):IsTup h a items:=let ⟨o,ho,hc,_,r⟩:=x;⟨o,ho,hc,r⟩
theorem zdB.new(h:Heap)(items:Array Value):zdB (h.push { cls:=.type "tuple",data:=.seq items }) h.objs.size items:=⟨_,An _ rfl,rfl,rfl,0,rfl⟩
section
variable (P:Program) (w:World)
noncomputable def zde(H:Hp)(h:Heap)(a:Addr):HO->Prop
 | .lst xs=>xs.length<=sizeLine/\∃ (its:List Value) (n:Nat),Vals xs its/\h.get? a=some { cls:=.type "list",data:=.seq its.toArray n }
 | .tup xs=>xs.length<=sizeLine/\∃ its:List Value,Vals xs its/\zdB h a its.toArray
 | .dK kvs=>kvs.length<=sizeLine/\(a==sysModules)=false/\∃ vs,KV kvs vs/\h.DictOf (zbF P w) a vs
 | .dT kvs=>kvs.length<=sizeLine/\(a==sysModules)=false/\∃ xs:List (List Key×Addr×Value),
     Paired (fun (p:List Key×V) (q:List Key×Addr×Value)=>p.1=q.1/\H q.2.1=some (.tup (p.1.map kV))/\RelV p.2 q.2.2) kvs xs /\
     ∃ o es ep,h.get? a=some o/\o.ExactDict/\o.data=.dict es ep/\es.toList=xs.map (entryOfKey (tupleKind (zbF P w)))/\(xs.map (·.1)).Nodup
 | .set S n=>h.SetOf (intKind P w) a S n
 | .ins C dx fs=>H dx=some (.own a)/\fs.length<=1000/\dx≠a/\h.get? a=some (PySem.W.instObj C dx) /\
     ∃ mA,h.Ns1 dx mA/\(∀ f,RelO (fs.lookup f) (mA f))/\PySem.Within mA (fs.map (·.1))
 | .own _=>∃ o,h.get? a=some o
 | .xd fs=>∃ mA,h.Ns1 a mA/\∀ f,RelO (fs.lookup f) (mA f)
 | .rng lo hi=>∃ t u v,h.get? a=some { cls:=.type "range",data:=.fields #[.int lo t,.int hi u,.int 1 v] }
 | .frz o u=>h.get? a=some o/\zde H h a u
 | .tbl ps=>h.get? a=some { cls:=.none,data:=.fields ps }
 | .met f x=>h.get? a=some (CU (.ref f) (.ref x))
 | .ext φ=>φ h/\(∃ o,h.get? a=some o)/\∀ h1 h2:Heap,φ h1->(∀ o,h1.get? a=some o->h2.get? a=some o)->φ h2
def HOk(H:Hp)(h:Heap):Prop:=∀ a o,H a=some o->zde P w H h a o
end
section
variable {P:Program} {w:World} {H H':Hp} {h h':Heap} {a:Addr} {o:HO}
theorem zde.lt(x:zde P w H h a o):a < h.objs.size:=by
 cases o with
 | lst xs=>obtain⟨_,_,_,_,e⟩:=x;exact Aj e
 | tup xs=>obtain⟨_,_,_,p⟩:=x;exact p.t.lt
 | dK kvs=>obtain⟨_,_,_,_,o,_,_,e,_⟩:=x;exact Aj e
 | dT kvs=>obtain⟨_,_,_,_,o,_,_,e,_⟩:=x;exact Aj e
 | set S n=>obtain⟨o,_,_,_,e,_⟩:=x;exact Aj e
 | ins C dx fs=>obtain⟨_,_,_,e,_⟩:=x;exact Aj e
 | own y=>obtain⟨_,e⟩:=x;exact Aj e
 | xd fs=>obtain⟨_,⟨_,_,_,e,_⟩,_⟩:=x;exact Aj e
 | rng lo hi=>obtain⟨_,_,_,e⟩:=x;exact Aj e
 | frz ob u=>obtain⟨e,_⟩:=x;exact Aj e
 | tbl ps=>exact Aj (show h.get? a=some _ from x)
 | met f y=>exact Aj (show h.get? a=some _ from x)
 | ext φ=>obtain⟨_,⟨_,e⟩,_⟩:=x;exact Aj e
theorem Paired.mapP{α β:Type}{F G:α->β->Prop}:∀ {l₁:List α} {l₂:List β},Paired F l₁ l₂->(∀ a b,F a b->G a b)->Paired G l₁ l₂
 | _,_,.nil,_=>.nil
 | _,_,.cons r t,f=>.cons (f _ _ r) (Paired.mapP t f)
theorem zde.stay(x:zde P w H h a o)(k:∀ b u,(b=a\/H b=some (.own a))->h.get? b=some u->h'.get? b=some u)
   (ho:∀ b,H b=some (.own a)->H' b=some (.own a)) (ht:∀ b xs,H b=some (.tup xs)->H' b=some (.tup xs)):zde P w H' h' a o:=by
 induction o with
 | lst xs=>obtain⟨z,its,n,r,e⟩:=x;exact⟨z,its,n,r,k _ _ (.inl rfl) e⟩
 | tup xs=>obtain⟨z,its,r,ob,e,c⟩:=x;exact⟨z,its,r,ob,k _ _ (.inl rfl) e,c⟩
 | dK kvs=>obtain⟨z,y,vs,r,ob,es,ep,e,c⟩:=x;exact⟨z,y,vs,r,ob,es,ep,k _ _ (.inl rfl) e,c⟩
 | dT kvs =>
   obtain⟨z,y,xs,r,ob,es,ep,e,c⟩:=x;exact⟨z,y,xs,Paired.mapP r fun p q z=>⟨z.1,ht _ _ z.2.1,z.2.2⟩,ob,es,ep,k _ _ (.inl rfl) e,c⟩
 | set S n=>obtain⟨ob,es,ep,t,e,c⟩:=x;exact⟨ob,es,ep,t,k _ _ (.inl rfl) e,c⟩
 | ins C dx fs =>
   obtain⟨d,z,ne,e,mA,⟨od,es,ep,e2,c⟩,r⟩:=x;exact⟨ho _ d,z,ne,k _ _ (.inl rfl) e,mA,⟨od,es,ep,k _ _ (.inr d) e2,c⟩,r⟩
 | own y=>obtain⟨ob,e⟩:=x;exact⟨ob,k _ _ (.inl rfl) e⟩
 | xd fs=>obtain⟨mA,⟨od,es,ep,e,c⟩,r⟩:=x;exact⟨mA,⟨od,es,ep,k _ _ (.inl rfl) e,c⟩,r⟩
 | rng lo hi=>obtain⟨t,u,v,e⟩:=x;exact⟨t,u,v,k _ _ (.inl rfl) e⟩
 | frz ob u ih=>obtain⟨e,q⟩:=x;exact⟨k _ _ (.inl rfl) e,ih q⟩
 | tbl ps =>
   have e:h.get? a=some { cls:=.none,data:=.fields ps }:=x;show h'.get? a=some { cls:=.none,data:=.fields ps };exact k a _ (.inl rfl) e
 | met f y =>
   have e:h.get? a=some (CU (.ref f) (.ref y)):=x;show h'.get? a=some (CU (.ref f) (.ref y));exact k a _ (.inl rfl) e
 | ext φ=>obtain⟨p,⟨o,e⟩,st⟩:=x;exact⟨st _ _ p fun o q=>k _ _ (.inl rfl) q,⟨o,k _ _ (.inl rfl) e⟩,st⟩
theorem HOk.lt(x:HOk P w H h)(e:H a=some o):a < h.objs.size:=(x a o e).lt
theorem HOk.fresh(x:HOk P w H h)(e:h.objs.size<=a):H a=none:=by
 cases q:H a with
 | none=>rfl
 | some u=>exact absurd (Ao (x.lt q) e) (A0 _)
theorem HOk.kept(x:HOk P w H h)(k:∀ b u,h.get? b=some u->h'.get? b=some u):HOk P w H h':=fun a o e =>
 (x a o e).stay (fun b u _ q=>k b u q) (fun _ q=>q) fun _ _ q=>q
theorem HOk.laid(x:HOk P w H h)(k:∀ b u,h.get? b=some u->h'.get? b=some u)(hp:h.objs.size<=a)(new:zde P w (upd H a o) h' a o):HOk P w (upd H a o) h':=fun b u e=>by
 have hn:=x.fresh hp
 by_cases hb:b=a
 . subst hb;rw[zbU] at e;cases e;exact new
 . rw[zaW hb] at e;exact (x b u e).stay (fun c v _ q=>k c v q) (fun c q=>by rw[zaW (zax q hn)];exact q) fun c xs q=>by rw[zaW (zax q hn)];exact q
end
def Rd(H:Hp)(a:Addr)(u:HO):Prop:=H a=some u\/∃ o,H a=some (.frz o u)
theorem Rd.ok{P:Program}{w:World}{H:Hp}{h:Heap}{a:Addr}{u:HO}(r:Rd H a u)(x:HOk P w H h):zde P w H h a u:=by
 rcases r with r | ⟨o,r⟩
 . exact x a u r
 . obtain⟨_,q⟩:=x a _ r;exact q
noncomputable def Mut:Option HO->Prop
 | some (.lst _)=>True
 | some (.dK _)=>True
 | some (.dT _)=>True
 | some (.set _ _)=>True
 | some (.ins _ _ _)=>True
 | some (.ext _)=>True
 | _=>False
section
variable {P:Program} {w:World} {H:Hp} {h h':Heap} {x e:Addr} {o':HO}
theorem HOk.write(ok:HOk P w H h)(mu:Mut (H x))(he:e=x\/H e=some (.own x))(k:∀ b u,b≠e->h.get? b=some u->h'.get? b=some u)(heo:∃ u,h'.get? e=some u)
   (new:zde P w (upd H x o') h' x o'):HOk P w (upd H x o') h':=fun b u q=>by
 have nown:∀ c y,H c=some (.own y)->c≠x:=fun c y r z=>by subst z;rw[r] at mu;exact mu
 have ntup:∀ c xs,H c=some (.tup xs)->c≠x:=fun c xs r z=>by subst z;rw[r] at mu;exact mu
 by_cases hb:b=x
 . subst hb;rw[zbU] at q;cases q;exact new
 . rw[zaW hb] at q
   by_cases hbe:b=e
   . have q':H b=some (.own x):=by
       rcases he with z | z
       . exact absurd (hbe.trans z) hb
       . rw[hbe];exact z
     rw[q] at q';cases q';obtain⟨v,hv⟩:=heo;exact⟨v,by rw[hbe];exact hv⟩
   . refine (ok b u q).stay (fun c v hc r=>k c v ?_ r) (fun c r=>by rw[zaW (nown c b r)];exact r) fun c xs r=>by rw[zaW (ntup c xs r)];exact r
     rcases hc with rfl | hc
     . exact hbe
     . rintro rfl
       rcases he with z | z
       . exact nown c b hc z
       . rw[hc] at z;cases z;exact hb rfl
end
structure Un(fs ex:List Addr)(H H':Hp)(h h':Heap):Prop where
 keep:∀ b o,h.get? b=some o->H b=none->b ∉ fs->b ∉ ex->h'.get? b=some o
 slot:∀ b o,h.get? b=some o->H b=none->b∈fs->b ∉ ex->∃ sl,h'.get? b=some { o with slots:=sl }
 free:∀ b o,h.get? b=some o->H b=none->b ∉ ex->H' b=none
 there:∀ b o,h.get? b=some o->b ∉ ex->∃ o',h'.get? b=some o'
 tups:∀ b xs,H b=some (.tup xs)->H' b=some (.tup xs)
 frzs:∀ b o u,H b=some (.frz o u)->H' b=some (.frz o u)
 tbls:∀ b ps,H b=some (.tbl ps)->∃ more,H' b=some (.tbl (ps++more))
section
variable {fs fs' ex ex':List Addr} {H H1 H2:Hp} {h h1 h2 h':Heap} {a x e:Addr} {o:HO}
theorem Un.any(u:Un fs ex H H1 h h1){b:Addr}{ob:Obj}(q:h.get? b=some ob)(n:H b=none)(hx:b ∉ ex):∃ sl,h1.get? b=some { ob with slots:=sl }:=by
 by_cases hb:b∈fs
 . exact u.slot b ob q n hb hx
 . exact⟨ob.slots,u.keep b ob q n hb hx⟩
theorem Un.kept(k:∀ b u,h.get? b=some u->h'.get? b=some u):Un fs ex H H h h' :=
 ⟨fun b ob q _ _ _=>k b ob q,fun b ob q _ _ _=>⟨ob.slots,k b ob q⟩,fun _ _ _ n _=>n,fun b ob q _=>⟨ob,k b ob q⟩,fun _ _ q=>q,fun _ _ _ q=>q,fun _ ps q=>⟨#[],by rw[q];simp⟩⟩
theorem Un.refl:Un fs ex H H h h:=Un.kept fun _ _ q=>q
theorem Un.laid(k:∀ b u,h.get? b=some u->h'.get? b=some u)(hp:h.objs.size<=a)(hn:H a=none):Un fs ex H (upd H a o) h h' where
 keep:=fun b u q _ _ _=>k b u q
 slot:=fun b u q _ _ _=>⟨u.slots,k b u q⟩
 free:=fun b u q n _=>by rw[zaW (AC (Ao (Aj q) hp))];exact n
 there:=fun b u q _=>⟨u,k b u q⟩
 tups:=fun b xs q=>by rw[zaW (zax q hn)];exact q
 frzs:=fun b u xs q=>by rw[zaW (zax q hn)];exact q
 tbls:=fun b ps q=>⟨#[],by rw[zaW (zax q hn),q];simp⟩
theorem Un.write(mu:Mut (H x))(he:e=x\/H e=some (.own x))(k:∀ b u,b≠e->h.get? b=some u->h'.get? b=some u)(heo:∃ u,h'.get? e=some u):Un fs ex H (upd H x o) h h':=by
 have hx:∀ b,H b=none->b≠x:=fun b n z=>by subst z;rw[n] at mu;exact mu
 have hb:∀ b,H b=none->b≠e:=fun b n z=>by
   subst z
   rcases he with r | r
   . exact hx b n r
   . rw[n] at r;cases r
 have hm:∀ b u,H b=some u->¬ Mut (some u)->b≠x:=fun b u q nm z=>by subst z;rw[q] at mu;exact nm mu
 refine⟨fun b u q n _ _=>k b u (hb b n) q,fun b u q n _ _=>⟨u.slots,k b u (hb b n) q⟩,fun b u q n _=>by rw[zaW (hx b n)];exact n,fun b u q _=>?_,
   fun b xs q=>by rw[zaW (hm b _ q fun z=>z)];exact q,fun b u xs q=>by rw[zaW (hm b _ q fun z=>z)];exact q,fun b ps q=>⟨#[],by rw[zaW (hm b _ q fun z=>z),q];simp⟩⟩
 by_cases hbe:b=e
 . subst hbe;exact heo
 . exact⟨u,k b u hbe q⟩
end
noncomputable def trk(h:Heap)(H:Hp):List Addr:=(BK h.objs.size).filter fun a=>(H a).isSome
noncomputable def hidT(h:Heap)(H:Hp):Heap:=PySem.W.hideAll h (trk h H)
theorem zhZ(h:Heap)(H:Hp):(hidT h H).objs.size=h.objs.size:=PySem.W.hideAll_size _ _
theorem zjG{h:Heap}{H:Hp}{b:Addr}{o:Obj}(e:h.get? b=some o)(n:H b=none):(hidT h H).get? b=some o :=
 PySem.W.hideAll_get _ e fun hm=>by
   have q:(H b).isSome=true:=(List.mem_filter.mp hm).2;rw[n] at q;simp at q
theorem zk4{h:Heap}{H:Hp}{b:Addr}{o:Obj}(e:(hidT h H).get? b=some o):h.get? b=some o/\H b=none:=by
 have e':h.get? b=some o:=PySem.W.of_hideAll (trk h H) e;refine⟨e',?_⟩
 cases q:H b with
 | none=>rfl
 | some x =>
   have hm:b∈trk h H:=List.mem_filter.mpr ⟨List.mem_range.mpr (Aj e'),by simp[q]⟩;have z:(hidT h H).get? b=none:=PySem.W.hideAll_none (trk h H) hm;rw[z] at e;cases e
structure Mod(K:Ab)(mg:Str->Option Value)(base:Heap):Prop where
 kin:K.In base
 glob:base.Ns mainGlobals mg
 blt:∃ mb,base.Ns builtinsNs mb/\∀ x:Str,x≠"__name__"->mb x=bootBuiltins x
 nolimit:base.NoLimit
structure Cx where
 prog:Program
 w:World
 K:Ab
 mg:Str->Option Value
 base:Heap
 A:Around
 N:List Str
 s₀:Shared
 H₀:Hp
 env:Env
 outer:List Env
 stack:List Env
 ex:List Addr
 fn:Str->Bool
 calm:Bool
 pn:List (Addr×Obj)
 xe:Value->Shared->Prop
noncomputable def frs(l:List Env):List Addr:=l.filterMap (·.frame)
noncomputable abbrev Cx.fs (X:Cx):List Addr:=frs X.outer
def Vis(sc:Scope)(x:Str):Prop:=sc.names.lookup x=some .local\/sc.names.lookup x=some .cell\/sc.names.lookup x=some .free
def Loc(sc:Scope)(x:Str):Prop:=sc.names.lookup x=some .local\/sc.names.lookup x=some .cell
def Look(env:Env)(h:Heap)(m:Str->Option Value)(x:Str)(u:Value):Prop :=
 (env.kindOf x=some .local/\m x=some u)\/((env.kindOf x=some .cell\/env.kindOf x=some .free)/\∃ c,env.cells.lookup x=some c/\h.IsCell c (some u))
structure Cx.Ok(X:Cx):Prop where
 mod:Mod X.K X.mg X.base
 kind:X.env.scope.kind=.function
 glob:X.env.globals=mainGlobals
 blt:X.env.builtins=builtinsNs
 above:X.s₀.heap.objs.size<=X.env.locals
 inj:∀ x y c,X.env.cells.lookup x=some c->X.env.cells.lookup y=some c->x=y
 has:∀ x,(X.env.kindOf x=some .cell\/X.env.kindOf x=some .free)->∃ c,X.env.cells.lookup x=some c
 cab:∀ x c,X.fn x=true->X.env.cells.lookup x=some c->X.s₀.heap.objs.size<=c
 hd:X.calm=true->X.A.handled=none
 frames:X.A.frames=some X.stack
 stk:X.stack=X.outer\/(X.stack=X.env::X.outer/\X.env.frame=some X.env.locals)
 exf:∀ b∈X.ex,b≠X.env.locals/\∀ x c,X.env.cells.lookup x=some c->c≠b
 bs:∀ b o,X.base.get? b=some o->X.s₀.heap.get? b=some o/\X.H₀ b=none
 bsz:X.base.objs.size<=X.s₀.heap.objs.size
 noex:∀ b o,X.base.get? b=some o->b ∉ X.ex
 exfs:∀ b∈X.ex,b ∉ X.fs
 funs:X.s₀.heap.FunFrames X.base X.outer
 frf:∀ b∈X.fs,X.H₀ b=none
structure Inv(X:Cx)(pins:List (Addr×Obj))(σ:List (Option V))(H:Hp)(s:Shared):Prop where
 ok:X.Ok
 os:s.os=X.s₀.os
 bare:AllBare s.gens
 base:Un X.fs X.ex X.H₀ H X.s₀.heap s.heap
 loc:∃ m,s.heap.Ns X.env.locals m/\∀ (i:Nat) (x:Str) (v:V),X.N[i]?=some x->σ[i]?=some (some v)->Vis X.env.scope x->∃ u,RelV v u/\Look X.env s.heap m x u
 cell:∀ x c,X.env.cells.lookup x=some c->∃ v,s.heap.IsCell c v
 free:H X.env.locals=none
 freeC:∀ x c,X.env.cells.lookup x=some c->H c=none
 pin:∀ p∈X.pn++pins,s.heap.get? p.1=some p.2/\H p.1=none/\p.1≠X.env.locals/\p.1 ∉ X.fs/\∀ v,p.2.data≠.cell v
 hok:HOk X.prog X.w H s.heap
 len:σ.length=X.N.length
section
variable {X:Cx} {pins:List (Addr×Obj)} {σ:List (Option V)} {H H':Hp} {s:Shared} {h':Heap}
theorem Cx.Ok.nofr(ok:X.Ok){b:Addr}{o:Obj}(e:X.base.get? b=some o):b ∉ X.fs:=fun hb=>by
 have:=(ok.funs.mem hb).1;rw[e] at this;cases this
theorem Inv.bs(I:Inv X pins σ H s):∀ b o,X.base.get? b=some o->s.heap.get? b=some o/\H b=none:=fun b o e =>
 ⟨I.base.keep b o (I.ok.bs b o e).1 (I.ok.bs b o e).2 (I.ok.nofr e) (I.ok.noex b o e),I.base.free b o (I.ok.bs b o e).1 (I.ok.bs b o e).2 (I.ok.noex b o e)⟩
theorem Inv.bk(I:Inv X pins σ H s):∀ b o,X.base.get? b=some o->s.heap.get? b=some o:=fun b o e=>(I.bs b o e).1
theorem Inv.mod(I:Inv X pins σ H s):Mod X.K X.mg X.base:=I.ok.mod
theorem Inv.kIn(I:Inv X pins σ H s):X.K.In s.heap:=I.ok.mod.kin.keeps I.bk
theorem Inv.fr(I:Inv X pins σ H s):∃ m,Fr X.base X.env.locals s.heap m :=
 let ⟨m,hn,_⟩:=I.loc
 ⟨m,hn,I.bk,AD I.ok.bsz I.ok.above⟩
theorem Inv.lt(I:Inv X pins σ H s):X.env.locals < s.heap.objs.size:=let ⟨_,hn,_⟩:=I.loc;hn.lt
theorem Inv.sz(I:Inv X pins σ H s):X.s₀.heap.objs.size<=s.heap.objs.size:=AD I.ok.above (DP I.lt)
theorem Inv.nofs(I:Inv X pins σ H s){a:Addr}(h:s.heap.objs.size<=a):a ∉ X.fs:=fun hb=>by
 obtain⟨_,o,ho,_⟩:=I.ok.funs.mem hb;exact absurd (Ao (Aj ho) (AD I.sz h)) (A0 _)
theorem Inv.cne(I:Inv X pins σ H s):∀ x c,X.env.cells.lookup x=some c->c≠X.env.locals:=fun x c e z=>by
 obtain⟨v,o,ho,hd⟩:=I.cell x c e;obtain⟨m,⟨o',es,ep,ho',hd',_⟩,_⟩:=I.loc;rw[z,ho'] at ho;cases ho;rw[hd'] at hd;cases hd
theorem Inv.funs(I:Inv X pins σ H s):s.heap.FunFrames X.base X.outer:=by
 have all:∀ (l:List Env),(∀ b∈frs l,b∈X.fs)->X.s₀.heap.FunFrames X.base l->s.heap.FunFrames X.base l:=by
   intro l
   induction l with
   | nil=>intro _ _;trivial
   | cons env r ih =>
     intro hs hl;obtain⟨hk,⟨L,o,hf,hn,ho,hd⟩,hr⟩:=hl;have hL:L∈X.fs:=hs L (by unfold frs;rw[BH,hf];exact Au);obtain⟨sl,e⟩:=I.base.slot L o ho (I.ok.frf L hL) hL fun z=>I.ok.exfs L z hL;exact⟨hk,⟨L,_,hf,hn,e,hd⟩,ih (fun b hb=>hs b (by unfold frs;rw[BH,hf];exact Am _ hb)) hr⟩
 exact all X.outer (fun _ hb=>hb) I.ok.funs
theorem Inv.stack(I:Inv X pins σ H s):s.heap.FunFrames X.base X.stack:=by
 rcases I.ok.stk with e | ⟨e,hf⟩
 . rw[e];exact I.funs
 . rw[e];obtain⟨m,hn,_⟩:=I.loc;refine .cons (by rw[I.ok.kind];decide) hf hn ?_ I.funs;exact Heap.get?_none_of_le (AD I.ok.bsz I.ok.above)
theorem Inv.stkSub(I:Inv X pins σ H s):∀ b∈frs X.stack,b∈X.env.locals::X.fs:=fun b hb=>by
 rcases I.ok.stk with e | ⟨e,hf⟩
 . rw[e] at hb;exact Am _ hb
 . rw[e] at hb;unfold frs at hb;rw[BH,hf] at hb;exact hb
theorem Inv.stkFree(I:Inv X pins σ H s):∀ b∈frs X.stack,H b=none:=fun b hb=>by
 rcases List.mem_cons.mp (I.stkSub b hb) with e | hb
 . rw[e];exact I.free
 . obtain⟨_,o,ho,_⟩:=I.ok.funs.mem hb;exact I.base.free b o ho (I.ok.frf b hb) fun z=>I.ok.exfs b z hb
theorem Inv.step{g':Array GenState}{t':Nat}{d':Drawn}{ch:List Addr}(I:Inv X pins σ H s)
   (hch:∀ b∈ch,(b∈X.ex\/X.s₀.heap.objs.size<=b)/\b≠X.env.locals/\(∀ x c,X.env.cells.lookup x=some c->c≠b)/\∀ p∈X.pn++pins,p.1≠b)
   (keep:∀ b o,b≠X.env.locals->b ∉ X.fs->b ∉ ch->s.heap.get? b=some o->H b=none->h'.get? b=some o)
   (slot:∀ b o,b≠X.env.locals->b∈X.fs->b ∉ ch->s.heap.get? b=some o->H b=none->∃ sl,h'.get? b=some { o with slots:=sl }) (free:∀ b o,b ∉ ch->s.heap.get? b=some o->H b=none->H' b=none)
   (there:∀ b o,b ∉ ch->s.heap.get? b=some o->∃ o',h'.get? b=some o')
   (tups:∀ b xs,H b=some (.tup xs)->H' b=some (.tup xs)) (frzs:∀ b o u,H b=some (.frz o u)->H' b=some (.frz o u)) (tbls:∀ b ps,H b=some (.tbl ps)->∃ more,H' b=some (.tbl (ps++more)))
   (ns:∀ m,s.heap.Ns X.env.locals m->h'.Ns X.env.locals m) (hok:HOk X.prog X.w H' h') (hg:AllBare g') :
   Inv X pins σ H' { s with heap:=h',gens:=g',drawn:=d',toks:=t' }:=by
 have neL:∀ b o,X.s₀.heap.get? b=some o->b≠X.env.locals:=fun b o e=>AC (Ao (Aj e) I.ok.above);have neC:∀ b o,X.s₀.heap.get? b=some o->b ∉ X.ex->b ∉ ch:=fun b o e hx hb=>by
   rcases (hch b hb).1 with z | z
   . exact hx z
   . exact absurd (Ao (Aj e) z) (A0 _)
 have cellK:∀ x c,X.env.cells.lookup x=some c->∀ v,s.heap.IsCell c v->h'.IsCell c v:=by
   rintro x c e v ⟨o,ho,hd⟩;have nch:c ∉ ch:=fun z=>(hch c z).2.2.1 x c e rfl
   by_cases hc:c∈X.fs
   . obtain⟨sl,q⟩:=slot c o (I.cne x c e) hc nch ho (I.freeC x c e);exact⟨_,q,hd⟩
   . exact⟨o,keep c o (I.cne x c e) hc nch ho (I.freeC x c e),hd⟩
 refine⟨I.ok,I.os,hg,⟨fun b o e n hb hx=>?_,fun b o e n hb hx=>?_,fun b o e n hx=>?_,fun b o e hx=>?_,fun b xs e=>tups b xs (I.base.tups b xs e),fun b o xs e=>frzs b o xs (I.base.frzs b o xs e),fun b ps e=>?_⟩,?_,fun x c e=>?_,?_,fun x c e=>?_,fun p hp=>?_,hok,I.len⟩
 . exact keep b o (neL b o e) hb (neC b o e hx) (I.base.keep b o e n hb hx) (I.base.free b o e n hx)
 . obtain⟨sl,e1⟩:=I.base.slot b o e n hb hx;obtain⟨sl',e2⟩:=slot b _ (neL b o e) hb (neC b o e hx) e1 (I.base.free b o e n hx);exact⟨sl',e2⟩
 . obtain⟨o',e1⟩:=I.base.there b o e hx;exact free b o' (neC b o e hx) e1 (I.base.free b o e n hx)
 . obtain⟨o',e1⟩:=I.base.there b o e hx;exact there b o' (neC b o e hx) e1
 . obtain⟨m1,e1⟩:=I.base.tbls b ps e;obtain⟨m2,e2⟩:=tbls b _ e1;exact⟨m1++m2,by rw[e2,Array.append_assoc]⟩
 . obtain⟨m,hn,hl⟩:=I.loc;refine⟨m,ns m hn,fun i x v e1 e2 e3=>?_⟩;obtain⟨u,r,l⟩:=hl i x v e1 e2 e3;refine⟨u,r,?_⟩
   rcases l with l | ⟨k,c,e,z⟩
   . exact .inl l
   . exact .inr ⟨k,c,e,cellK x c e _ z⟩
 . obtain⟨v,z⟩:=I.cell x c e;exact⟨v,cellK x c e v z⟩
 . obtain⟨m,⟨o,_,_,ho,_⟩,_⟩:=I.loc;exact free _ o (fun z=>(hch _ z).2.1 rfl) ho I.free
 . obtain⟨v,o,ho,hd⟩:=I.cell x c e;exact free c o (fun z=>(hch c z).2.2.1 x c e rfl) ho (I.freeC x c e)
 . obtain⟨e,n,ne,nf,d⟩:=I.pin p hp;have nch:p.1 ∉ ch:=fun z=>(hch p.1 z).2.2.2 p hp rfl;exact⟨keep p.1 p.2 ne nf nch e n,free p.1 p.2 nch e n,ne,nf,d⟩
theorem Inv.un{t':Nat}(I:Inv X pins σ H s)(u:Un X.fs [] H H' s.heap h')(hok:HOk X.prog X.w H' h'):Inv X pins σ H' { s with heap:=h',toks:=t' }:=by
 obtain⟨m,⟨o,es,ep,ho,r⟩,_⟩:=id I.loc;obtain⟨sl,hL⟩:=u.any ho I.free (by simp);exact I.step (g':=s.gens) (d':=s.drawn) (ch:=[]) (fun _ z=>nomatch z) (fun b o _ hb _ e n=>u.keep b o e n hb (by simp)) (fun b o _ hb _ e n=>u.slot b o e n hb (by simp)) (fun b o _ e n=>u.free b o e n (by simp)) (fun b o _ e=>u.there b o e (by simp)) u.tups u.frzs u.tbls (fun m' hm=>by
   obtain⟨o',es',ep',ho',r'⟩:=hm;rw[ho] at ho';cases ho';exact⟨_,es',ep',hL,r'⟩) hok I.bare
theorem Inv.call{g':Array GenState}{t':Nat}{d':Drawn}{ch:List Addr}(I:Inv X pins σ H s)(u:Un (frs X.stack) ch H H' s.heap h')(hok:HOk X.prog X.w H' h')(hg:AllBare g')
   (hch:∀ b∈ch,(b∈X.ex\/X.s₀.heap.objs.size<=b)/\b≠X.env.locals/\(∀ x c,X.env.cells.lookup x=some c->c≠b)/\∀ p∈X.pn++pins,p.1≠b) :
   Inv X pins σ H' { s with heap:=h',gens:=g',drawn:=d',toks:=t' }:=by
 obtain⟨m,⟨o,es,ep,ho,r⟩,_⟩:=id I.loc;obtain⟨sl,hL⟩:=u.any ho I.free fun z=>(hch _ z).2.1 rfl;exact I.step (ch:=ch) hch (fun b o hL hb hc e n=>u.keep b o e n (fun z=>(List.mem_cons.mp (I.stkSub b z)).elim hL hb) hc) (fun b o _ _ hc e n=>u.any e n hc) (fun b o hc e n=>u.free b o e n hc) (fun b o hc e=>u.there b o e hc) u.tups u.frzs u.tbls (fun m' hm=>by
   obtain⟨o',es',ep',ho',r'⟩:=hm;rw[ho] at ho';cases ho';exact⟨_,es',ep',hL,r'⟩) hok hg
theorem Inv.turned{t':Nat}{it:Addr}(I:Inv X pins σ H s)(k:∀ b o,b≠it->s.heap.get? b=some o->h'.get? b=some o)(hn:H it=none)(hL:it≠X.env.locals)
   (h1:it∈X.ex\/X.s₀.heap.objs.size<=it) (h2:∀ x c,X.env.cells.lookup x=some c->c≠it) (h3:∀ p∈X.pn++pins,p.1≠it):Inv X pins σ H { s with heap:=h',toks:=t' }:=by
 have nit:∀ b u,H b=some u->b≠it:=fun b u e z=>by rw[z,hn] at e;cases e
 refine I.step (g':=s.gens) (d':=s.drawn) (ch:=[it]) (fun b hb=>?_) (fun b o _ _ hc e _=>k b o (fun z=>hc (by simp[z])) e) (fun b o _ _ hc e _=>⟨o.slots,k b o (fun z=>hc (by simp[z])) e⟩) (fun _ _ _ _ n=>n)
   (fun b o hc e=>⟨o,k b o (fun z=>hc (by simp[z])) e⟩) (fun _ _ e=>e) (fun _ _ _ e=>e) (fun b ps e=>⟨#[],by rw[e];simp⟩) (fun m hm=>?_) (fun b u e=>?_) I.bare
 . have e:b=it:=by simpa using hb
   subst e;exact⟨h1,hL,h2,h3⟩
 . obtain⟨o,es,ep,ho,r⟩:=hm;exact⟨o,es,ep,k _ o (AM hL) ho,r⟩
 . refine (I.hok b u e).stay (fun c v hc q=>k c v ?_ q) (fun _ q=>q) fun _ _ q=>q
   rcases hc with z | z
   . rw[z];exact nit b u e
   . exact nit c _ z
theorem Inv.tok(I:Inv X pins σ H s)(t:Nat):Inv X pins σ H { s with toks:=t }:=I.un (h':=s.heap) (t':=t) Un.refl I.hok
theorem Inv.kept{t':Nat}(I:Inv X pins σ H s)(k:∀ b u,s.heap.get? b=some u->h'.get? b=some u):Inv X pins σ H { s with heap:=h',toks:=t' }:=I.un (Un.kept k) (I.hok.kept k)
theorem Inv.laid{a:Addr}{o:HO}{t':Nat}(I:Inv X pins σ H s)(k:∀ b u,s.heap.get? b=some u->h'.get? b=some u)(hp:s.heap.objs.size<=a)(new:zde X.prog X.w (upd H a o) h' a o) :
   Inv X pins σ (upd H a o) { s with heap:=h',toks:=t' }:=I.un (Un.laid k hp (I.hok.fresh hp)) (I.hok.laid k hp new)
theorem Inv.write{x e:Addr}{o:HO}{t':Nat}(I:Inv X pins σ H s)(mu:Mut (H x))(he:e=x\/H e=some (.own x))(k:∀ b u,b≠e->s.heap.get? b=some u->h'.get? b=some u)(heo:∃ u,h'.get? e=some u)
   (new:zde X.prog X.w (upd H x o) h' x o):Inv X pins σ (upd H x o) { s with heap:=h',toks:=t' }:=I.un (Un.write mu he k heo) (I.hok.write mu he k heo new)
theorem Inv.pins_of{pins':List (Addr×Obj)}(I:Inv X pins σ H s)(h:∀ p∈pins',s.heap.get? p.1=some p.2/\H p.1=none/\p.1≠X.env.locals/\p.1 ∉ X.fs/\∀ v,p.2.data≠.cell v):Inv X pins' σ H s :=
 ⟨I.ok,I.os,I.bare,I.base,I.loc,I.cell,I.free,I.freeC,fun p hp=>(List.mem_append.mp hp).elim (fun z=>I.pin p (Be _ z)) (h p),I.hok,I.len⟩
theorem zgx{N:List Str}(hN:N.Nodup){i j:Nat}{x:Str}(a:N[i]?=some x)(b:N[j]?=some x):i=j:=by
 obtain⟨h1,e1⟩:=List.getElem?_eq_some_iff.mp a;obtain⟨h2,e2⟩:=List.getElem?_eq_some_iff.mp b;exact (List.getElem_inj hN).mp (e1.trans e2.symm)
theorem zho{M:Model}{A:Around}{E:Value->Shared->Prop}{i:Nat}{x:Str}{v:V}{u:Value}{Q:Unit->Shared->Prop}(I:Inv X pins σ H s)(hN:X.N.Nodup)(hi:X.N[i]?=some x)(hx:Loc X.env.scope x)(r:RelV v u)
   (h:∀ s',Inv X pins (σ.set i (some v)) H s'->(∃ a,B4 a s.heap s'.heap/\(a=X.env.locals\/X.env.cells.lookup x=some a))->Q () s') (hf:X.fn x=true\/X.env.scope.names.lookup x=some .local:=by first | exact .inl rfl | exact .inr rfl | assumption):wpAny M A (storeName X.env x u) Q E s:=by
 obtain⟨m,hn,hl⟩:=id I.loc;have hcls:(X.env.scope.kind==.class || (X.env.scope.kind==.module&&X.env.locals != X.env.globals))=false:=by rw[I.ok.kind];rfl
 have hiσ:i < σ.length:=by rw[I.len];exact (List.getElem?_eq_some_iff.mp hi).1
 have cne:=I.cne;have tracked:∀ {a:Addr} {h':Heap},(∃ o,s.heap.get? a=some o/\H a=none)->B4 a s.heap h'->HOk X.prog X.w H h':=fun {a h'} ha hs b ob e=>by
   obtain⟨_,_,hfree⟩:=ha;refine (I.hok b ob e).stay (fun c w' hc q=>(hs.2 c ?_).trans q) (fun _ q=>q) fun _ _ q=>q;rintro rfl
   rcases hc with rfl | hc
   . rw[hfree] at e;cases e
   . rw[hfree] at hc;cases hc
 rcases hx with hk | hk
 . refine wpAny_storeName_local hk hn (fun h' hn' hs=>?_) hcls;obtain⟨oL,_,_,hoL,_⟩:=id hn;refine h _ ⟨I.ok,I.os,I.bare,⟨fun b o e n hb hx=>?_,fun b o e n hb hx=>?_,I.base.free,fun b o e hx=>?_,I.base.tups,I.base.frzs,I.base.tbls⟩,⟨_,hn',fun j y v' e1 e2 e3=>?_⟩,fun y c e=>?_,I.free,I.freeC,fun p hp=>?_,tracked ⟨oL,hoL,I.free⟩ hs,by simpa using I.len⟩ ⟨_,hs,.inl rfl⟩
   . exact (hs.2 b (AC (Ao (Aj e) I.ok.above))).trans (I.base.keep b o e n hb hx)
   . obtain⟨sl,e1⟩:=I.base.slot b o e n hb hx;exact⟨sl,(hs.2 b (AC (Ao (Aj e) I.ok.above))).trans e1⟩
   . obtain⟨o',e1⟩:=I.base.there b o e hx;exact⟨o',(hs.2 b (AC (Ao (Aj e) I.ok.above))).trans e1⟩
   . by_cases hj:j=i
     . subst hj;rw[hi] at e1;cases e1;rw[BM hiσ] at e2;cases e2;exact⟨u,r,.inl ⟨hk,by simp⟩⟩
     . rw[AB (AM hj)] at e2;obtain⟨u',r',q⟩:=hl j y v' e1 e2 e3;refine⟨u',r',?_⟩
       rcases q with ⟨k,e⟩ | ⟨k,c,e,z⟩
       . refine .inl ⟨k,?_⟩;have:y≠x:=fun e=>hj (zgx hN e1 (e ▸ hi));simp[this,e]
       . exact .inr ⟨k,c,e,z.sameBut hs (cne y c e)⟩
   . obtain⟨w',z⟩:=I.cell y c e;exact⟨w',z.sameBut hs (cne y c e)⟩
   . obtain⟨e,n,ne,nf,d⟩:=I.pin p hp;exact⟨(hs.2 p.1 ne).trans e,n,ne,nf,d⟩
 . have hfn:X.fn x=true:=by
     rcases hf with z | z
     . exact z
     . rw[z] at hk;cases hk
   obtain⟨c,hc⟩:=I.ok.has x (.inl hk);obtain⟨w',z⟩:=I.cell x c hc;refine wpAny_storeName_cell I.ok.kind hk hc z (fun h' hc' hs=>?_);obtain⟨oc,hoc,hocd⟩:=id z;refine h { s with heap:=h' } ⟨I.ok,I.os,I.bare,⟨fun b o e n hb hx=>?_,fun b o e n hb hx=>?_,I.base.free,fun b o e hx=>?_,I.base.tups,I.base.frzs,I.base.tbls⟩,⟨m,hn.sameBut hs (AM (cne x c hc)),fun j y v' e1 e2 e3=>?_⟩,fun y c' e=>?_,I.free,I.freeC,fun p hp=>?_,tracked ⟨oc,hoc,I.freeC x c hc⟩ hs,by simpa using I.len⟩ ⟨c,hs,.inr hc⟩
   . exact (hs.2 b (AC (Ao (Aj e) (I.ok.cab x c hfn hc)))).trans (I.base.keep b o e n hb hx)
   . obtain⟨sl,e1⟩:=I.base.slot b o e n hb hx;exact⟨sl,(hs.2 b (AC (Ao (Aj e) (I.ok.cab x c hfn hc)))).trans e1⟩
   . obtain⟨o',e1⟩:=I.base.there b o e hx;exact⟨o',(hs.2 b (AC (Ao (Aj e) (I.ok.cab x c hfn hc)))).trans e1⟩
   . by_cases hj:j=i
     . subst hj;rw[hi] at e1;cases e1;rw[BM hiσ] at e2;cases e2;exact⟨u,r,.inr ⟨.inl hk,c,hc,hc'⟩⟩
     . rw[AB (AM hj)] at e2;obtain⟨u',r',q⟩:=hl j y v' e1 e2 e3;refine⟨u',r',?_⟩
       rcases q with q | ⟨k,c',e,z'⟩
       . exact .inl q
       . refine .inr ⟨k,c',e,z'.sameBut hs ?_⟩;rintro rfl;exact hj (zgx hN e1 (I.ok.inj _ _ _ e hc ▸ hi))
   . by_cases hcc:c'=c
     . subst hcc;exact⟨_,hc'⟩
     . obtain⟨w2,z2⟩:=I.cell y c' e;exact⟨w2,z2.sameBut hs hcc⟩
   . obtain⟨e,n,ne,nf,d⟩:=I.pin p hp;refine⟨(hs.2 p.1 ?_).trans e,n,ne,nf,d⟩;intro q;rw[q,hoc] at e;have q':oc=p.2:=As e;exact d w' (by rw[<-q'];exact hocd)
theorem zf7{M:Model}{A:Around}{E:Value->Shared->Prop}{i:Nat}{x:Str}{v:V}{u:Value}{Q:Unit->Shared->Prop}(I:Inv X pins σ H s)(hN:X.N.Nodup)(hi:X.N[i]?=some x)(hx:Loc X.env.scope x)(r:RelV v u)
   (h:∀ s',Inv X pins (σ.set i (some v)) H s'->Q () s') (hf:X.fn x=true\/X.env.scope.names.lookup x=some .local:=by first | exact .inl rfl | exact .inr rfl | assumption):wpAny M A (storeName X.env x u) Q E s :=
 zho I hN hi hx r (fun s' I' _=>h s' I') hf
theorem Inv.call'{s':Shared}{ch:List Addr}(I:Inv X pins σ H s)(ho:s'.os=s.os)(u:Un (frs X.stack) ch H H' s.heap s'.heap)(hok:HOk X.prog X.w H' s'.heap)(hg:AllBare s'.gens)
   (hch:∀ b∈ch,(b∈X.ex\/X.s₀.heap.objs.size<=b)/\b≠X.env.locals/\(∀ x c,X.env.cells.lookup x=some c->c≠b)/\∀ p∈X.pn++pins,p.1≠b):Inv X pins σ H' s':=by
 obtain⟨h',g',d',t',o'⟩:=s';have e:o'=s.os:=ho;subst e;exact I.call (g':=g') (t':=t') (d':=d') u hok hg hch
end
noncomputable abbrev XK:=Value->Option Addr->Hp->Prop
noncomputable abbrev St:=List (Option V)
noncomputable abbrev VK:=V->Hp->Prop
noncomputable abbrev TE:=St->Hp->VK->Prop
noncomputable abbrev TT:=St->Hp->(Bool->Hp->Prop)->Prop
noncomputable abbrev TA:=St->Hp->(List V->Hp->Prop)->Prop
structure Ends where
 nx:St->Hp->Prop
 rt:VK
 bk:St->Hp->Prop:=fun _ _=>False
 ct:St->Hp->Prop:=fun _ _=>False
noncomputable abbrev TS:=Ends->St->Hp->Prop
def EP(X:Cx)(pins:List (Addr×Obj))(σ:St)(Q:VK)(u:Value)(s':Shared):Prop:=∃ v H',Inv X pins σ H' s'/\RelV v u/\Q v H'
def TP(X:Cx)(pins:List (Addr×Obj))(σ:St)(Q:Bool->Hp->Prop)(b:Bool)(s':Shared):Prop:=∃ H',Inv X pins σ H' s'/\Q b H'
def AP(X:Cx)(pins:List (Addr×Obj))(σ:St)(Q:List V->Hp->Prop)(us:List Value)(s':Shared):Prop:=∃ vs H',Inv X pins σ H' s'/\Vals vs us/\Q vs H'
def SP(X:Cx)(pins:List (Addr×Obj))(D:Ends)(f:Flow)(s':Shared):Prop :=
 match f with
 | .next=>∃ σ' H',Inv X pins σ' H' s'/\D.nx σ' H'
 | .brk=>∃ σ' H',Inv X pins σ' H' s'/\D.bk σ' H'
 | .cont=>∃ σ' H',Inv X pins σ' H' s'/\D.ct σ' H'
 | .ret u=>∃ v σ' H',Inv X pins σ' H' s'/\RelV v u/\D.rt v H'
def PE(X:Cx)(e:Expr)(t:TE):Prop :=
 ∀ (pins:List (Addr×Obj)) (s:Shared) (σ:St) (H:Hp) (Q:VK),Inv X pins σ H s->t σ H Q->wpAny (model X.prog X.w) X.A (eval e X.env) (EP X pins σ Q) X.xe s
def PT(X:Cx)(e:Expr)(t:TT):Prop :=
 ∀ (pins:List (Addr×Obj)) (s:Shared) (σ:St) (H:Hp) (Q:Bool->Hp->Prop),Inv X pins σ H s->t σ H Q->wpAny (model X.prog X.w) X.A (isTrue e X.env (eval e X.env)) (TP X pins σ Q) X.xe s
def PW(X:Cx)(e:Expr)(t:TT):Prop :=
 ∀ (whole:Sem Value) (pins:List (Addr×Obj)) (s:Shared) (σ:St) (H:Hp) (Q:Bool->Hp->Prop),Inv X pins σ H s->t σ H Q->wpAny (model X.prog X.w) X.A (isTrue e X.env whole) (TP X pins σ Q) X.xe s
theorem PW.pt{X:Cx}{e:Expr}{t:TT}(h:PW X e t):PT X e t:=h _
def PA(X:Cx)(es:List Expr)(t:TA):Prop :=
 ∀ (pos:Pos) (pins:List (Addr×Obj)) (s:Shared) (σ:St) (H:Hp) (Q:List V->Hp->Prop),Inv X pins σ H s->t σ H Q->wpAny (model X.prog X.w) X.A (spliced (backTo pos (starEach es X.env))) (AP X pins σ Q) X.xe s
def PS(X:Cx)(st:Stmt)(t:TS):Prop :=
 ∀ (pins:List (Addr×Obj)) (s:Shared) (σ:St) (H:Hp) (D:Ends),Inv X pins σ H s->t D σ H->wpAny (model X.prog X.w) X.A (exec st X.env) (SP X pins D) X.xe s
def PSs(X:Cx)(st:List Stmt)(t:TS):Prop :=
 ∀ (pins:List (Addr×Obj)) (s:Shared) (σ:St) (H:Hp) (D:Ends),Inv X pins σ H s->t D σ H->wpAny (model X.prog X.w) X.A (execs st X.env) (SP X pins D) X.xe s
theorem thn{α:Type}{t:Sem α}{Q Q':α->Shared->Prop}{M:Model}{A:Around}{E:Value->Shared->Prop}{s:Shared}(h:wpAny M A t Q E s)(hQ:∀ a s,Q a s->Q' a s):wpAny M A t Q' E s:=Bf h hQ fun _ _ x=>x
section
variable {X:Cx}
noncomputable def tVar(i:Nat):TE:=fun σ H Q=>∃ v,σ[i]?=some (some v)/\Q v H
noncomputable def tC(v:V):TE:=fun _ H Q=>Q v H
theorem zme{i:Nat}{x:Str}{pos:Pos}(hN:X.N[i]?=some x)(hv:Vis X.env.scope x)(hd:(x==("__debug__":Str))=false:=by decide)(hcd:(x==("__classdict__":Str))=false:=by decide):PE X (.Name x pos) (tVar i):=by
 intro pins s σ H Q I h;obtain⟨v,e,h⟩:=h;obtain⟨m,hn,hl⟩:=I.loc;obtain⟨u,r,l⟩:=hl i x v hN e hv;have fin:EP X pins σ Q u s:=⟨v,H,I,r,h⟩
 rcases l with ⟨hk,hm⟩ | ⟨hk,c,hc,hcell⟩
 . exact Ed (wpAny_loadName_local I.ok.kind hk hn hm fin) hd
 . rcases hk with hk | hk
   . exact Ed (wpAny_loadName_cell I.ok.kind hk hc hcell fin) hd
   . exact Ed (wpAny_loadName_free I.ok.kind hk hc hcell fin hcd) hd
theorem zml{i j pos}:PE X (.Constant (.int i) j pos) (tC (.int i)):=fun _ _ _ H _ I h=>wpAny_Constant_int ⟨.int i,H,I.tok _,⟨_,rfl⟩,h⟩
theorem znt{b j pos}:PE X (.Constant (.bool b) j pos) (tC (.bl b)):=fun _ _ _ H _ I h=>Constant_bool ⟨.bl b,H,I,rfl,h⟩
theorem zmj{j pos}:PE X (.Constant .none j pos) (tC .non):=fun _ _ _ H _ I h=>Constant_none ⟨.non,H,I,rfl,h⟩
theorem zmg{x j pos}:PE X (.Constant (.str x) j pos) (tC (.str x)):=fun _ _ _ H _ I h=>Calls.Constant_str ⟨.str x,H,I.tok _,⟨_,rfl⟩,h⟩
def Gl(X:Cx)(x:Str):Prop:=X.env.kindOf x=some .globalImplicit
theorem ziw{E:Value->Shared->Prop}{pins:List (Addr×Obj)}{s:Shared}{σ:St}{H:Hp}{x:Str}{u:Value}{pos:Pos}{Q:Value->Shared->Prop}(I:Inv X pins σ H s)(hg:Gl X x)(hm:X.mg x=some u)(h:Q u s)
   (hd:(x==("__debug__":Str))=false:=by decide):wpAny (model X.prog X.w) X.A (eval (.Name x pos) X.env) Q E s :=
 CP I.ok.kind hg (Calls.loadGlobal_global (by rw[I.ok.glob];exact I.mod.glob.keeps I.bk) hm h) hd
theorem zfK{E:Value->Shared->Prop}{pins:List (Addr×Obj)}{s:Shared}{σ:St}{H:Hp}{x:Str}{u:Value}{pos:Pos}{Q:Value->Shared->Prop}(I:Inv X pins σ H s)(hg:Gl X x)(hm:X.mg x=none)(hv:bootBuiltins x=some u)(h:Q u s)
   (hn:x≠"__name__":=by decide) (hd:(x==("__debug__":Str))=false:=by decide):wpAny (model X.prog X.w) X.A (eval (.Name x pos) X.env) Q E s:=by
 obtain⟨mb,h1,h2⟩:=I.mod.blt;exact CP I.ok.kind hg (Calls.loadGlobal_builtin (by rw[I.ok.glob];exact I.mod.glob.keeps I.bk) hm (by rw[I.ok.blt];exact h1.keeps I.bk) ((h2 x hn).trans hv) h) hd
theorem zkS{x:Str}{v:V}{u:Value}{pos:Pos}(hg:Gl X x)(hm:X.mg x=some u)(r:RelV v u)(hd:(x==("__debug__":Str))=false:=by decide):PE X (.Name x pos) (tC v) :=
 fun _ _ _ H _ I h=>ziw I hg hm ⟨v,H,I,r,h⟩ hd
theorem zkW{x:Str}{v:V}{u:Value}{pos:Pos}(hg:Gl X x)(hm:X.mg x=none)(hv:bootBuiltins x=some u)(r:RelV v u)(hn:x≠"__name__":=by decide)(hd:(x==("__debug__":Str))=false:=by decide):PE X (.Name x pos) (tC v) :=
 fun _ _ _ H _ I h=>zfK I hg hm hv ⟨v,H,I,r,h⟩ hn hd
variable {a b:Expr} {ta tb:TE} {pos:Pos}
def PC(X:Cx)(op:CmpOp)(a b:Expr)(t:TE):Prop :=
 ∀ (pins:List (Addr×Obj)) (s:Shared) (σ:St) (H:Hp) (Q:VK),Inv X pins σ H s->t σ H Q ->
   wpAny (model X.prog X.w) X.A (eval a X.env) (fun v s₁=>wpAny (model X.prog X.w) X.A (eval b X.env) (fun u s₂=>wpAny (model X.prog X.w) X.A (compareOp op v u) (EP X pins σ Q) X.xe s₂) X.xe s₁) X.xe s
noncomputable def tB(t:TE):TT:=fun σ H Q=>t σ H fun x H1=>∃ c,x=.bl c/\Q c H1
theorem zmm{op:CmpOp}{t:TE}(h:PC X op a b t)(h1:behindInMarks op b=false:=by first | exact nobehind _ (by decide) (by decide) | rfl):PE X (.Compare a [op] [b] pos) t:=fun pins s σ H Q I hw=>wpAny_Compare1 (h pins s σ H Q I hw) h1
theorem zl5{op:CmpOp}{t:TE}(h:PC X op a b t)(h1:behindInMarks op b=false:=by first | exact nobehind _ (by decide) (by decide) | rfl):PT X (.Compare a [op] [b] pos) (tB t):=by
 intro pins s σ H Q I hw;refine Dw (thn (h pins s σ H _ I hw) fun v s1 h1=>thn h1 fun u s2 h2=>thn h2 ?_) h1;rintro c s3 ⟨x,H1,I1,r1,q1⟩;obtain⟨d,rfl,q⟩:=q1;cases r1;exact A4 ⟨H1,I1,q⟩
variable {tA tB':TT} {rest:List Expr}
noncomputable def tAnd(t u:TT):TT:=fun σ H Q=>t σ H fun c H1=>if c=true then u σ H1 Q else Q false H1
noncomputable def tOr(t u:TT):TT:=fun σ H Q=>t σ H fun c H1=>if c=true then Q true H1 else u σ H1 Q
noncomputable def tNot(t:TT):TT:=fun σ H Q=>t σ H fun c H1=>Q (!c) H1
theorem pw_and1(ha:PT X a tA):PW X (.BoolOp .And [a] pos) tA:=by
 intro wh pins s σ H Q I h;refine isTrue_and (thn (ha pins s σ H Q I h) fun c s1 e=>?_)
 cases c with
 | true=>exact isTrue_and_nil e
 | false=>exact e
theorem pw_or1(ha:PT X a tA):PW X (.BoolOp .Or [a] pos) tA:=by
 intro wh pins s σ H Q I h;refine isTrue_or (thn (ha pins s σ H Q I h) fun c s1 e=>?_)
 cases c with
 | false=>exact isTrue_or_nil e
 | true=>exact e
theorem pw_and(ha:PT X a tA)(hb:PW X (.BoolOp .And (b::rest) pos) tB'):PW X (.BoolOp .And (a::b::rest) pos) (tAnd tA tB'):=by
 intro wh pins s σ H Q I h;refine isTrue_and (thn (ha pins s σ H _ I h) ?_);rintro c s1 ⟨H1,I1,q1⟩
 cases c with
 | true=>exact hb wh pins s1 σ H1 Q I1 q1
 | false=>exact⟨H1,I1,q1⟩
theorem pw_or(ha:PT X a tA)(hb:PW X (.BoolOp .Or (b::rest) pos) tB'):PW X (.BoolOp .Or (a::b::rest) pos) (tOr tA tB'):=by
 intro wh pins s σ H Q I h;refine isTrue_or (thn (ha pins s σ H _ I h) ?_);rintro c s1 ⟨H1,I1,q1⟩
 cases c with
 | true=>exact⟨H1,I1,q1⟩
 | false=>exact hb wh pins s1 σ H1 Q I1 q1
theorem zl4(ha:PT X a tA):PT X (.UnaryOp .Not a pos) (tNot tA):=by
 intro pins s σ H Q I h;exact isTrue_not (ha pins s σ H (fun c H1=>Q (!c) H1) I h)
noncomputable def znh(ta tb:TE):TE:=fun σ H Q=>ta σ H fun x H1=>∃ c,x=.bl c/\if c=true then tb σ H1 Q else Q (.bl false) H1
noncomputable def znb(ta:TE):TE:=fun σ H Q=>ta σ H fun x H1=>∃ c,x=.bl c/\Q (.bl (!c)) H1
theorem zmh{op}{t:TE}(h:PE X a t):PE X (.BoolOp op [a] pos) t:=fun pins s σ H Q I hw=>BoolOp_one (h pins s σ H Q I hw)
theorem zmn(ha:PE X a ta)(hb:PE X (.BoolOp .And (b::rest) pos) tb):PE X (.BoolOp .And (a::b::rest) pos) (znh ta tb):=by
 intro pins s σ H Q I h;refine BoolOp_and (thn (ha pins s σ H _ I h) ?_);rintro v s1 ⟨x,H1,I1,r1,q1⟩;obtain⟨c,rfl,q1⟩:=q1;cases r1;refine A4 ?_
 cases c with
 | true=>exact hb pins s1 σ H1 Q I1 q1
 | false=>exact⟨.bl false,H1,I1,rfl,q1⟩
theorem zmi(ha:PE X a ta):PE X (.UnaryOp .Not a pos) (znb ta):=by
 intro pins s σ H Q I h;refine UnaryOp_ (thn (ha pins s σ H _ I h) ?_);rintro v s1 ⟨x,H1,I1,r1,q1⟩;obtain⟨c,rfl,q1⟩:=q1;cases r1;exact not_of (A4 ⟨.bl (!c),H1,I1,rfl,q1⟩)
end
def SqL(K:Ab)(H:Hp)(a:Addr)(xs:List V):Prop :=
 Rd H a (.lst xs) \/
   ∃ (o:Obj) (its:Array Value) (n:Nat),K.lookup a=some o/\o.cls=.type "list"/\o.dict=none/\o.data=.seq its n/\its.size<=sizeLine/\Vals xs its.toList
def SqT(K:Ab)(H:Hp)(a:Addr)(xs:List V):Prop :=
 Rd H a (.tup xs) \/
   ∃ (o:Obj) (its:Array Value) (n:Nat),K.lookup a=some o/\o.cls=.type "tuple"/\o.data=.seq its n/\its.size<=sizeLine/\Vals xs its.toList
noncomputable def absV:Value->Option V
 | .none=>some .non
 | .bool b=>some (.bl b)
 | .int i _=>some (.int i)
 | .str x _=>some (.str x)
 | .bytes b _=>some (.byt b)
 | .float b _=>some (.flt b)
 | .ref a=>some (.ref a)
 | .type n=>some (.ty n)
 | _=>none
theorem RelV.abs{x:V}{u:Value}(r:RelV x u):absV u=some x:=by
 cases x with
 | non=>cases r;rfl
 | bl _=>cases r;rfl
 | int _=>obtain⟨t,rfl⟩:=r;rfl
 | str _=>obtain⟨t,rfl⟩:=r;rfl
 | byt _=>obtain⟨t,rfl⟩:=r;rfl
 | flt _=>obtain⟨t,rfl⟩:=r;rfl
 | ref _=>cases r;rfl
 | ty _=>cases r;rfl
theorem RelV.inj{x y:V}{u:Value}(r:RelV x u)(q:RelV y u):x=y:=As (r.abs.symm.trans q.abs)
theorem Vals.inj:∀ {xs ys:List V} {us:List Value},Vals xs us->Vals ys us->xs=ys
 | _,_,_,.nil,.nil=>rfl
 | _,_,_,.cons r t,.cons r' t'=>by rw[r.inj r',Vals.inj t t']
section
variable {X:Cx} {pins:List (Addr×Obj)} {σ:St} {H:Hp} {s:Shared} {a:Addr} {xs ys:List V}
theorem SqL.of{K:Ab}(h:H a=some (.lst xs)):SqL K H a xs:=.inl (.inl h)
theorem SqT.of{K:Ab}(h:H a=some (.tup xs)):SqT K H a xs:=.inl (.inl h)
theorem Inv.list(I:Inv X pins σ H s)(h:SqL X.K H a xs):∃ its:List Value,Vals xs its/\PlainL s.heap a its.toArray/\xs.length<=sizeLine:=by
 rcases h with h | ⟨o,its,n,hk,hc,hd,hs,hz,r⟩
 . obtain⟨z,its,n,r,e⟩:=h.ok I.hok;exact⟨its,r,⟨_,n,e,rfl,rfl,rfl⟩,z⟩
 . refine⟨its.toList,r,⟨o,n,I.kIn a o hk,hc,hd,by simpa using hs⟩,?_⟩;have e:=r.length;simp only[Ar] at e;omega
theorem Inv.tuple(I:Inv X pins σ H s)(h:SqT X.K H a xs):∃ its:List Value,Vals xs its/\IsTup s.heap a its.toArray/\xs.length<=sizeLine:=by
 rcases h with h | ⟨o,its,n,hk,hc,hs,hz,r⟩
 . obtain⟨z,its,r,p⟩:=h.ok I.hok;exact⟨its,r,p.t,z⟩
 . refine⟨its.toList,r,⟨o,I.kIn a o hk,hc,n,by simpa using hs⟩,?_⟩;have e:=r.length;simp only[Ar] at e;omega
theorem Inv.list_inj(I:Inv X pins σ H s)(h:SqL X.K H a xs)(h':SqL X.K H a ys):xs=ys:=by
 obtain⟨its,r,⟨o,n,e,_,_,d⟩,_⟩:=I.list h;obtain⟨its',r',⟨o',n',e',_,_,d'⟩,_⟩:=I.list h';rw[e] at e';cases e';rw[d] at d';injection d' with d1 _
 have:its=its':=by simpa using congrArg Ez d1
 subst this;exact r.inj r'
theorem Inv.tuple_inj(I:Inv X pins σ H s)(h:SqT X.K H a xs)(h':SqT X.K H a ys):xs=ys:=by
 obtain⟨its,r,⟨o,e,_,n,d⟩,_⟩:=I.tuple h;obtain⟨its',r',⟨o',e',_,n',d'⟩,_⟩:=I.tuple h';rw[e] at e';cases e';rw[d] at d';injection d' with d1 _
 have:its=its':=by simpa using congrArg Ez d1
 subst this;exact r.inj r'
end
noncomputable abbrev Cx.wish (X:Cx) (E:Value->Shared->Prop):Cx:={ X with xe:=E }
noncomputable abbrev Cx.nox (X:Cx):Cx:=X.wish fun _ _=>False
theorem Cx.Ok.wish{X:Cx}(ok:X.Ok)(E:Value->Shared->Prop):(X.wish E).Ok :=
 ⟨ok.mod,ok.kind,ok.glob,ok.blt,ok.above,ok.inj,ok.has,ok.cab,ok.hd,ok.frames,ok.stk,ok.exf,ok.bs,ok.bsz,ok.noex,ok.exfs,ok.funs,ok.frf⟩
theorem Cx.Ok.unwish{X:Cx}{E:Value->Shared->Prop}(ok:(X.wish E).Ok):X.Ok :=
 ⟨ok.mod,ok.kind,ok.glob,ok.blt,ok.above,ok.inj,ok.has,ok.cab,ok.hd,ok.frames,ok.stk,ok.exf,ok.bs,ok.bsz,ok.noex,ok.exfs,ok.funs,ok.frf⟩
section
variable {X:Cx} {pins:List (Addr×Obj)} {σ:St} {H:Hp} {s:Shared} {E:Value->Shared->Prop}
theorem Inv.wish(I:Inv X pins σ H s)(E:Value->Shared->Prop):Inv (X.wish E) pins σ H s:=⟨I.ok.wish E,I.os,I.bare,I.base,I.loc,I.cell,I.free,I.freeC,I.pin,I.hok,I.len⟩
theorem Inv.unwish(I:Inv (X.wish E) pins σ H s):Inv X pins σ H s:=⟨I.ok.unwish,I.os,I.bare,I.base,I.loc,I.cell,I.free,I.freeC,I.pin,I.hok,I.len⟩
theorem SP.unwish{D:Ends}{f:Flow}{s':Shared}(h:SP (X.wish E) pins D f s'):SP X pins D f s':=by
 cases f with
 | next=>obtain⟨σ',H',I,q⟩:=h;exact⟨σ',H',I.unwish,q⟩
 | brk=>obtain⟨σ',H',I,q⟩:=h;exact⟨σ',H',I.unwish,q⟩
 | cont=>obtain⟨σ',H',I,q⟩:=h;exact⟨σ',H',I.unwish,q⟩
 | ret u=>obtain⟨v,σ',H',I,r,q⟩:=h;exact⟨v,σ',H',I.unwish,r,q⟩
theorem PSs.nox{st:List Stmt}{t:TS}(h:PSs X.nox st t):PSs X st t:=fun pins s σ H D I hw =>
 Bf (h pins s σ H D (I.wish _) hw) (fun _ _ q=>q.unwish) fun _ _ z=>False.elim z
end
section
variable {X:Cx} {st:Stmt} {rest:List Stmt} {t u:TS} {e:Expr} {te:TE} {pos:Pos}
noncomputable def znc:TS:=fun D σ H=>D.nx σ H
noncomputable def tSeq(t u:TS):TS:=fun D σ H=>t { D with nx:=u D } σ H
theorem zkK:PSs X [] znc:=fun _ _ σ H _ I h=>Cs ⟨σ,H,I,h⟩
theorem zi9(h1:PS X st t)(h2:PSs X rest u):PSs X (st::rest) (tSeq t u):=by
 intro pins s σ H D I h;refine wpAny_execs_cons (thn (h1 pins s σ H { D with nx:=u D } I h) fun f s1 q=>?_)
 cases f with
 | next =>
   obtain⟨σ',H',I',q⟩:=q;exact h2 pins s1 σ' H' D I' q
 | ret v=>exact q
 | brk=>exact q
 | cont=>exact q
theorem zkJ(h1:PS X st t):PSs X [st] t:=by
 intro pins s σ H D I h;refine wpAny_execs_cons (thn (h1 pins s σ H D I h) fun f s1 q=>?_)
 cases f with
 | next=>exact Cs q
 | ret v=>exact q
 | brk=>exact q
 | cont=>exact q
theorem Inv.quiet{pins:List (Addr×Obj)}{σ:St}{H:Hp}{s:Shared}(I:Inv X pins σ H s):interactive X.env=false:=by simp[interactive,I.ok.kind]
noncomputable def znd(te:TE):TS:=fun D σ H=>te σ H fun _ H1=>D.nx σ H1
theorem zkL(he:PE X e te)(hs:swapsWith e none pos.line X.env=pure false:=by rfl):PS X (.Expr e pos) (znd te):=by
 intro pins s σ H D I h;exact wpAny_Expr_any (thn (he pins s σ H _ I h) fun v s1 ⟨x,H1,I1,r1,q1⟩=>⟨σ,H1,I1,q1⟩) I.quiet hs
noncomputable def tRet(te:TE):TS:=fun D σ H=>te σ H D.rt
theorem zl7(he:PE X e te):PS X (.Return (some e) pos) (tRet te):=by
 intro pins s σ H D I h;exact wpAny_Return_some (thn (he pins s σ H _ I h) fun v s1 ⟨x,H1,I1,r1,q1⟩=>⟨x,σ,H1,I1,r1,q1⟩)
noncomputable def tIfS(c:TT)(t u:TS):TS:=fun D σ H=>c σ H fun b H1=>if b=true then t D σ H1 else u D σ H1
theorem zno{c:Expr}{a b:List Stmt}{tc:TT}(hc:PT X c tc)(ha:PSs X a t)(hb:PSs X b u):PS X (.If c a b pos) (tIfS tc t u):=by
 intro pins s σ H D I h;refine wpAny_If (thn (hc pins s σ H _ I h) ?_);rintro d s1 ⟨H1,I1,q1⟩
 cases d with
 | true=>exact ha pins s1 σ H1 D I1 q1
 | false=>exact hb pins s1 σ H1 D I1 q1
end
noncomputable abbrev TG:=V->St->Hp->(St->Hp->Prop)->Prop
noncomputable abbrev TGs:=List V->St->Hp->(St->Hp->Prop)->Prop
def PG(X:Cx)(target:Expr)(t:TG):Prop :=
 ∀ (pins:List (Addr×Obj)) (s:Shared) (σ:St) (H:Hp) (v:V) (u:Value) (Q:St->Hp->Prop),Inv X pins σ H s->RelV v u->t v σ H Q ->
   wpAny (model X.prog X.w) X.A (assign target X.env u) (fun _ s'=>∃ σ' H',Inv X pins σ' H' s'/\Q σ' H') X.xe s
def PGs(X:Cx)(ts:List Expr)(t:TGs):Prop :=
 ∀ (pins:List (Addr×Obj)) (s:Shared) (σ:St) (H:Hp) (vs:List V) (us:List Value) (Q:St->Hp->Prop),Inv X pins σ H s->Vals vs us->t vs σ H Q ->
   wpAny (model X.prog X.w) X.A (assignInOrder ((assignEach ts X.env).map (·.2)) us) (fun _ s'=>∃ σ' H',Inv X pins σ' H' s'/\Q σ' H') X.xe s
noncomputable abbrev TSet:=V->V->V->Hp->(Hp->Prop)->Prop
def PSet(X:Cx)(t:TSet):Prop :=
 ∀ (pins:List (Addr×Obj)) (s:Shared) (σ:St) (H:Hp) (o i v:V) (ov iv u:Value) (Q:Hp->Prop),Inv X pins σ H s->RelV o ov->RelV i iv->RelV v u->t o i v H Q ->
   wpAny (model X.prog X.w) X.A (setItem ov iv u) (fun _ s'=>∃ H',Inv X pins σ H' s'/\Q H') X.xe s
section
variable {X:Cx} {pos:Pos}
noncomputable def zm6(i:Nat):TG:=fun v σ H Q=>Q (σ.set i (some v)) H
theorem zkQ{i:Nat}{x:Str}(hN:X.N.Nodup)(hi:X.N[i]?=some x)(hx:Loc X.env.scope x)(hf:X.fn x=true\/X.env.scope.names.lookup x=some .local:=by first | exact .inl rfl | exact .inr rfl | assumption):PG X (.Name x pos) (zm6 i):=by
 intro pins s σ H v u Q I r h;exact wpAny_assign_Name (zf7 I hN hi hx r (fun s' I'=>⟨_,H,I',h⟩) hf)
noncomputable def gNil:TGs:=fun vs σ H Q=>vs=[]/\Q σ H
noncomputable def znH(t:TG)(u:TGs):TGs:=fun vs σ H Q=>∃ v r,vs=v::r/\t v σ H fun σ' H'=>u r σ' H' Q
theorem zkP:PGs X [] gNil:=by
 intro pins s σ H vs us Q I r h;obtain⟨e,h⟩:=h;subst e;cases r;exact assignInOrder_nil ⟨σ,H,I,h⟩
theorem zjd{e:Expr}{es:List Expr}{t:TG}{u:TGs}(h1:PG X e t)(h2:PGs X es u)
   (hs:(assignEach (e::es) X.env).map (·.2)=assign e X.env::(assignEach es X.env).map (·.2):=by rfl):PGs X (e::es) (znH t u):=by
 intro pins s σ H vs us Q I r h;obtain⟨v,vr,e1,h⟩:=h;subst e1
 cases r with
 | cons r rr =>
   rw[hs];refine assignInOrder_cons (thn (h1 pins s σ H _ _ _ I r h) ?_);rintro _ s1 ⟨σ1,H1,I1,q1⟩;exact h2 pins s1 σ1 H1 _ _ Q I1 rr q1
noncomputable def gTup(K:Ab)(n:Nat)(t:TGs):TG:=fun v σ H Q=>∃ a xs,v=.ref a/\SqT K H a xs/\xs.length=n/\t xs σ H Q
theorem zmc{es:List Expr}{k:Nat}{t:TGs}{n:Nat}(hc:X.calm=true)(h:PGs X es t)
   (hn:(assignEach es X.env).length=n:=by rfl) (hst:(assignEach es X.env).findIdx? (·.1)=none:=by rfl):PG X (.Tuple es k pos) (gTup X.K n t):=by
 intro pins s σ H v u Q I r hw;obtain⟨a,xs,e1,hq,hl,hw⟩:=hw;subst e1;cases r;obtain⟨its,rv,ht,hz⟩:=I.tuple hq;refine assign_Tuple_tuple (I.ok.hd hc) ht (by simp[hn,<-hl,rv.length]) hst fun h' hx=>?_;have I1:Inv X pins σ H { s with heap:=h' }:=I.kept (t':=s.toks) fun b o e=>hx b o (AC (Aj e)) e;exact h pins _ σ H xs _ Q I1 (by simpa using rv) hw
noncomputable def gSub(to ti:TE)(t:TSet):TG:=fun v σ H Q=>to σ H fun o H1=>ti σ H1 fun i H2=>t o i v H2 fun H3=>Q σ H3
theorem zmd{o i:Expr}{to ti:TE}{t:TSet}(ho:PE X o to)(hi:PE X i ti)(hs:PSet X t)
   (ha:∀ v,assign (.Subscript o i pos) X.env v=(do
     let ov <-holding [v] (eval o X.env)
     let iv <-holding [v,ov] (eval i X.env)
     standAt pos
     holding [v,ov,iv] (setItem ov iv v)
     release [v,ov,iv] []):=by intro _;rfl):PG X (.Subscript o i pos) (gSub to ti t):=by
 intro pins s σ H v u Q I r h;rw[ha];refine Aa (Bj (thn (ho pins s σ H _ I h) ?_));rintro ov s1 ⟨x,H1,I1,r1,q1⟩;refine Aa (Bj (thn (hi pins s1 σ H1 _ I1 q1) ?_));rintro iv s2 ⟨y,H2,I2,r2,q2⟩;refine Aa (wpAny_standAt (Aa (Bj (thn (hs pins s2 σ H2 x y v ov iv u _ I2 r1 r2 r q2) ?_))));rintro _ s3 ⟨H3,I3,q3⟩;exact wpAny_release ⟨σ,H3,I3,q3⟩
noncomputable def tAsg(te:TE)(g:TG):TS:=fun D σ H=>te σ H fun x H1=>g x σ H1 D.nx
theorem zl9{tg e:Expr}{te:TE}{g:TG}(he:PE X e te)(hg:PG X tg g)(hs:swapsWithSole [tg] e pos.line X.env=pure false:=by rfl)(hw:swappedStores [tg] e X.env=pure none:=by rfl)
   (h1:(assignEach [tg] X.env).map (·.2)=[assign tg X.env]:=by rfl):PS X (.Assign [tg] e pos) (tAsg te g):=by
 intro pins s σ H D I h;refine wpAny_Assign_stores (thn (he pins s σ H _ I h) ?_) hs hw;rintro v s1 ⟨x,H1,I1,r1,q1⟩;rw[h1];exact thn (hg pins s1 σ H1 x v _ I1 r1 q1) fun _ s2 q=>q
theorem zl6{i:Nat}{x:Str}{e:Expr}{te:TE}{pos':Pos}(hN:X.N.Nodup)(hi:X.N[i]?=some x)(hx:Loc X.env.scope x)(he:PE X e te)(hs:swapsWith e (some (.Name x pos')) pos.line X.env=pure false:=by rfl)(hf:X.fn x=true\/X.env.scope.names.lookup x=some .local:=by first | exact .inl rfl | exact .inr rfl | assumption) :
   PS X (.Assign [.Name x pos'] e pos) (tAsg te (zm6 i)):=by
 intro pins s σ H D I h;refine wpAny_Assign_Name (thn (he pins s σ H _ I h) ?_) hs;rintro v s1 ⟨y,H1,I1,r1,q1⟩;exact zf7 I1 hN hi hx r1 (fun s2 I2=>⟨_,H1,I2,q1⟩) hf
end
section
variable {X:Cx} {pos:Pos}
noncomputable def zlK(c:TT)(tb:TS):TS:=fun D σ H=>∃ W:Nat->St->Hp->Prop,(∃ m,W m σ H)/\∀ m σ H,W m σ H ->
 c σ H fun b H1=>if b=true then ∃ N:St->Hp->Prop,(∀ σ' H',N σ' H'->∃ m',m' < m/\W m' σ' H')/\tb { D with nx:=N,ct:=N,bk:=D.nx } σ H1 else D.nx σ H1
theorem zja{c:Expr}{body:List Stmt}{tc:TT}{tb:TS}(hp:PassesOwn (model X.prog X.w) X.A X.env X.xe)(hc:PT X c tc)(hb:PSs X body tb):PS X (.While c body [] pos) (zlK tc tb):=by
 intro pins s σ H D I h;obtain⟨W,⟨m0,w0⟩,turn⟩:=h;refine wpAny_While (codeAny_whileLoop (fun n s'=>∃ σ' H',Inv X pins σ' H' s'/\W n σ' H') ?_ m0 ⟨σ,H,I,w0⟩);rintro n s1 ⟨σ1,H1,I1,w1⟩;refine Bx hp (thn (hc pins s1 σ1 H1 _ I1 (turn n σ1 H1 w1)) ?_);rintro b s2 ⟨H2,I2,q2⟩
 cases b with
 | true =>
   obtain⟨N,hN,q2⟩:=q2;rw[if_pos rfl];refine Bx hp (thn (hb pins s2 σ1 H2 _ I2 q2) fun f s3 q3=>?_)
   cases f with
   | next =>
     obtain⟨σ3,H3,I3,n3⟩:=q3;obtain⟨m',hm,w3⟩:=hN σ3 H3 n3;exact⟨m',hm,σ3,H3,I3,w3⟩
   | cont =>
     obtain⟨σ3,H3,I3,n3⟩:=q3;obtain⟨m',hm,w3⟩:=hN σ3 H3 n3;exact⟨m',hm,σ3,H3,I3,w3⟩
   | brk=>exact q3
   | ret v=>exact q3
 | false =>
   rw[if_neg Bb];exact Cs ⟨σ1,H2,I2,q2⟩
end
structure It where
 go:Nat->Hp->Prop
 yld:Nat->Hp->V->Hp->Prop
 stop:Nat->Hp->Prop
def FpOk(X:Cx)(pins:List (Addr×Obj))(H:Hp)(b:Addr):Prop :=
 H b=none/\b≠X.env.locals/\b ∉ X.fs/\(b∈X.ex\/X.s₀.heap.objs.size<=b)/\(∀ x c,X.env.cells.lookup x=some c->c≠b)/\∀ p∈X.pn++pins,p.1≠b
theorem Inv.fpOk{X:Cx}{pins:List (Addr×Obj)}{σ:St}{H H':Hp}{s:Shared}{b:Addr}(I:Inv X pins σ H s)(hb:s.heap.objs.size<=b)(hn:H' b=none):FpOk X pins H' b:=by
 refine⟨hn,Ct (Ao I.lt hb),I.nofs hb,.inr (AD I.sz hb),fun x c e z=>?_,fun p hp z=>?_⟩
 . obtain⟨v,q⟩:=I.cell x c e;exact absurd (Ao q.lt (by rw[z];exact hb)) (A0 _)
 . exact absurd (Ao (Aj (I.pin p hp).1) (by rw[z];exact hb)) (A0 _)
structure Turn(P:Program)(w:World)(K:Ab)(tg:Expr)(J:It)(fp:List Addr)(it:Addr)(tn:Nat->Heap->Prop):Prop where
 mem:it∈fp
 obj:∀ i h,tn i h->∀ b∈fp,∃ o,h.get? b=some o/\∀ v,o.data≠.cell v
 keep:∀ i h h',tn i h->(∀ b∈fp,∀ o,h.get? b=some o->h'.get? b=some o)->tn i h'
 item:∀ (X:Cx),X.prog=P->X.w=w->X.K=K->X.calm=true->∀ (i:Nat) (pins:List (Addr×Obj)) (s:Shared) (σ:St) (H:Hp) (E:Value->Shared->Prop),Inv X pins σ H s->(∀ b∈fp,FpOk X pins H b)->tn i s.heap->J.go i H ->
   wpAny (model P w) X.A (pyNext (.ref it)) (fun r s1=>∃ u,r=some u /\
     wpAny (model P w) X.A (letOwnedTupleGo tg (.ref it) u) (fun _ s2=>∃ x H',Inv X pins σ H' s2/\RelV x u/\J.yld i H x H'/\tn (i+1) s2.heap/\∀ b∈fp,H' b=none) E s1) E s
 done:∀ (X:Cx),X.prog=P->X.w=w->X.K=K->X.calm=true->∀ (i:Nat) (pins:List (Addr×Obj)) (s:Shared) (σ:St) (H:Hp) (E:Value->Shared->Prop),Inv X pins σ H s->(∀ b∈fp,FpOk X pins H b)->tn i s.heap->J.stop i H ->
   wpAny (model P w) X.A (pyNext (.ref it)) (fun r s1=>r=none/\Inv X pins σ H s1) E s
 self:∀ (A:Around) (i:Nat) (s:Shared) (Q:Value->Shared->Prop) (E:Value->Shared->Prop),tn i s.heap->Q (.ref it) s->wpAny (model P w) A (pyIter (.ref it)) Q E s
noncomputable abbrev TI:=St->Hp->(It->Hp->Prop)->Prop
def PIE(X:Cx)(pins:List (Addr×Obj))(σ:St)(tg:Expr)(R:It->Hp->Prop)(itv:Value)(s2:Shared):Prop :=
 ∃ (it:Addr) (fp:List Addr) (tn:Nat->Heap->Prop) (J:It) (H':Hp),itv=.ref it/\Inv X pins σ H' s2/\Turn X.prog X.w X.K tg J fp it tn/\tn 0 s2.heap/\(∀ b∈fp,FpOk X pins H' b)/\R J H'
def PI(X:Cx)(tg iter:Expr)(wi:TI):Prop :=
 ∀ (pins:List (Addr×Obj)) (s:Shared) (σ:St) (H:Hp) (R:It->Hp->Prop),Inv X pins σ H s->wi σ H R ->
   wpAny (model X.prog X.w) X.A (eval iter X.env) (fun v s1=>wpAny (model X.prog X.w) X.A (pyIter v) (PIE X pins σ tg R) X.xe s1) X.xe s
theorem zlD{M:Model}{A:Around}{E:Value->Shared->Prop}{s:Shared}{tg:Expr}{it:Addr}{u:Value}{o:Obj}{n:String}{vs:Array Value}{Q:Unit->Shared->Prop}(ho:s.heap.get? it=some o)(hc:o.cls=.type n)(hd:o.data=.fields vs)
   (hn:["enumerate","zip","dict_itemiterator","dict_reverseitemiterator","odict_iterator","itertools.zip_longest","itertools.pairwise"].contains n=false) (hQ:Q () s):wpAny M A (letOwnedTupleGo tg (.ref it) u) Q E s:=by
 unfold letOwnedTupleGo
 cases tg <;> first
   | exact Ae hQ
   | (cases u <;> first
       | exact Ae hQ
       | (refine Aa (wpAny_load ho ?_)
          rw[hc,hd];show wpAny M A (if (["enumerate","zip","dict_itemiterator","dict_reverseitemiterator","odict_iterator","itertools.zip_longest","itertools.pairwise"].contains n&&vs[0]?==some (rawInt _))=true then _ else _) Q E s;rw[if_neg (by intro h;rw[hn,Bq] at h;cases h)];exact Ae hQ))
noncomputable def Itl(K:Ab)(a:Addr):It :=
 ⟨fun i H=>∃ xs x,SqL K H a xs/\xs[i]?=some x,fun i H x H'=>H'=H/\∀ xs,SqL K H a xs->xs[i]?=some x,fun i H=>∃ xs,SqL K H a xs/\xs.length<=i⟩
noncomputable def Itt(K:Ab)(a:Addr):It :=
 ⟨fun i H=>∃ xs x,SqT K H a xs/\xs[i]?=some x,fun i H x H'=>H'=H/\∀ xs,SqT K H a xs->xs[i]?=some x,fun i H=>∃ xs,SqT K H a xs/\xs.length<=i⟩
noncomputable def Itr(lo:Int)(n:Nat):It:=⟨fun i _=>i < n,fun i H x H'=>H'=H/\x=.int (lo+i),fun i _=>n<=i⟩
theorem zhl{P:Program}{w:World}{K:Ab}{tg:Expr}(a it:Addr):Turn P w K tg (Itl K a) [it] it (fun i h=>h.IsListIter it a i) where
 mem:=by simp
 obj:=fun i h st b hb=>by
   have e:b=it:=by simpa using hb
   subst e;obtain⟨o,e,c,d⟩:=st;exact⟨o,e,fun v z=>by rw[d] at z;cases z⟩
 keep:=fun i h h' st k=>st.at fun o e=>k it (by simp) o e
 item:=by
   intro X hP hw hK hc i pins s σ H E I hf st hg;subst hP hw hK;obtain⟨xs,x,hq,hx⟩:=hg;obtain⟨its,rv,p,hz⟩:=I.list hq;obtain⟨u,hu,ru⟩:=rv.get hx;obtain⟨f0,f1,f2,f3,f4,f5⟩:=hf it (by simp);refine wpAny_pyNext_list_item st p.isList (x:=u) (by simpa using hu) fun h' st' sb=>?_;have I1:Inv X pins σ H { s with heap:=h' }:=I.turned (t':=s.toks) (fun b o hb e=>(sb.2 b hb).trans e) f0 f1 f3 f4 f5;obtain⟨o,e,c,d⟩:=id st';exact⟨u,rfl,zlD (s:={ s with heap:=h' }) e c d (by decide) ⟨x,H,I1,ru,⟨rfl,fun ys hy=>by rw[I.list_inj hy hq];exact hx⟩,st',fun b hb=>(hf b hb).1⟩⟩
 done:=by
   intro X hP hw hK hc i pins s σ H E I hf st hg;subst hP hw hK;obtain⟨xs,hq,hx⟩:=hg;obtain⟨its,rv,p,hz⟩:=I.list hq;obtain⟨f0,f1,f2,f3,f4,f5⟩:=hf it (by simp);have hl:=rv.length;exact wpAny_pyNext_list_end (I.ok.hd hc) st p.isList (by simp;omega) fun h' eb=>⟨rfl,I.turned (t':=s.toks) (fun b o hb e=>eb b o hb e) f0 f1 f3 f4 f5⟩
 self:=fun _ _ _ _ _ st h=>wpAny_pyIter_listiter st h
theorem zf1{P:Program}{w:World}{K:Ab}{tg:Expr}(a it:Addr):Turn P w K tg (Itt K a) [it] it (fun i h=>h.IsTupleIter it a i) where
 mem:=by simp
 obj:=fun i h st b hb=>by
   have e:b=it:=by simpa using hb
   subst e;obtain⟨o,e,c,d⟩:=st;exact⟨o,e,fun v z=>by rw[d] at z;cases z⟩
 keep:=fun i h h' st k=>st.at fun o e=>k it (by simp) o e
 item:=by
   intro X hP hw hK hc i pins s σ H E I hf st hg;subst hP hw hK;obtain⟨xs,x,hq,hx⟩:=hg;obtain⟨its,rv,p,hz⟩:=I.tuple hq;obtain⟨u,hu,ru⟩:=rv.get hx;obtain⟨f0,f1,f2,f3,f4,f5⟩:=hf it (by simp);refine wpAny_pyNext_tuple_item st (show s.heap.IsTuple a its.toArray from p) (x:=u) (by simpa using hu) fun h' st' sb=>?_;have I1:Inv X pins σ H { s with heap:=h' }:=I.turned (t':=s.toks) (fun b o hb e=>(sb.2 b hb).trans e) f0 f1 f3 f4 f5;obtain⟨o,e,c,d⟩:=id st';exact⟨u,rfl,zlD (s:={ s with heap:=h' }) e c d (by decide) ⟨x,H,I1,ru,⟨rfl,fun ys hy=>by rw[I.tuple_inj hy hq];exact hx⟩,st',fun b hb=>(hf b hb).1⟩⟩
 done:=by
   intro X hP hw hK hc i pins s σ H E I hf st hg;subst hP hw hK;obtain⟨xs,hq,hx⟩:=hg;obtain⟨its,rv,p,hz⟩:=I.tuple hq;obtain⟨f0,f1,f2,f3,f4,f5⟩:=hf it (by simp);have hl:=rv.length;exact wpAny_pyNext_tuple_end (I.ok.hd hc) st (show s.heap.IsTuple a its.toArray from p) (by simp;omega) fun h' eb=>⟨rfl,I.turned (t':=s.toks) (fun b o hb e=>eb b o hb e) f0 f1 f3 f4 f5⟩
 self:=fun _ _ _ _ _ st h=>wpAny_pyIter_tupleiter st h
theorem zf2{P:Program}{w:World}{K:Ab}{tg:Expr}(it:Addr)(lo:Int)(n:Nat):Turn P w K tg (Itr lo n) [it] it (fun i h=>IsRangeIter h it (lo+(i:Nat)*1) ((n:Int) - (i:Nat)) 1) where
 mem:=by simp
 obj:=fun i h st b hb=>by
   have e:b=it:=by simpa using hb
   subst e;exact⟨_,st,fun v z=>by
     have z':Data.fields _=Data.cell v:=z;cases z'⟩
 keep:=fun i h h' st k=>k it (by simp) _ st
 item:=by
   intro X hP hw hK hc i pins s σ H E I hf st hg;subst hP hw hK;obtain⟨f0,f1,f2,f3,f4,f5⟩:=hf it (by simp);have W:=Walks.range (prog:=X.prog) (w:=X.w) (I.ok.hd hc) it lo 1 n;refine W.item i s _ _ hg st fun v h' tk hv st' kk=>?_;obtain⟨t,rfl⟩:=hv;have I1:Inv X pins σ H { s with heap:=h',toks:=tk }:=I.turned (fun b o hb e=>kk b o (by simpa using hb) e) f0 f1 f3 f4 f5;refine⟨_,rfl,zlD (s:={ s with heap:=h',toks:=tk }) (n:="range_iterator") st' rfl rfl (by decide) ⟨.int (lo+i),H,I1,⟨t,?_⟩,⟨rfl,rfl⟩,st',fun b hb=>(hf b hb).1⟩⟩;rw[Int.mul_one]
 done:=by
   intro X hP hw hK hc i pins s σ H E I hf st hg;subst hP hw hK;obtain⟨f0,f1,f2,f3,f4,f5⟩:=hf it (by simp);exact wpAny_pyNext_range_end (I.ok.hd hc) st (by have:n<=i:=hg;omega) fun h' eb=>⟨rfl,I.turned (t':=s.toks) (fun b o hb e=>eb b o hb e) f0 f1 f3 f4 f5⟩
 self:=fun _ _ _ _ _ st h=>wpAny_pyIter_rangeiter st h
section
variable {X:Cx} {tg:Expr}
noncomputable def znG(K:Ab)(tl:TE):TI:=fun σ H R=>tl σ H fun x H1=>∃ a,x=.ref a/\(∃ xs,SqL K H1 a xs)/\R (Itl K a) H1
noncomputable def iTup(K:Ab)(tl:TE):TI:=fun σ H R=>tl σ H fun x H1=>∃ a,x=.ref a/\(∃ xs,SqT K H1 a xs)/\R (Itt K a) H1
theorem zkO{l:Expr}{tl:TE}(hl:PE X l tl):PI X tg l (znG X.K tl):=by
 intro pins s σ H R I h;refine thn (hl pins s σ H _ I h) ?_;rintro v s1 ⟨x,H1,I1,r1,q1⟩;obtain⟨a,e,⟨xs,hq⟩,q⟩:=q1;subst e;cases r1;obtain⟨its,rv,p,hz⟩:=I1.list hq;refine CV p.isList ?_;refine⟨s1.heap.objs.size,[s1.heap.objs.size],_,_,H1,rfl,I1.kept (t':=s1.toks) fun b o e=>Ad _ e,zhl a _,⟨_,An _ rfl,rfl,rfl⟩,fun b hb=>?_,q⟩;have e:b=s1.heap.objs.size:=by simpa using hb
 subst e;exact I1.fpOk (Af _) (I1.hok.fresh (Af _))
theorem zma{l:Expr}{tl:TE}(hl:PE X l tl):PI X tg l (iTup X.K tl):=by
 intro pins s σ H R I h;refine thn (hl pins s σ H _ I h) ?_;rintro v s1 ⟨x,H1,I1,r1,q1⟩;obtain⟨a,e,⟨xs,hq⟩,q⟩:=q1;subst e;cases r1;obtain⟨its,rv,p,hz⟩:=I1.tuple hq;refine wpAny_pyIter_tuple (show s1.heap.IsTuple a its.toArray from p) ?_;refine⟨s1.heap.objs.size,[s1.heap.objs.size],_,_,H1,rfl,I1.kept (t':=s1.toks) fun b o e=>Ad _ e,zf1 a _,⟨_,An _ rfl,rfl,rfl⟩,fun b hb=>?_,q⟩;have e:b=s1.heap.objs.size:=by simpa using hb
 subst e;exact I1.fpOk (Af _) (I1.hok.fresh (Af _))
theorem zi6{pins:List (Addr×Obj)}{σ:St}{H:Hp}{s:Shared}{R:It->Hp->Prop}{E:Value->Shared->Prop}{lo hi:Int}{t u v:Tok}{tk:Nat}(I:Inv X pins σ H s)(h1:-(2 ^ 62)<=lo)(h2:lo < 2 ^ 62)(h3:-(2 ^ 62)<=hi)(h4:hi < 2 ^ 62)
   (q:R (Itr lo (hi - lo).toNat) H):wpAny (model X.prog X.w) X.A (pyIter (.ref s.heap.objs.size)) (PIE X pins σ tg R) E { s with heap:=s.heap.push { cls:=.type "range",data:=.fields #[.int lo t,.int hi u,.int 1 v] },toks:=tk }:=by
 refine wpAny_pyIter_range (IsRange.new ..) (small_one h1 h2 h3 h4) ?_;have I1:Inv X pins σ H { s with heap:=s.heap.push { cls:=.type "range",data:=.fields #[.int lo t,.int hi u,.int 1 v] },toks:=tk }:=I.kept fun b o e=>Ad _ e;refine⟨(s.heap.push { cls:=.type "range",data:=.fields #[.int lo t,.int hi u,.int 1 v] }).objs.size,[(s.heap.push { cls:=.type "range",data:=.fields #[.int lo t,.int hi u,.int 1 v] }).objs.size],_,_,H,rfl,
   I1.kept (t':=tk) fun b o e=>Ad _ e,zf2 _ lo (hi - lo).toNat,?_,fun b hb=>?_,q⟩
 . have e1:lo+((0:Nat):Int)*1=lo:=by simp
   have e2:(((hi - lo).toNat:Nat):Int) - ((0:Nat):Int)=Builtin.Range.rangeSize lo hi 1:=by rw[rangeSize_one];split <;> omega
   show IsRangeIter _ _ (lo+((0:Nat):Int)*1) ((((hi - lo).toNat:Nat):Int) - ((0:Nat):Int)) 1;rw[e1,e2];exact An _ rfl
 . have e:b=(s.heap.push { cls:=.type "range",data:=.fields #[.int lo t,.int hi u,.int 1 v] }).objs.size:=by simpa using hb
   subst e;exact I1.fpOk (Af _) (I1.hok.fresh (Af _))
noncomputable def znF(ta:TA):TI:=fun σ H R=>ta σ H fun vs H1=>∃ j:Int,vs=[.int j]/\-(2 ^ 62)<=j/\j < 2 ^ 62/\R (Itr 0 j.toNat) H1
theorem zhB{a:Expr}{ta:TA}{p pos:Pos}(hg:Gl X "range")(hm:X.mg "range"=none)(ha:PA X [a] ta)(hs:starEach [a] X.env=[(false,eval a X.env)]:=by rfl):PI X tg (.Call (.Name "range" p) [a] [] pos) (znF ta):=by
 intro pins s σ H R I h;refine Call_ (zfK I hg hm boot_range (Bt (thn (ha pos pins s σ H _ I h) ?_) hs rfl));rintro us s1 ⟨vs,H1,I1,r1,q1⟩;obtain⟨j,e,q1,q2,q⟩:=q1;subst e
 cases r1 with
 | cons r rr =>
   cases rr;obtain⟨t,rfl⟩:=r;exact call_range_1 (zi6 I1 (by omega) (by omega) q1 q2 (by simpa using q))
noncomputable def tFor(wi:TI)(g:TG)(tb:TS):TS:=fun D σ H=>wi σ H fun J H1=>∃ W:Nat->Nat->St->Hp->Prop,(∃ m,W 0 m σ H1)/\∀ i m σ H,W i m σ H ->
 (J.stop i H/\D.nx σ H)\/(J.go i H/\∃ N:St->Hp->Prop,(∀ σ' H',N σ' H'->∃ m',m' < m/\W (i+1) m' σ' H')/\∀ x H',J.yld i H x H'->g x σ H' fun σ2 H2=>tb { D with nx:=N,ct:=N,bk:=D.nx } σ2 H2)
noncomputable def zgi(fp:List Addr)(h:Heap):List (Addr×Obj):=fp.filterMap fun b=>(h.get? b).map fun o=>(b,o)
theorem zcx{fp:List Addr}{h:Heap}{b:Addr}{o:Obj}(hb:b∈fp)(e:h.get? b=some o):(b,o)∈zgi fp h:=List.mem_filterMap.mpr ⟨b,hb,by rw[e];rfl⟩
theorem zhH{fp:List Addr}{h:Heap}{p:Addr×Obj}(hp:p∈zgi fp h):p.1∈fp/\h.get? p.1=some p.2:=by
 obtain⟨b,hb,e⟩:=List.mem_filterMap.mp hp
 cases q:h.get? b with
 | none=>rw[q] at e;cases e
 | some o =>
   rw[q] at e;have e':(b,o)=p:=As e;subst e';exact⟨hb,q⟩
theorem Inv.pinned{pins:List (Addr×Obj)}{σ:St}{H:Hp}{s:Shared}{fp:List Addr}(I:Inv X pins σ H s)(hf:∀ b∈fp,FpOk X pins H b)(ho:∀ b∈fp,∃ o,s.heap.get? b=some o/\∀ v,o.data≠.cell v):Inv X (pins++zgi fp s.heap) σ H s :=
 I.pins_of fun p hp=>(List.mem_append.mp hp).elim (fun z=>I.pin p (AN _ z)) fun z=>by
   obtain⟨hb,e⟩:=zhH z;obtain⟨f0,f1,f2,_⟩:=hf p.1 hb;obtain⟨o,e',d⟩:=ho p.1 hb;rw[e] at e';cases e';exact⟨e,f0,f1,f2,d⟩
theorem Inv.unpinned{pins pl:List (Addr×Obj)}{σ:St}{H:Hp}{s:Shared}(I:Inv X (pins++pl) σ H s):Inv X pins σ H s:=I.pins_of fun p hp=>I.pin p (AN _ (Be _ hp))
theorem zl8{iter:Expr}{body:List Stmt}{wi:TI}{g:TG}{tb:TS}{pos:Pos}(hp:PassesOwn (model X.prog X.w) X.A X.env X.xe)(hc:X.calm=true)(hi:PI X tg iter wi)(hg:PG X tg g)(hb:PSs X body tb)
   (hs:∀ x,foldedSetIterable iter X.env x=pure x:=by intro _;rfl):PS X (.For tg iter body [] pos) (tFor wi g tb):=by
 intro pins s σ H D I h;refine wpAny_For (thn (hi pins s σ H _ I h) fun v s1 h1=>thn h1 fun itv s2 h2=>?_) hs;obtain⟨it,fp,tn,J,H2,e,I2,T,st2,f2,W,⟨m0,w0⟩,turn⟩:=h2;subst e
 -- what stays true of the iterator's objects through the loop
 have stat:∀ {H':Hp},(∀ b∈fp,H' b=none)->∀ b∈fp,FpOk X pins H' b:=fun hn b hb=>⟨hn b hb,(f2 b hb).2⟩
 refine codeAny_forLoop_any (fun n s'=>∃ i σ' H',Inv X pins σ' H' s'/\tn i s'.heap/\(∀ b∈fp,H' b=none)/\W i n σ' H') ?_ m0 ⟨0,σ,H2,I2,st2,fun b hb=>(f2 b hb).1,w0⟩;rintro n s3 ⟨i,σ3,H3,I3,st3,fr3,w3⟩
 rcases turn i n σ3 H3 w3 with ⟨stop,qn⟩ | ⟨go,N,hN,step⟩
 . refine Bx hp (thn (T.done X rfl rfl rfl hc i pins s3 σ3 H3 X.xe I3 (stat fr3) st3 stop) ?_);rintro r s4 ⟨hr,I4⟩;subst hr;exact Cs ⟨σ3,H3,I4,qn⟩
 . refine Bx hp (thn (T.item X rfl rfl rfl hc i pins s3 σ3 H3 X.xe I3 (stat fr3) st3 go) ?_);rintro r s4 ⟨u,hr,h4⟩;subst hr;refine Bx hp (thn h4 ?_);rintro _ s5 ⟨x,H5,I5,r5,y5,st5,fr5⟩;have I5':=I5.pinned (stat fr5) (T.obj _ _ st5);refine Bx hp (thn (hg _ s5 σ3 H5 x u _ I5' r5 (step x H5 y5)) ?_);rintro _ s6 ⟨σ6,H6,I6,q6⟩;refine Bx hp (thn (hb _ s6 σ6 H6 _ I6 q6) fun f s7 q7=>?_);have again:∀ {σ7:St} {H7:Hp},Inv X (pins++zgi fp s5.heap) σ7 H7 s7->N σ7 H7->∃ m,m < n/\∃ i σ' H',Inv X pins σ' H' s7/\tn i s7.heap/\(∀ b∈fp,H' b=none)/\W i m σ' H':=fun {σ7 H7} I7 n7=>by
     obtain⟨m',hm,w7⟩:=hN σ7 H7 n7;refine⟨m',hm,i+1,σ7,H7,I7.unpinned,T.keep _ _ _ st5 fun b hb o e=>(I7.pin (b,o) (AN _ (AN _ (zcx hb e)))).1,fun b hb=>?_,w7⟩;obtain⟨o,e,d⟩:=T.obj _ _ st5 b hb;exact (I7.pin (b,o) (AN _ (AN _ (zcx hb e)))).2.1
   cases f with
   | next=>obtain⟨σ7,H7,I7,n7⟩:=q7;exact again I7 n7
   | cont=>obtain⟨σ7,H7,I7,n7⟩:=q7;exact again I7 n7
   | brk=>obtain⟨σ7,H7,I7,q7⟩:=q7;exact⟨σ7,H7,I7.unpinned,q7⟩
   | ret v=>obtain⟨x7,σ7,H7,I7,r7,q7⟩:=q7;exact⟨x7,σ7,H7,I7.unpinned,r7,q7⟩
end
noncomputable abbrev R2:=V->V->Hp->VK->Prop
def OpR(X:Cx)(f:Value->Value->Sem Value)(r:R2):Prop :=
 ∀ (pins:List (Addr×Obj)) (s:Shared) (σ:St) (H:Hp) (x y:V) (v u:Value) (Q:VK),Inv X pins σ H s->RelV x v->RelV y u->r x y H Q ->
   wpAny (model X.prog X.w) X.A (f v u) (EP X pins σ Q) X.xe s
def UnR(X:Cx)(f:Value->Sem Value)(r:V->Hp->VK->Prop):Prop :=
 ∀ (pins:List (Addr×Obj)) (s:Shared) (σ:St) (H:Hp) (x:V) (v:Value) (Q:VK),Inv X pins σ H s->RelV x v->r x H Q ->
   wpAny (model X.prog X.w) X.A (f v) (EP X pins σ Q) X.xe s
def zhe(X:Cx)(f:Value)(r:List V->Hp->VK->Prop):Prop :=
 ∀ (pins:List (Addr×Obj)) (s:Shared) (σ:St) (H:Hp) (xs:List V) (us:List Value) (Q:VK),Inv X pins σ H s->Vals xs us->r xs H Q ->
   wpAny (model X.prog X.w) X.A (call f us) (EP X pins σ Q) X.xe s
def TruR(X:Cx)(r:V->Hp->(Bool->Hp->Prop)->Prop):Prop :=
 ∀ (pins:List (Addr×Obj)) (s:Shared) (σ:St) (H:Hp) (x:V) (v:Value) (Q:Bool->Hp->Prop),Inv X pins σ H s->RelV x v->r x H Q ->
   wpAny (model X.prog X.w) X.A (truthy v) (TP X pins σ Q) X.xe s
noncomputable def tOp(r:R2)(ta tb:TE):TE:=fun σ H Q=>ta σ H fun x H1=>tb σ H1 fun y H2=>r x y H2 Q
noncomputable def tUn(r:V->Hp->VK->Prop)(ta:TE):TE:=fun σ H Q=>ta σ H fun x H1=>r x H1 Q
noncomputable def rI(C:Int->Int->Prop)(g:Int->Int->V):R2:=fun x y H Q=>∃ i j,x=.int i/\y=.int j/\C i j/\Q (g i j) H
noncomputable def rI0(g:Int->Int->V):R2:=fun x y H Q=>∃ i j,x=.int i/\y=.int j/\Q (g i j) H
noncomputable def rU(g:Int->V):V->Hp->VK->Prop:=fun x H Q=>∃ i,x=.int i/\Q (g i) H
section
variable {X:Cx} {a b c:Expr} {ta tb tc:TE} {pos:Pos}
theorem binT(ha:PE X a ta)(hb:PE X b tb){pins:List (Addr×Obj)}{s:Shared}{σ:St}{H:Hp}{R:V->V->Hp->Prop}(I:Inv X pins σ H s)
   (h:ta σ H fun x H1=>tb σ H1 fun y H2=>R x y H2) {Q:Value->Shared->Prop} {f:Value->Value->Sem Value}
   (hf:∀ v u s2 x y H2,Inv X pins σ H2 s2->RelV x v->RelV y u->R x y H2->wpAny (model X.prog X.w) X.A (f v u) Q X.xe s2) :
   wpAny (model X.prog X.w) X.A (eval a X.env) (fun v s₁=>wpAny (model X.prog X.w) X.A (eval b X.env) (fun u s₂=>wpAny (model X.prog X.w) X.A (f v u) Q X.xe s₂) X.xe s₁) X.xe s:=by
 refine thn (ha pins s σ H _ I h) ?_;rintro v s1 ⟨x,H1,I1,r1,q1⟩;refine thn (hb pins s1 σ H1 _ I1 q1) ?_;rintro u s2 ⟨y,H2,I2,r2,q2⟩;exact hf v u s2 x y H2 I2 r1 r2 q2
theorem znr{op:Operator}{r:R2}(ho:OpR X (binaryOp op) r)(ha:PE X a ta)(hb:PE X b tb):PE X (.BinOp a op b pos) (tOp r ta tb):=by
 intro pins s σ H Q I h;exact wpAny_BinOp (binT ha hb I h fun v u s2 x y H2 I2 rx ry q=>ho pins s2 σ H2 x y v u Q I2 rx ry q)
theorem znq{op:UnaryOp}{r:V->Hp->VK->Prop}(ho:UnR X (unaryOp op) r)(ha:PE X a ta):PE X (.UnaryOp op a pos) (tUn r ta):=by
 intro pins s σ H Q I h;exact UnaryOp_ (thn (ha pins s σ H _ I h) fun v s1 ⟨x,H1,I1,r1,q1⟩=>ho pins s1 σ H1 x v Q I1 r1 q1)
theorem opI{f:Value->Value->Sem Value}{C:Int->Int->Prop}{g:Int->Int->Int}
   (rule:∀ (i j:Int) (t u:Tok) (s:Shared) (Q:Value->Shared->Prop) (E:Value->Shared->Prop),C i j->Q (.int (g i j) s.toks) { s with toks:=s.toks+1 }->wpAny (model X.prog X.w) X.A (f (.int i t) (.int j u)) Q E s) :
   OpR X f (rI C fun i j=>.int (g i j)):=by
 intro pins s σ H x y v u Q I rx ry h;obtain⟨i,j,rfl,rfl,hc,q⟩:=h;obtain⟨t,rfl⟩:=rx;obtain⟨t',rfl⟩:=ry;exact rule i j t t' s _ _ hc ⟨.int (g i j),H,I.tok _,⟨_,rfl⟩,q⟩
theorem opI0{f:Value->Value->Sem Value}{g:Int->Int->Int}
   (rule:∀ (i j:Int) (t u:Tok) (s:Shared) (Q:Value->Shared->Prop) (E:Value->Shared->Prop),Q (.int (g i j) s.toks) { s with toks:=s.toks+1 }->wpAny (model X.prog X.w) X.A (f (.int i t) (.int j u)) Q E s) :
   OpR X f (rI0 fun i j=>.int (g i j)):=by
 intro pins s σ H x y v u Q I rx ry h;obtain⟨i,j,rfl,rfl,q⟩:=h;obtain⟨t,rfl⟩:=rx;obtain⟨t',rfl⟩:=ry;exact rule i j t t' s _ _ ⟨.int (g i j),H,I.tok _,⟨_,rfl⟩,q⟩
theorem opB0{f:Value->Value->Sem Value}{g:Int->Int->Bool}
   (rule:∀ (i j:Int) (t u:Tok) (s:Shared) (Q:Value->Shared->Prop) (E:Value->Shared->Prop),Q (.bool (g i j)) s->wpAny (model X.prog X.w) X.A (f (.int i t) (.int j u)) Q E s) :
   OpR X f (rI0 fun i j=>.bl (g i j)):=by
 intro pins s σ H x y v u Q I rx ry h;obtain⟨i,j,rfl,rfl,q⟩:=h;obtain⟨t,rfl⟩:=rx;obtain⟨t',rfl⟩:=ry;exact rule i j t t' s _ _ ⟨.bl (g i j),H,I,rfl,q⟩
def CMul(i j:Int):Prop:=(-(2 ^ 64) < i/\i < 2 ^ 64)\/(-(2 ^ 64) < j/\j < 2 ^ 64)
theorem CMul.ok{i j:Int}(h:CMul i j):IntMulOk i j:=by
 rcases h with ⟨h1,h2⟩ | ⟨h1,h2⟩
 . exact .of_left (intBits_le_64 h1 h2)
 . exact .of_right (intBits_le_64 h1 h2)
theorem zmw:OpR X (binaryOp .Add) (rI0 fun i j=>.int (i+j)):=opI0 fun _ _ _ _ _ _ _ q=>add_int q
theorem zmp:OpR X (binaryOp .Sub) (rI0 fun i j=>.int (i - j)):=opI0 fun _ _ _ _ _ _ _ q=>sub_int q
theorem zmq:OpR X (binaryOp .Mult) (rI CMul fun i j=>.int (i*j)):=opI fun _ _ _ _ _ _ _ hc q=>mul_int q hc.ok
theorem zmr:OpR X (binaryOp .Mod) (rI (fun _ j=>0 < j) fun i j=>.int (i % j)):=opI fun i j _ _ _ _ _ hc q=>by
 have h1:(0:Int) < j:=hc;exact mod_int' (by omega) (by rw[Int.fmod_eq_emod_of_nonneg i (by omega)];exact q)
theorem unI{f:Value->Sem Value}{g:Int->Int}
   (rule:∀ (i:Int) (t:Tok) (s:Shared) (Q:Value->Shared->Prop) (E:Value->Shared->Prop),Q (.int (g i) s.toks) { s with toks:=s.toks+1 }->wpAny (model X.prog X.w) X.A (f (.int i t)) Q E s) :
   UnR X f (rU fun i=>.int (g i)):=by
 intro pins s σ H x v Q I rx h;obtain⟨i,rfl,q⟩:=h;obtain⟨t,rfl⟩:=rx;exact rule i t s _ _ ⟨.int (g i),H,I.tok _,⟨_,rfl⟩,q⟩
theorem zlG:UnR X (unaryOp .USub) (rU fun i=>.int (-i)):=unI fun _ _ _ _ _ q=>neg_int q
end
section
variable {X:Cx} {a b c:Expr} {ta tb tc:TE} {pos:Pos}
theorem zh0{pins:List (Addr×Obj)}{σ:St}{H:Hp}{s:Shared}{Q:VK}{k k':Bool}(I:Inv X pins σ H s)(q:Q (.bl k) H)(e:k=k'):EP X pins σ Q (.bool k') s:=by
 subst e;exact⟨.bl k,H,I,rfl,q⟩
theorem znv:OpR X (compareOp .Lt) (rI0 fun i j=>.bl (decide (i < j))):=opB0 fun _ _ _ _ _ _ _ q=>lt_int q
theorem znw:OpR X (compareOp .LtE) (rI0 fun i j=>.bl (decide (i<=j))):=opB0 fun _ _ _ _ _ _ _ q=>le_int q
theorem znx:OpR X (compareOp .Gt) (rI0 fun i j=>.bl (decide (j < i))):=opB0 fun _ _ _ _ _ _ _ q=>gt_int q
theorem zny:OpR X (compareOp .GtE) (rI0 fun i j=>.bl (decide (j<=i))):=opB0 fun _ _ _ _ _ _ _ q=>ge_int q
theorem zhG:OpR X (compareOp .In) (fun x y H Q=>∃ i j,x=.str i/\y=.str j/\Q (.bl (!(Bm j i 0 j.length 1).isEmpty)) H):=by
 intro pins s σ H x y v u Q I rx ry h;obtain⟨i,j,rfl,rfl,q⟩:=h;obtain⟨t,rfl⟩:=rx;obtain⟨t',rfl⟩:=ry;exact in_str (zh0 I q rfl)
theorem zmt:OpR X (compareOp .Is) (fun x y H Q=>y=.non/\Q (.bl (decide (x=.non))) H):=by
 intro pins s σ H x y v u Q I rx ry h;obtain⟨rfl,q⟩:=h;cases ry;refine is_none_gen (zh0 I q ?_)
 cases x <;> first
   | (cases rx;rfl)
   | (obtain⟨t,rfl⟩:=rx;rfl)
theorem zkY:OpR X (compareOp .IsNot) (fun x y H Q=>y=.non/\Q (.bl (!decide (x=.non))) H):=by
 intro pins s σ H x y v u Q I rx ry h;obtain⟨rfl,q⟩:=h;cases ry;refine isnot_none_gen (zh0 I q ?_)
 cases x <;> first
   | (cases rx;rfl)
   | (obtain⟨t,rfl⟩:=rx;rfl)
theorem zeQ:OpR X (compareOp .NotIn) (fun x y H Q=>∃ i j,x=.str i/\y=.str j/\Q (.bl (!(!(Bm j i 0 j.length 1).isEmpty))) H):=by
 intro pins s σ H x y v u Q I rx ry h;obtain⟨i,j,rfl,rfl,q⟩:=h;obtain⟨t,rfl⟩:=rx;obtain⟨t',rfl⟩:=ry;exact notIn_str (zh0 I q rfl)
theorem zkU{op:CmpOp}{r:R2}(ho:OpR X (compareOp op) r)(ha:PE X a ta)(hb:PE X b tb)(hm:behindInMarks op b=false):PE X (.Compare a [op] [b] pos) (tOp r ta tb):=by
 intro pins s σ H Q I h;exact wpAny_Compare1 (binT ha hb I h fun v u s2 x y H2 I2 rx ry q=>ho pins s2 σ H2 x y v u Q I2 rx ry q) hm
noncomputable def zmZ(t:TE):TT:=fun σ H Q=>t σ H fun x H'=>∃ k,x=.bl k/\Q k H'
theorem zkI{op:CmpOp}{r:R2}(ho:OpR X (compareOp op) r)(ha:PE X a ta)(hb:PE X b tb)(hm:behindInMarks op b=false):PT X (.Compare a [op] [b] pos) (zmZ (tOp r ta tb)):=by
 intro pins s σ H Q I h;refine Dw (thn (ha pins s σ H _ I h) fun v s1 ⟨x,H1,I1,r1,q1⟩=>thn (hb pins s1 σ H1 _ I1 q1) fun u s2 ⟨y,H2,I2,r2,q2⟩ =>
   thn (ho pins s2 σ H2 x y v u _ I2 r1 r2 q2) fun c s3 ⟨z,H3,I3,r3,k,e,q3⟩=>?_) hm
 subst e;cases r3;exact A4 ⟨H3,I3,q3⟩
noncomputable def ziQ(r r':R2)(ta tb tc:TE):TE:=fun σ H Q=>ta σ H fun x H1=>tb σ H1 fun y H2=>r x y H2 fun z H3=>∃ k,z=.bl k /\
 (if k=true then tc σ H3 fun w' H4=>r' y w' H4 Q else Q (.bl false) H3)
theorem zjf{op op':CmpOp}{r r':R2}(ho:OpR X (compareOp op) r)(ho':OpR X (compareOp op') r')(ha:PE X a ta)(hb:PE X b tb)(hc:PE X c tc)
   (hm:lastMarks [op,op'] [b,c]=false:=by with_unfolding_all rfl):PE X (.Compare a [op,op'] [b,c] pos) (ziQ r r' ta tb tc):=by
 intro pins s σ H Q I h;refine Compare_chain (thn (ha pins s σ H _ I h) fun v s1 ⟨x,H1,I1,r1,q1⟩=>chain_link (thn (hb pins s1 σ H1 _ I1 q1) fun u s2 ⟨y,H2,I2,r2,q2⟩ =>
   thn (ho pins s2 σ H2 x y v u _ I2 r1 r2 q2) fun d s3 ⟨z,H3,I3,r3,k,e,q3⟩=>?_)) hm
 subst e;cases r3;refine A4 ?_
 cases k with
 | false=>exact ite_ff ⟨.bl false,H3,I3,rfl,q3⟩
 | true=>exact ite_tt (chain_last (thn (hc pins s3 σ H3 _ I3 q3) fun w' s4 ⟨z',H4,I4,r4,q4⟩=>ho' pins s4 σ H4 y z' u w' Q I4 r2 r4 q4))
theorem zi8{op op':CmpOp}{r r':R2}(ho:OpR X (compareOp op) r)(ho':OpR X (compareOp op') r')(ha:PE X a ta)(hb:PE X b tb)(hc:PE X c tc)
   (hm:lastMarks [op,op'] [b,c]=false:=by with_unfolding_all rfl):PT X (.Compare a [op,op'] [b,c] pos) (zmZ (ziQ r r' ta tb tc)):=by
 intro pins s σ H Q I h;refine isTrue_chain (thn (ha pins s σ H _ I h) fun v s1 ⟨x,H1,I1,r1,q1⟩=>test_link (thn (hb pins s1 σ H1 _ I1 q1) fun u s2 ⟨y,H2,I2,r2,q2⟩ =>
   thn (ho pins s2 σ H2 x y v u _ I2 r1 r2 q2) fun d s3 ⟨z,H3,I3,r3,k,e,q3⟩=>?_)) hm
 subst e;cases r3;refine A4 ?_
 cases k with
 | false =>
   obtain⟨k',e',q'⟩:=q3;cases e';exact ite_ff ⟨H3,I3,q'⟩
 | true =>
   refine ite_tt (test_last (thn (hc pins s3 σ H3 _ I3 q3) fun w' s4 ⟨z',H4,I4,r4,q4⟩=>thn (ho' pins s4 σ H4 y z' u w' _ I4 r2 r4 q4) ?_));rintro d' s5 ⟨z2,H5,I5,r5,k2,e2,q5⟩;subst e2;cases r5;exact A4 ⟨H5,I5,q5⟩
def TruV(K:Ab)(x:V)(H:Hp)(k:Bool):Prop :=
 match x with
 | .non=>k=false
 | .bl b=>k=b
 | .int i=>k=(i != 0)
 | .str y=>y.length<=sizeLine/\k=((y.length:Int) != 0)
 | .byt y=>y.size<=sizeLine/\k=((y.size:Int) != 0)
 | .ref p=>(∃ xs,SqL K H p xs/\k=!xs.isEmpty)\/(∃ xs,SqT K H p xs/\k=!xs.isEmpty)\/∃ kvs,H p=some (.dK kvs)/\k=!kvs.isEmpty
 | _=>False
theorem zgM{κ:Type}{kvs:List (κ×V)}{vs:List (κ×Value)}(r:KV kvs vs):(!vs.isEmpty)=!kvs.isEmpty:=by
 cases r <;> rfl
theorem zer{xs:List V}{its:List Value}(r:Vals xs its):(!its.toArray.isEmpty)=!xs.isEmpty:=by
 cases r <;> simp
theorem zeU:(sizeLine:Nat) < 2 ^ 63:=by rw[D3];decide
theorem zlJ:TruR X (fun x H Q=>∃ k,TruV X.K x H k/\Q k H):=by
 intro pins s σ H x v Q I rx h;obtain⟨k,e,q⟩:=h;have hl:=zeU;have hs:sizeLine=16777216:=D3
 cases x with
 | non =>
   cases rx;have e':k=false:=e;subst e';exact truthy_none ⟨H,I,q⟩
 | bl b =>
   cases rx;have e':k=b:=e;subst e';exact A4 ⟨H,I,q⟩
 | int i =>
   obtain⟨t,rfl⟩:=rx;have e':k=(i != 0):=e;subst e';exact PySem.P.truthy_int ⟨H,I,q⟩
 | str y =>
   obtain⟨t,rfl⟩:=rx;obtain⟨hy,e'⟩:y.length<=sizeLine/\k=((y.length:Int) != 0):=e;subst e';exact PySem.P.truthy_str (by omega) ⟨H,I.tok _,q⟩
 | byt y =>
   obtain⟨t,rfl⟩:=rx;obtain⟨hy,e'⟩:y.size<=sizeLine/\k=((y.size:Int) != 0):=e;subst e';exact PySem.W.truthy_bytes (by omega) ⟨H,I.tok _,q⟩
 | ref p =>
   cases rx;have e':(∃ xs,SqL X.K H p xs/\k=!xs.isEmpty)\/(∃ xs,SqT X.K H p xs/\k=!xs.isEmpty)\/∃ kvs,H p=some (.dK kvs)/\k=!kvs.isEmpty:=e
   rcases e' with ⟨xs,hx,e'⟩ | ⟨xs,hx,e'⟩ | ⟨kvs,hx,e'⟩
   . subst e';obtain⟨its,r,pl,hz⟩:=I.list hx;have hlen:=r.length;exact wpAny_truthy_list pl.isList (by simp only[Ai];omega) ⟨H,I.tok _,by rw[zer r];exact q⟩
   . subst e';obtain⟨its,r,pl,hz⟩:=I.tuple hx;have hlen:=r.length;exact truthy_tuple pl (by simp only[Ai];omega) ⟨H,I.tok _,by rw[zer r];exact q⟩
   . subst e';obtain⟨hz,hS,vs,r,m⟩:kvs.length<=sizeLine/\(p==sysModules)=false/\∃ vs,KV kvs vs/\s.heap.DictOf (zbF X.prog X.w) p vs:=I.hok p _ hx;have hlen:kvs.length=vs.length:=BV r;exact wpAny_truthy_dict hS m (by omega) ⟨H,I.tok _,by rw[zgM r];exact q⟩
 | _=>exact (show False from e).elim
theorem zi7(ha:PE X a ta)(he:∀ whole,isTrue a X.env whole=(do let v <-whole;standAt a.pos;holding [v] (truthy v))) :
   PT X a (fun σ H Q=>ta σ H fun x H'=>∃ k,TruV X.K x H' k/\Q k H'):=by
 intro pins s σ H Q I h;exact isTrue_plain (thn (ha pins s σ H _ I h) fun v s1 ⟨x,H1,I1,r1,q1⟩=>zlJ pins s1 σ H1 x v Q I1 r1 q1) (he _)
theorem zgq:OpR X (binaryOp .Add) (fun x y H Q=>∃ i j,x=.str i/\y=.str j/\i.length+j.length<=sizeLine/\Q (.str (i++j)) H):=by
 intro pins s σ H x y v u Q I rx ry h;obtain⟨i,j,rfl,rfl,hz,q⟩:=h;obtain⟨t,rfl⟩:=rx;obtain⟨t',rfl⟩:=ry;exact add_str (fun t' tk=>⟨.str (i++j),H,I.tok _,⟨_,rfl⟩,q⟩) hz
theorem vals1{x:V}{us:List Value}(r:Vals [x] us):∃ u,us=[u]/\RelV x u:=by
 cases r with
 | cons r1 r2=>cases r2;exact⟨_,rfl,r1⟩
theorem zjV:zhe X (.builtin "abs") (fun xs H Q=>∃ i,xs=[.int i]/\Q (.int (if i < 0 then -i else i)) H):=by
 intro pins s σ H xs us Q I r h;obtain⟨i,rfl,q⟩:=h;obtain⟨u,rfl,t,rfl⟩:=vals1 r;exact call_abs_int fun u tk=>⟨.int (if i < 0 then -i else i),H,I.tok _,⟨_,rfl⟩,q⟩
theorem zeY:zhe X (.type "str") (fun xs H Q=>∃ i,xs=[.int i]/\i.natAbs.log2 < 1920/\Q (.str (toString i)) H):=by
 intro pins s σ H xs us Q I r h;obtain⟨i,rfl,hz,q⟩:=h;obtain⟨u,rfl,t,rfl⟩:=vals1 r;exact PySem.P.str_of_int hz ⟨.str _,H,I.tok _,⟨_,rfl⟩,q⟩
end
theorem RelO.some_of{v:V}{o:Option Value}(r:RelO (some v) o):∃ u,o=some u/\RelV v u:=by
 cases o with
 | none=>exact (show False from r).elim
 | some u=>exact⟨u,rfl,r⟩
structure Room(k:Nat)(A:Around):Prop where
 hd:A.handled=none
 dp:A.depth+3*k+5 < recursionLimit
 un:A.units+16*k+200 < cLine
 gd:A.guards=some []
theorem Room.mono{j k:Nat}{A:Around}(r:Room k A)(h:j<=k):Room j A:=⟨r.hd,by have:=r.dp;omega,by have:=r.un;omega,r.gd⟩
theorem Room.deeper{k:Nat}{A:Around}(r:Room (k+1) A)(env:Env):Room k (A.deeper env) :=
 ⟨r.hd,by have:=r.dp;show A.depth+1+3*k+5 < _;omega,by have:=r.un;show A.units+3+16*k+200 < _;omega,r.gd⟩
theorem Room.depth{k:Nat}{A:Around}(r:Room k A):A.depth < recursionLimit:=by have:=r.dp;omega
theorem Room.units{k:Nat}{A:Around}(r:Room k A):A.units+64 < cLine:=by have:=r.un;omega
noncomputable def tNil:TA:=fun _ H Q=>Q [] H
noncomputable def znf(ta:TE)(tr:TA):TA:=fun σ H Q=>ta σ H fun x H1=>tr σ H1 fun xs H2=>Q (x::xs) H2
section
variable {X:Cx} {e:Expr} {es:List Expr} {te:TE} {t:TA} {pos:Pos}
theorem zkX:PA X [] tNil:=fun _ _ _ _ H Q I h=>Calls.spliced_nil ⟨[],H,I,.nil,h⟩
theorem zgk(ha:PE X e te)(hr:PA X es t)(hs:starEach (e::es) X.env=(false,eval e X.env)::starEach es X.env:=by rfl):PA X (e::es) (znf te t):=by
 intro pos pins s σ H Q I h;rw[hs];show wpAny _ _ (spliced ((false,eval e X.env)::backTo pos (starEach es X.env))) _ _ s;refine Calls.spliced_cons (thn (ha pins s σ H _ I h) ?_);rintro u s1 ⟨x,H1,I1,r1,q1⟩;exact thn (hr pos pins s1 σ H1 _ I1 q1) fun us s2 ⟨xs,H2,I2,r2,q2⟩=>⟨x::xs,H2,I2,.cons r1 r2,q2⟩
noncomputable def tTup(t:TA):TE:=fun σ H Q=>t σ H fun xs H1=>xs.length<=sizeLine/\∀ p,H1 p=none->Q (.ref p) (upd H1 p (.tup xs))
noncomputable def tLst(t:TA):TE:=fun σ H Q=>t σ H fun xs H1=>xs.length<=sizeLine/\∀ p,H1 p=none->Q (.ref p) (upd H1 p (.lst xs))
theorem zmf{x1}(h:PA X es t):PE X (.Tuple es x1 pos) (tTup t):=by
 intro pins s σ H Q I hq;refine wpAny_Tuple_spliced (thn (h pos pins s σ H _ I hq) fun us s1 ⟨xs,H1,I1,r,z,q⟩=>⟨by rw[<-r.length];exact z,?_⟩);have hf:H1 s1.heap.objs.size=none:=I1.hok.fresh (Af _);refine⟨.ref s1.heap.objs.size,upd H1 s1.heap.objs.size (.tup xs),I1.laid (t':=s1.toks) (fun b u e=>Ad _ e) (Af _) ?_,rfl,q _ hf⟩;exact⟨z,us,r,⟨_,An _ rfl,rfl,rfl,_,rfl⟩⟩
theorem zmk(h:PA X es t):PE X (.List es pos) (tLst t):=by
 intro pins s σ H Q I hq;refine wpAny_List_spliced (thn (h pos pins s σ H _ I hq) fun us s1 ⟨xs,H1,I1,r,z,q⟩=>⟨by rw[<-r.length];exact z,?_⟩);have hf:H1 s1.heap.objs.size=none:=I1.hok.fresh (Af _);refine⟨.ref s1.heap.objs.size,upd H1 s1.heap.objs.size (.lst xs),I1.laid (t':=s1.toks) (fun b u e=>Ad _ e) (Af _) ?_,rfl,q _ hf⟩;exact⟨z,us,0,r,An _ rfl⟩
end
noncomputable abbrev Sp:=List V->Hp->VK->XK->Prop
noncomputable abbrev CXT:=List Env->Hp->Shared->XK->Value->Shared->Prop
structure Env0(P:Program)(w:World)(K:Ab)(mg:Str->Option Value)(base:Heap)(A:Around)(outer:List Env)(s:Shared)(H:Hp):Prop where
 frames:A.frames=some outer
 mod:Mod K mg base
 bs:∀ b o,base.get? b=some o->s.heap.get? b=some o/\H b=none
 bsz:base.objs.size<=s.heap.objs.size
 funs:s.heap.FunFrames base outer
 frf:∀ b∈frs outer,H b=none
 hok:HOk P w H s.heap
 bare:AllBare s.gens
def CE(outer:List Env)(P:Program)(w:World)(H:Hp)(s:Shared)(Q:VK)(u:Value)(s':Shared):Prop :=
 ∃ v H',s'.os=s.os/\AllBare s'.gens/\Un (frs outer) [] H H' s.heap s'.heap/\HOk P w H' s'.heap/\RelV v u/\Q v H'
def CR(CX:CXT)(outer:List Env)(P:Program)(w:World)(H:Hp)(s:Shared)(Q:VK)(E:XK)(r:Result)(s':Shared):Prop :=
 match r with
 | .ok (.ret u)=>CE outer P w H s Q u s'
 | .ok _=>False
 | .error e=>CX outer H s E e s'
structure FnOk(P:Program)(w:World)(K:Ab)(mg:Str->Option Value)(base:Heap)(CX:CXT)(k:Nat)(f:Addr)(fd:FuncData)(ps:List Str)(sp:Sp):Prop where
 len:∀ vs H Q E,sp vs H Q E->vs.length=ps.length
 run:∀ (A:Around) (outer:List Env) (s:Shared) (H:Hp) (args:Args) (us:List Value) (vs:List V) (Q:VK) (E:XK),Room k A->Env0 P w K mg base A outer s H->BindsTo s fd args (ps.zip us)->Vals vs us->sp vs H Q E ->
   codeAny (model P w) A (.call (.ref f) args) (CR CX outer P w H s Q E) s
section
variable {X:Cx} {pins:List (Addr×Obj)} {σ:St} {H:Hp} {s s':Shared}
theorem Inv.env0(I:Inv X pins σ H s):Env0 X.prog X.w X.K X.mg X.base X.A X.stack s H :=
 ⟨I.ok.frames,I.ok.mod,I.bs,AD I.ok.bsz I.sz,I.stack,I.stkFree,I.hok,I.bare⟩
theorem Inv.after{Q:VK}{u:Value}(I:Inv X pins σ H s)(h:CE X.stack X.prog X.w H s Q u s'):EP X pins σ Q u s':=by
 obtain⟨v,H',os,bare,un,hok,r,q⟩:=h;obtain⟨hh,g,d,t,os'⟩:=s';obtain rfl:os'=s.os:=os;exact⟨v,H',I.call (h':=hh) (g':=g) (d':=d) (t':=t) (ch:=[]) un hok bare (fun b z=>absurd z (by simp)),r,q⟩
end
noncomputable def zng(sp:Sp)(dvs:List V)(E:XK)(t:TA):TE:=fun σ H Q=>t σ H fun vs H1=>sp (vs++dvs) H1 Q E
def Binds(K:Ab)(fd:FuncData)(ps:List Str)(ds:List Value):Prop :=
 ∀ (s:Shared) (us:List Value),K.In s.heap->(us++ds).length=ps.length->BindsTo s fd ⟨us,[]⟩ (ps.zip (us++ds))
theorem Binds.all{K:Ab}{fd:FuncData}{ps:List Str}(h:∀ us:List Value,us.length=ps.length->bindArgs fd ⟨us,[]⟩=pure (ps.zip us)):Binds K fd ps []:=fun s us _ hl=>by
 rw[Al] at hl ⊢;exact .of_eq (h us hl)
def Passes(CX:CXT)(X:Cx)(E:XK):Prop:=∀ (pins:List (Addr×Obj)) (σ:St) (H:Hp) (s:Shared) (e:Value) (s':Shared),Inv X pins σ H s->CX X.stack H s E e s'->X.xe e s'
section
variable {X:Cx} {CX:CXT} {k:Nat} {f C:Addr} {fd:FuncData} {ps:List Str} {sp:Sp} {dvs:List V} {ds:List Value} {E:XK} {x m:Str} {p pos apos:Pos} {e o:Expr} {es:List Expr} {ta:TE} {t:TA}
theorem zlZ{pins:List (Addr×Obj)}{σ:St}{H:Hp}{s:Shared}{Q:VK}{us:List Value}{vs:List V}(F:FnOk X.prog X.w X.K X.mg X.base CX k f fd ps sp)(hr:Room k X.A)(hb:Binds X.K fd ps ds)(hd:Vals dvs ds)(hx:Passes CX X E)
   (I:Inv X pins σ H s) (r:Vals vs us) (h:sp (vs++dvs) H Q E):wpAny (model X.prog X.w) X.A (call (.ref f) us) (EP X pins σ Q) X.xe s:=by
 have r2:Vals (vs++dvs) (us++ds):=r.append hd;have hl:(us++ds).length=ps.length:=by rw[<-r2.length];exact F.len _ _ _ _ h
 refine wpAny_call (Cu (F.run X.A X.stack s H ⟨us,[]⟩ (us++ds) (vs++dvs) Q E hr I.env0 (hb s us I.kIn hl) r2 h) fun r s' hq=>?_)
 cases r with
 | error e=>exact hx pins σ H s e s' I hq
 | ok fl =>
   cases fl with
   | ret u=>exact I.after hq
   | next=>exact False.elim hq
   | brk=>exact False.elim hq
   | cont=>exact False.elim hq
theorem zkV(F:FnOk X.prog X.w X.K X.mg X.base CX k f fd ps sp)(hr:Room k X.A)(hg:Gl X x)(hm:X.mg x=some (.ref f))(hk:BD X.K (.ref f)=true)(hb:Binds X.K fd ps ds)(hd:Vals dvs ds)(hx:Passes CX X E)
   (ha:PA X (e::es) t) (hdb:(x==("__debug__":Str))=false:=by decide) (he:starEach (e::es) X.env=(false,eval e X.env)::starEach es X.env:=by rfl) (hpl:(backTo pos (starEach es X.env)).any (·.1)=false:=by rfl) :
   PE X (.Call (.Name x p) (e::es) [] pos) (zng sp dvs E t):=by
 intro pins s σ H Q I h;refine CK (ziw I hg hm ?_ hdb);refine PySem.W.callWith_K (h₀:=X.base) I.ok.mod.kin hk (thn (ha pos pins s σ H _ I h) fun us s1 ⟨vs,H1,I1,r,q⟩=>⟨I1.kIn,?_⟩) he hpl;exact zlZ F hr hb hd hx I1 r q
end
structure FnScope(N P:List Str)(sc:Scope):Prop where
 kind:sc.kind=.function
 co:sc.isCoroutine=false
 gen:sc.isGenerator=false
 nd:N.Nodup
 pre:N.take P.length=P
 par:∀ x∈P,sc.names.lookup x=some .local\/sc.names.lookup x=some .cell
 nofree:∀ y∈sc.names,y.2≠.free
theorem zfr{kindOf:Str->Option NameKind}{x:Str}:∀ {binds:List (Str×Value)} {m:Str->Option Value},(∀ v,(x,v) ∉ binds)->bindL kindOf binds m x=m x
 | [],_,_=>rfl
 | (n,v)::r,m,h=>by
   unfold bindL;rw[zfr fun w hw=>h w (Am _ hw)]
   split
   . have:x≠n:=by rintro rfl;exact h v Au
     simp[this]
   . rfl
theorem zft{kindOf:Str->Option NameKind}{x:Str}:∀ {binds:List (Str×Value)} {m:Str->Option Value},(∀ v,(x,v) ∉ binds)->bindC kindOf binds m x=m x
 | [],_,_=>rfl
 | (n,v)::r,m,h=>by
   unfold bindC;rw[zft fun w hw=>h w (Am _ hw)]
   split
   . rfl
   . have:x≠n:=by rintro rfl;exact h v Au
     simp[this]
theorem zfs{kindOf:Str->Option NameKind}{x:Str}{v:Value}:∀ {P:List Str} {vs:List Value} {i:Nat} {m:Str->Option Value},P.Nodup->P[i]?=some x->vs[i]?=some v->kindOf x=some .local ->
   bindL kindOf (P.zip vs) m x=some v
 | [],_,_,_,_,h,_,_=>by simp at h
 | _::_,[],_,_,_,_,h,_=>by simp at h
 | p::P,w::vs,0,m,nd,h1,h2,hk=>by
   simp at h1 h2;subst h1;subst h2;show bindL kindOf ((p,w)::P.zip vs) m p=_;unfold bindL;rw[zfr fun v hv=>(List.nodup_cons.mp nd).1 (Dj hv).1,if_pos hk];simp
 | p::P,w::vs,i+1,m,nd,h1,h2,hk=>by
   show bindL kindOf ((p,w)::P.zip vs) m x=_;unfold bindL;exact zfs (i:=i) (List.nodup_cons.mp nd).2 (by simpa using h1) (by simpa using h2) hk
theorem zfu{kindOf:Str->Option NameKind}{x:Str}{v:Value}:∀ {P:List Str} {vs:List Value} {i:Nat} {m:Str->Option Value},P.Nodup->P[i]?=some x->vs[i]?=some v->kindOf x≠some .local ->
   bindC kindOf (P.zip vs) m x=some v
 | [],_,_,_,_,h,_,_=>by simp at h
 | _::_,[],_,_,_,_,h,_=>by simp at h
 | p::P,w::vs,0,m,nd,h1,h2,hk=>by
   simp at h1 h2;subst h1;subst h2;show bindC kindOf ((p,w)::P.zip vs) m p=_;unfold bindC;rw[zft fun v hv=>(List.nodup_cons.mp nd).1 (Dj hv).1,if_neg hk];simp
 | p::P,w::vs,i+1,m,nd,h1,h2,hk=>by
   show bindC kindOf ((p,w)::P.zip vs) m x=_;unfold bindC;exact zfu (i:=i) (List.nodup_cons.mp nd).2 (by simpa using h1) (by simpa using h2) hk
noncomputable def start(N:List Str)(vs:List V):St:=vs.map some++Av (N.length - vs.length) none
noncomputable def cxOf(CX:CXT)(P:Program)(w:World)(K:Ab)(mg:Str->Option Value)(base:Heap)(N:List Str)(qual:Str)(scope:Scope)(f:Addr)(cd:Value)(A:Around)(outer:List Env)(s:Shared)(H:Hp)(E:XK):Cx where
 prog:=P
 w:=w
 K:=K
 mg:=mg
 base:=base
 A:=A.deeper (envOfC qual scope s.heap.objs.size f cd)
 N:=N
 s₀:=s
 H₀:=H
 env:=envOfC qual scope s.heap.objs.size f cd
 outer:=outer
 stack:=envOfC qual scope s.heap.objs.size f cd::outer
 ex:=[]
 calm:=true
 fn:=fun _=>true
 pn:=[]
 xe:=fun e s'=>wpAny (model P w) (A.deeper (envOfC qual scope s.heap.objs.size f cd)) (leaving (envOfC qual scope s.heap.objs.size f cd) e) (fun _ s''=>CX outer H s E e s'') (fun e' s''=>CX outer H s E e' s'') s'
theorem zgX{sc:Scope}{n:Nat}{x:Str}(h:sc.names.lookup x=some .cell):∃ c,(cellsFrom n sc.names []).lookup x=some c:=by
 have q:=Dq sc.names n [] (.inl h);exact Option.isSome_iff_exists.mp q
theorem zhX{CX:CXT}{P:Program}{w:World}{K:Ab}{mg:Str->Option Value}{base:Heap}{N ps:List Str}{qual:Str}{scope:Scope}{f:Addr}{cd:Value}{A:Around}{outer:List Env}{s s1:Shared}{H:Hp}{E:XK}{us:List Value}{vs:List V}
   (S:FnScope N ps scope) (hd:A.handled=none) (e0:Env0 P w K mg base A outer s H) (hl:vs.length=ps.length) (r:Vals vs us)
   (x:InCallC s s.heap.objs.size (bindL (envOfC qual scope s.heap.objs.size f cd).kindOf (ps.zip us) fun _=>none) (cellsFrom (s.heap.objs.size+1) scope.names []) (bindC (envOfC qual scope s.heap.objs.size f cd).kindOf (ps.zip us) fun _=>none) s1) :
   Inv (cxOf CX P w K mg base N qual scope f cd A outer s H E) [] (start N vs) H s1:=by
 have hpl:ps.length<=N.length:=by have:=congrArg List.length S.pre;rw[BS] at this;omega
 obtain⟨h1,tk,rfl,hk⟩:=x.done;have noA:∀ b:Addr,b ∉ (cxOf CX P w K mg base N qual scope f cd A outer s H E).ex:=fun b z=>absurd (show b∈([]:List Addr) from z) (by simp);refine⟨⟨e0.mod,S.kind,rfl,rfl,Af _,fun y z c h1 h2=>?_,fun y hy=>?_,fun y c _ h=>?_,fun _=>hd,Around.frames_deeper e0.frames,.inr ⟨rfl,rfl⟩,fun b z=>absurd z (noA b),e0.bs,e0.bsz,fun b _ _=>noA b,fun b z=>absurd z (noA b),e0.funs,e0.frf⟩,
   rfl,e0.bare,Un.kept hk,⟨_,x.toInCall.ns,fun i y v h1 h2 h3=>?_⟩,fun y c h=>⟨_,x.cell y c h⟩,e0.hok.fresh (Af _),fun y c h=>?_,fun p hp=>absurd (show p∈([]:List (Addr×Obj)) from hp) (by simp),e0.hok.kept hk,?_⟩
 . exact name_of_addr x.apart (AG h1) (AG h2)
 . have hy:scope.names.lookup y=some .cell\/scope.names.lookup y=some .free:=hy
   rcases hy with hy | hy
   . exact zgX hy
   . exact absurd rfl (S.nofree _ (AG hy))
 . exact DP (x.above y c (AG h))
 . have hi:i < vs.length:=by
     unfold start at h2
     by_cases hi:i < vs.length
     . exact hi
     . rw[AK (by simpa using hi)] at h2;rw[BI] at h2
       split at h2 <;> cases h2
   have ha:vs[i]?=some v:=by
     unfold start at h2;rw[Ah (by simpa using hi),AE] at h2
     cases e:vs[i]? with
     | none=>rw[e] at h2;cases h2
     | some a=>rw[e] at h2;cases h2;rfl
   obtain⟨u,hu,rv⟩:=r.get ha;have hp:ps[i]?=some y:=by
     rw[<-S.pre,List.getElem?_take_of_lt (by omega)];exact h1
   have ndP:ps.Nodup:=by rw[<-S.pre];exact S.nd.sublist (List.take_sublist _ _)
   refine⟨u,rv,?_⟩
   rcases S.par y (BC hp) with k | k
   . exact .inl ⟨k,zfs ndP hp hu k⟩
   . obtain⟨c,e⟩:=zgX (n:=s.heap.objs.size+1) k;refine .inr ⟨.inl k,c,e,?_⟩;have q:=x.cell y c e;rw[zfu ndP hp hu (by show scope.names.lookup y≠_;rw[k];decide)] at q;exact q
 . exact e0.hok.fresh (DP (x.above y c (AG h)))
 . unfold start;show _=N.length;rw[AA,Aq,BQ];omega
theorem znI{CX:CXT}{P:Program}{w:World}{K:Ab}{mg:Str->Option Value}{base:Heap}{k:Nat}{f:Addr}{name qual:Str}{params:Arguments}{body:List Stmt}{scope:Scope}{dV kV doc pm cdv ct oc:Value}{an od:Option Addr}
   {osl:Array (Option Value)} {N ps:List Str} {sp:Sp} (lk:K.lookup f=some ⟨oc,od,.func (Bu name qual params body scope dV kV doc pm an cdv ct),osl⟩) (hcd:Cd K cdv qual=true) (S:FnScope N ps scope)
   (len:∀ vs H Q E,sp vs H Q E->vs.length=ps.length)
   (hbody:∀ (A:Around) (outer:List Env) (s:Shared) (H:Hp) (vs:List V) (Q:VK) (E:XK),Room k (A.deeper (envOfC qual scope s.heap.objs.size f cdv))->sp vs H Q E ->
     ∃ t,PSs (cxOf CX P w K mg base N qual scope f cdv A outer s H E) body t/\t { nx:=fun _ H'=>Q .non H',rt:=Q } (start N vs) H) :
   FnOk P w K mg base CX (k+1) f (Bu name qual params body scope dV kV doc pm an cdv ct) ps sp:=by
 refine⟨len,fun A outer s H args us vs Q E hr e0 hb r hsp=>?_⟩;have hl:=len _ _ _ _ hsp;have KX:K.In s.heap:=e0.mod.kin.keeps fun b o e=>(e0.bs b o e).1;have lim:s.heap.NoLimit:=e0.mod.nolimit.keeps fun b o e=>(e0.bs b o e).1;have hkind:∀ y∈ps.zip us,scope.names.lookup y.1=some .local\/(scope.names.lookup y.1=some .cell/\((cellsFrom (s.heap.objs.size+1) scope.names []).lookup y.1).isSome=true):=by
   rintro ⟨n,v⟩ hy
   rcases S.par n (Dj hy).1 with q | q
   . exact .inl q
   . exact .inr ⟨q,Dq _ _ _ (.inl q)⟩
 refine codeAny_call_function hr.depth (KX _ _ lk) rfl S.co S.gen rfl (PySem.W.codeRec_of KX hcd) (hb _ _ _ _ ?_);refine wpAny_newFunctionEnv_cells S.kind hkind fun env he s1 x=>?_;subst he;refine⟨lim.keeps x.toInCall.keep,codeAny_func ?_⟩;obtain⟨t,ht,hq⟩:=hbody A outer s H vs Q E (hr.deeper _) hsp;have I:Inv (cxOf CX P w K mg base N qual scope f cdv A outer s H E) [] (start N vs) H s1:=zhX S hr.hd e0 hl r x;refine Bf (ht [] s1 (start N vs) H _ I hq) (fun fl s' hs=>?_) fun e s' hs=>hs;have fin:∀ {σ':St} {H':Hp} {v:V} {u:Value},Inv (cxOf CX P w K mg base N qual scope f cdv A outer s H E) [] σ' H' s'->RelV v u->Q v H'->CE outer P w H s Q u s' :=
   fun {σ' H' v u} J rv q=>⟨v,H',J.os,J.bare,J.base,J.hok,rv,q⟩
 cases fl with
 | ret u =>
   obtain⟨v,σ',H',J,rv,q⟩:=hs;exact fin J rv q
 | next =>
   obtain⟨σ',H',J,q⟩:=hs;exact fin (v:=V.non) (u:=Ba) J rfl q
 | brk =>
   obtain⟨_,_,_,q⟩:=hs;exact False.elim q
 | cont =>
   obtain⟨_,_,_,q⟩:=hs;exact False.elim q
section
variable {X:Cx} {x:Str} {p pos:Pos} {e:Expr} {es:List Expr} {t:TA} {id T:String} {r:List V->Hp->VK->Prop}
noncomputable def tCB(r:List V->Hp->VK->Prop)(t:TA):TE:=fun σ H Q=>t σ H fun vs H1=>r vs H1 Q
theorem zgj(hc:zhe X (.builtin id) r)(hg:Gl X x)(hm:X.mg x=none)(hv:bootBuiltins x=some (.builtin id))(ha:PA X (e::es) t)(hn:x≠"__name__":=by decide)(hdb:(x==("__debug__":Str))=false:=by decide)
   (he:starEach (e::es) X.env=(false,eval e X.env)::starEach es X.env:=by rfl) (hpl:(backTo pos (starEach es X.env)).any (·.1)=false:=by rfl):PE X (.Call (.Name x p) (e::es) [] pos) (tCB r t):=by
 intro pins s σ H Q I h;refine CK (zfK I hg hm hv ?_ hn hdb);exact PyProof.Rows.callWith_builtin1 (thn (ha pos pins s σ H _ I h) fun us s1 ⟨vs,H1,I1,r1,q1⟩=>hc pins s1 σ H1 vs us Q I1 r1 q1) he hpl
theorem zhC(hc:zhe X (.type T) r)(hg:Gl X x)(hm:X.mg x=none)(hv:bootBuiltins x=some (.type T))(ha:PA X (e::es) t)(hn:x≠"__name__":=by decide)(hdb:(x==("__debug__":Str))=false:=by decide)
   (he:starEach (e::es) X.env=(false,eval e X.env)::starEach es X.env:=by rfl) (hpl:(backTo pos (starEach es X.env)).any (·.1)=false:=by rfl):PE X (.Call (.Name x p) (e::es) [] pos) (tCB r t):=by
 intro pins s σ H Q I h;refine CK (zfK I hg hm hv ?_ hn hdb);exact Bt (thn (ha pos pins s σ H _ I h) fun us s1 ⟨vs,H1,I1,r1,q1⟩=>hc pins s1 σ H1 vs us Q I1 r1 q1) he hpl
end
section
variable {κ:Type} [DecidableEq κ]
noncomputable def valV(kvs:List (κ×V))(k:κ):Option V:=(kvs.find? fun kv=>decide (kv.1=k)).map (·.2)
noncomputable def putK(kvs:List (κ×V))(k:κ)(v:V):List (κ×V) :=
 if (kvs.any fun kv=>decide (kv.1=k))=true then kvs.map (fun kv=>if kv.1=k then (kv.1,v) else kv) else kvs++[(k,v)]
theorem zeC{p:κ×V}{r:List (κ×V)}{k:κ}(e:p.1=k):valV (p::r) k=some p.2:=by simp[valV,Bg,e]
theorem zeD{p:κ×V}{r:List (κ×V)}{k:κ}(e:¬ p.1=k):valV (p::r) k=valV r k:=by simp[valV,Bg,e]
theorem zfY(k:κ):∀ kvs:List (κ×V),(kvs.any fun kv=>decide (kv.1=k))=(valV kvs k).isSome
 | []=>rfl
 | p::r=>by
   rw[Cm]
   by_cases e:p.1=k
   . simp only[zeC e,decide_eq_true e,Bool.true_or,DQ]
   . rw[zeD e,decide_eq_false e,Bool.false_or];exact zfY k r
theorem zdJ(kvs:List (κ×V))(k:κ)(v:V):(putK kvs k v).length<=kvs.length+1:=by
 unfold putK
 split
 . rw[Aq];omega
 . rw[AA,BE,List.length_nil];omega
theorem RelO.isSome_eq{o:Option V}{u:Option Value}(r:RelO o u):o.isSome=u.isSome:=by
 cases o with
 | none=>cases u with
   | none=>rfl
   | some _=>exact (show False from r).elim
 | some _=>cases u with
   | none=>exact (show False from r).elim
   | some _=>rfl
theorem KV.val{kvs:List (κ×V)}{vs:List (κ×Value)}(r:KV kvs vs)(k:κ):RelO (valV kvs k) (valueAt vs k):=by
 unfold KV at r
 induction r with
 | nil=>exact DB
 | @cons p q ps qs h t ih =>
   obtain⟨h1,h2⟩:=h
   by_cases e:p.1=k
   . have e':q.1=k:=h1.symm.trans e;have b:valueAt (q::qs) k=some q.2:=by simp[valueAt,Bg,e']
     rw[zeC e,b];exact h2
   . have e':¬ q.1=k:=fun z=>e (h1.trans z);have b:valueAt (q::qs) k=valueAt qs k:=by simp[valueAt,Bg,e']
     rw[zeD e,b];exact ih
theorem KV.any{kvs:List (κ×V)}{vs:List (κ×Value)}(r:KV kvs vs)(k:κ):(kvs.any fun kv=>decide (kv.1=k))=vs.any fun kv=>decide (kv.1=k):=by
 unfold KV at r
 induction r with
 | nil=>rfl
 | cons h t ih=>rw[Cm,Cm,ih,h.1]
theorem KV.repl{kvs:List (κ×V)}{vs:List (κ×Value)}(r:KV kvs vs)(k:κ){y:V}{u:Value}(ry:RelV y u) :
   KV (kvs.map fun kv=>if kv.1=k then (kv.1,y) else kv) (vs.map fun kv=>if kv.1=k then (kv.1,u) else kv):=by
 unfold KV at r ⊢
 induction r with
 | nil=>exact .nil
 | @cons p q ps qs h t ih =>
   rw[Az,Az];refine .cons ?_ ih;obtain⟨h1,h2⟩:=h
   by_cases e:p.1=k
   . rw[if_pos e,if_pos (h1.symm.trans e)];exact⟨h1,ry⟩
   . rw[if_neg e,if_neg (fun z=>e (h1.trans z))];exact⟨h1,h2⟩
theorem KV.put{kvs:List (κ×V)}{vs:List (κ×Value)}(r:KV kvs vs)(k:κ){y:V}{u:Value}(ry:RelV y u):KV (putK kvs k y) (stored vs k u):=by
 unfold putK stored;rw[r.any k]
 by_cases e:(vs.any fun kv=>decide (kv.1=k))=true
 . rw[if_pos e,if_pos e];exact r.repl k ry
 . rw[if_neg e,if_neg e];exact EC r ⟨rfl,ry⟩
theorem KV.length{kvs:List (κ×V)}{vs:List (κ×Value)}(r:KV kvs vs):kvs.length=vs.length:=BV r
end
theorem zld{P:Program}{w:World}{k:Key}{u:Value}(r:RelV (kV k) u):(zbF P w).is k u=true:=by
 cases k with
 | inl i=>obtain⟨t,e⟩:=(show ∃ t,u=Es i t from r);subst e;exact zfJ P w i t
 | inr x=>obtain⟨t,e⟩:=(show ∃ t,u=DO x t from r);subst e;exact zfI P w x t
theorem zfk{P:Program}{w:World}:∀ {ks:List Key} {us:List Value},Vals (ks.map kV) us->ItemsAre (zbF P w) ks us
 | [],_,r=>by rw[B5] at r;cases r;exact .nil
 | k::ks,_,r=>by
   rw[Az] at r
   cases r with
   | cons h t=>exact .cons (zld h) (zfk t)
noncomputable abbrev KT (H:Hp):List (List Key×V)->List (List Key×Addr×Value)->Prop:=Paired fun p q=>p.1=q.1/\H q.2.1=some (.tup (p.1.map kV))/\RelV p.2 q.2.2
theorem KT.val{H:Hp}{kvs:List (List Key×V)}{xs:List (List Key×Addr×Value)}(r:KT H kvs xs)(k:List Key):RelO (valV kvs k) ((atKey xs k).map (·.2)):=by
 induction r with
 | nil=>exact DB
 | @cons p q ps qs h t ih =>
   obtain⟨h1,_,h2⟩:=h
   by_cases e:p.1=k
   . have e':q.1=k:=h1.symm.trans e;have b:atKey (q::qs) k=some q.2:=by simp[atKey,Bg,e']
     rw[zeC e,b];exact h2
   . have e':¬ q.1=k:=fun z=>e (h1.trans z);have b:atKey (q::qs) k=atKey qs k:=by simp[atKey,Bg,e']
     rw[zeD e,b];exact ih
theorem KT.repl{H:Hp}{kvs:List (List Key×V)}{xs:List (List Key×Addr×Value)}(r:KT H kvs xs)(k:List Key){y:V}{u:Value}(ry:RelV y u) :
   KT H (kvs.map fun kv=>if kv.1=k then (kv.1,y) else kv) (xs.map (putAt k u)):=by
 induction r with
 | nil=>exact .nil
 | @cons p q ps qs h t ih =>
   rw[Az,Az];refine .cons ?_ ih;obtain⟨h1,h2,h3⟩:=h;unfold putAt
   by_cases e:p.1=k
   . rw[if_pos e,if_pos (h1.symm.trans e)];exact⟨h1,h2,ry⟩
   . rw[if_neg e,if_neg (fun z=>e (h1.trans z))];exact⟨h1,h2,h3⟩
theorem KT.put{H:Hp}{kvs:List (List Key×V)}{xs:List (List Key×Addr×Value)}(r:KT H kvs xs)(k:List Key){b:Addr}{y:V}{u:Value}(hb:H b=some (.tup (k.map kV)))(ry:RelV y u) :
   KT H (putK kvs k y) (storedH xs k b u):=by
 have e:(kvs.any fun kv=>decide (kv.1=k))=(atKey xs k).isSome:=by
   rw[zfY,(r.val k).isSome_eq,CW]
 unfold putK storedH;rw[e]
 by_cases q:(atKey xs k).isSome=true
 . rw[if_pos q,if_pos q];exact r.repl k ry
 . rw[if_neg q,if_neg q];exact EC r ⟨rfl,hb,ry⟩
theorem KT.keeps{H H':Hp}{kvs:List (List Key×V)}{xs:List (List Key×Addr×Value)}(r:KT H kvs xs)(ht:∀ b ys,H b=some (.tup ys)->H' b=some (.tup ys)):KT H' kvs xs :=
 Paired.mapP r fun _ _ z=>⟨z.1,ht _ _ z.2.1,z.2.2⟩
section
variable {P:Program} {w:World} {H:Hp} {h:Heap} {a:Addr}
theorem zm0{u:HO}(ok:HOk P w H h)(e:Rd H a u):zde P w H h a u:=e.ok ok
theorem zkc{kvs:List (Key×V)}(ok:HOk P w H h)(e:Rd H a (.dK kvs)):kvs.length<=sizeLine/\(a==sysModules)=false/\∃ vs,KV kvs vs/\h.DictOf (zbF P w) a vs :=
 show zde P w H h a (.dK kvs) from zm0 ok e
theorem znL{kvs:List (Key×V)}(ok:HOk P w H h)(e:H a=some (.dK kvs)):kvs.length<=sizeLine/\(a==sysModules)=false/\∃ vs,KV kvs vs/\h.DictOf (zbF P w) a vs:=zkc ok (.inl e)
theorem zgJ{ks:List Key}(ok:HOk P w H h)(e:H a=some (.tup (ks.map kV))):(tupleKind (zbF P w)).is h ks a:=by
 obtain⟨_,its,r,o,h1,h2,_,n,h3⟩:=(show zde P w H h a (.tup (ks.map kV)) from ok a _ e)
 exact⟨o,its.toArray,n,h1,h2,h3,by simpa using zfk r⟩
theorem zkb{kvs:List (List Key×V)}(ok:HOk P w H h)(e:Rd H a (.dT kvs)):kvs.length<=sizeLine/\(a==sysModules)=false /\
   ∃ xs,KT H kvs xs/\h.DictOfH (tupleKind (zbF P w)) a xs:=by
 obtain⟨z,y,xs,r,o,es,ep,h1,h2,h3,h4,h5⟩:=(show zde P w H h a (.dT kvs) from zm0 ok e)
 refine⟨z,y,xs,r,o,es,ep,h1,h2,h3,h4,fun x hx=>?_,h5⟩;have all:∀ {l:List (List Key×V)} {m:List (List Key×Addr×Value)},KT H l m->∀ x∈m,(tupleKind (zbF P w)).is h x.1 x.2.1:=by
   intro l m q
   induction q with
   | nil=>intro x hx;exact nomatch hx
   | @cons p q ps qs hq t ih =>
     intro x hx
     rcases List.mem_cons.mp hx with e | hx
     . subst e;exact zgJ ok (by rw[<-hq.1];exact hq.2.1)
     . exact ih x hx
 exact all r x hx
theorem znK{kvs:List (List Key×V)}(ok:HOk P w H h)(e:H a=some (.dT kvs)):kvs.length<=sizeLine/\(a==sysModules)=false /\
   ∃ xs,KT H kvs xs/\h.DictOfH (tupleKind (zbF P w)) a xs:=zkb ok (.inl e)
end
def DGet(H:Hp)(a:Addr)(y:V)(r:Option V):Prop :=
 (∃ kvs k,Rd H a (.dK kvs)/\y=kV k/\r=valV kvs k)\/∃ kvs k b,Rd H a (.dT kvs)/\y=.ref b/\H b=some (.tup (k.map kV))/\r=valV kvs k
def DPut(H:Hp)(a:Addr)(y v:V)(H':Hp):Prop :=
 (∃ kvs k,H a=some (.dK kvs)/\y=kV k/\kvs.length < sizeLine/\H'=upd H a (.dK (putK kvs k v))) \/
 ∃ kvs k b,H a=some (.dT kvs)/\y=.ref b/\H b=some (.tup (k.map kV))/\kvs.length < sizeLine/\H'=upd H a (.dT (putK kvs k v))
theorem DGet.k{H:Hp}{a:Addr}{kvs:List (Key×V)}{k:Key}(e:H a=some (.dK kvs)):DGet H a (kV k) (valV kvs k):=.inl ⟨kvs,k,.inl e,rfl,rfl⟩
theorem DGet.t{H:Hp}{a b:Addr}{kvs:List (List Key×V)}{k:List Key}(e:H a=some (.dT kvs))(eb:H b=some (.tup (k.map kV))):DGet H a (.ref b) (valV kvs k):=.inr ⟨kvs,k,b,.inl e,rfl,eb,rfl⟩
theorem DPut.k{H:Hp}{a:Addr}{kvs:List (Key×V)}{k:Key}{v:V}(e:H a=some (.dK kvs))(hl:kvs.length < sizeLine):DPut H a (kV k) v (upd H a (.dK (putK kvs k v))):=.inl ⟨kvs,k,e,rfl,hl,rfl⟩
theorem DPut.t{H:Hp}{a b:Addr}{kvs:List (List Key×V)}{k:List Key}{v:V}(e:H a=some (.dT kvs))(eb:H b=some (.tup (k.map kV)))(hl:kvs.length < sizeLine) :
   DPut H a (.ref b) v (upd H a (.dT (putK kvs k v))):=.inr ⟨kvs,k,b,e,rfl,eb,hl,rfl⟩
section
variable {X:Cx} {pins:List (Addr×Obj)} {σ:St} {H:Hp} {s:Shared} {a:Addr} {y v:V} {u r:Value} {o:Option V} {A:Around} {E:Value->Shared->Prop}
theorem Inv.big(I:Inv X pins σ H s):sysModules < s.heap.objs.size:=by
 have h:mainGlobals < s.heap.objs.size:=(I.mod.glob.keeps I.bk).lt;exact Nat.lt_trans (by decide) h
theorem zh4{Q:Value->Shared->Prop}(hu:A.units+1 < cLine)(I:Inv X pins σ H s)(g:DGet H a y (some v))(ry:RelV y u)(h:∀ w' s',Inv X pins σ H s'->RelV v w'->Q w' s') :
   wpAny (model X.prog X.w) A (getItem (.ref a) u) Q E s:=by
 rcases g with ⟨kvs,k,e,ey,l⟩ | ⟨kvs,k,b,e,ey,eb,l⟩
 . subst ey;obtain⟨z,hd,vs,rel,dd⟩:=zkc I.hok e;obtain⟨w',hw,rw'⟩:=RelO.some_of (v:=v) (o:=valueAt vs k) (by rw[l];exact rel.val k);exact wpAny_getItem_of (zld ry) dd.mapOf hw (h w' _ (I.tok _) rw')
 . subst ey
   cases (show u=AO b from ry)
   obtain⟨z,hd,xs,rel,dd⟩:=zkb I.hok e;obtain⟨w',hw,rw'⟩:=RelO.some_of (v:=v) (o:=(atKey xs k).map (·.2)) (by rw[l];exact rel.val k);obtain⟨p,hp,hp2⟩:=Option.map_eq_some_iff.mp hw;refine wpAny_getItem_heap (B6 hu) (zgJ I.hok eb) dd hp ?_;rw[hp2];exact h w' _ (I.tok _) rw'
theorem d_in{Q:Value->Shared->Prop}(hu:A.units+1 < cLine)(I:Inv X pins σ H s)(g:DGet H a y o)(ry:RelV y u)(h:∀ s',Inv X pins σ H s'->Q (.bool o.isSome) s') :
   wpAny (model X.prog X.w) A (compareOp .In u (.ref a)) Q E s:=by
 rcases g with ⟨kvs,k,e,ey,l⟩ | ⟨kvs,k,b,e,ey,eb,l⟩
 . subst ey;obtain⟨z,hd,vs,rel,dd⟩:=zkc I.hok e;refine wpAny_in_of (zld ry) hd dd.mapOf ?_;rw[<-(rel.val k).isSome_eq,<-l];exact h _ (I.tok _)
 . subst ey
   cases (show u=AO b from ry)
   obtain⟨z,hd,xs,rel,dd⟩:=zkb I.hok e;refine wpAny_in_heap (B6 hu) (zgJ I.hok eb) hd dd ?_;have q:=(rel.val k).isSome_eq;rw[CW] at q;rw[<-q,<-l];exact h _ (I.tok _)
theorem zlm{Q:Value->Shared->Prop}(hu:A.units+1 < cLine)(I:Inv X pins σ H s)(g:DGet H a y o)(ry:RelV y u)(h:∀ s',Inv X pins σ H s'->Q (.bool (!o.isSome)) s') :
   wpAny (model X.prog X.w) A (compareOp .NotIn u (.ref a)) Q E s:=by
 rcases g with ⟨kvs,k,e,ey,l⟩ | ⟨kvs,k,b,e,ey,eb,l⟩
 . subst ey;obtain⟨z,hd,vs,rel,dd⟩:=zkc I.hok e;refine wpAny_notIn_of (zld ry) hd dd.mapOf ?_;rw[<-(rel.val k).isSome_eq,<-l];exact h _ (I.tok _)
 . subst ey
   cases (show u=AO b from ry)
   obtain⟨z,hd,xs,rel,dd⟩:=zkb I.hok e;refine wpAny_notIn_heap (B6 hu) (zgJ I.hok eb) hd dd ?_;have q:=(rel.val k).isSome_eq;rw[CW] at q;rw[<-q,<-l];exact h _ (I.tok _)
theorem ziC{h':Heap}{t':Nat}{ob:HO}(I:Inv X pins σ H s)(mu:Mut (H a))(hs:B4 a s.heap h')(he:∃ q,h'.get? a=some q)(new:zde X.prog X.w (upd H a ob) h' a ob) :
   Inv X pins σ (upd H a ob) { s with heap:=h',toks:=t' } :=
 I.write (x:=a) (e:=a) mu (.inl rfl) (fun b q hb z=>(hs.2 b hb).trans z) he new
theorem zmU{P:Program}{w:World}{H':Hp}{h':Heap}{kvs:List (Key×V)}{vs:List (Key×Value)}(z:kvs.length<=sizeLine)(hd:(a==sysModules)=false)(rel:KV kvs vs)(dd:h'.DictOf (zbF P w) a vs) :
   zde P w H' h' a (.dK kvs):=⟨z,hd,vs,rel,dd⟩
theorem zh3{H':Hp}{Q:Unit->Shared->Prop}(hu:A.units+1 < cLine)(I:Inv X pins σ H s)(g:DPut H a y v H')(ry:RelV y u)(rv:RelV v r)(h:∀ s',Inv X pins σ H' s'->Q () s') :
   wpAny (model X.prog X.w) A (setItem (.ref a) u r) Q E s:=by
 rcases g with ⟨kvs,k,e,ey,l,eH⟩ | ⟨kvs,k,b,e,ey,eb,l,eH⟩
 . subst ey eH;obtain⟨z,hd,vs,rel,dd⟩:=znL I.hok e;have hz:vs.length<=sizeLine:=by rw[<-rel.length];exact z
   have hl:(putK kvs k v).length<=sizeLine:=by have:=zdJ kvs k v;omega
   refine wpAny_setItem_pairs (hsz:=hz) (zld ry) dd fun h' dd' hs=>h _ ?_;have he:∃ q,h'.get? a=some q:=let ⟨q,_,_,hq,_⟩:=dd';⟨q,hq⟩
   exact ziC I (by rw[e];exact DB) hs he (zmU hl hd (rel.put k rv) dd')
 . subst ey eH
   cases (show u=AO b from ry)
   obtain⟨z,hd,xs,rel,dd⟩:=znK I.hok e;have hz:xs.length<=sizeLine:=by rw[<-BV rel];exact z
   have hl:(putK kvs k v).length<=sizeLine:=by have:=zdJ kvs k v;omega
   refine wpAny_setItem_heap (hsz:=hz) (B6 hu) (zgJ I.hok eb) dd fun h' dd' hs=>h _ ?_;obtain⟨q,es,ep,hq,h2,h3,h4,_,h5⟩:=dd';refine ziC I (by rw[e];exact DB) hs ⟨q,hq⟩ ⟨hl,hd,_,(rel.put k eb rv).keeps fun c ys ec=>?_,q,es,ep,hq,h2,h3,h4,h5⟩;rw[zaW (zmz ec e (fun z=>nomatch z))];exact ec
end
def NoSl(i:Expr):Prop:=∀ ov iv,subscripted i false ov iv=operate [ov,iv] (getItem ov iv)
theorem zki{prog:Program}{w:World}{A:Around}{E:Value->Shared->Prop}{s:Shared}{env:Env}{value slice:Expr}{pos:Pos}{T id:String}{Q:Value->Shared->Prop}
   (hl:typeLookup (.type T) "__getitem__"=pure (some (.builtin id))) (hs:NoSl slice)
   (h:wpAny (model prog w) A (eval value env) (fun o s₁=>wpAny (model prog w) A (eval slice env) (fun i s₂=>s₂.TypeIs o T/\wpAny (model prog w) A (getItem o i) Q E s₂) E s₁) E s) :
   wpAny (model prog w) A (eval (.Subscript value slice pos) env) Q E s:=by
 refine DC (Bf h (fun o s₁ h₁=>Bf h₁ (fun i s₂ h₂=>?_) fun _ _ x=>x) fun _ _ x=>x);obtain⟨hT,h₂⟩:=h₂;unfold subscriptTail;refine Aa ?_;rw[getitemInPython_of_ne hT.not_modules];refine Aa (wpAny_specialOf hT hl ?_);have fin:wpAny (model prog w) A (subscripted slice false o i) (fun r s₃=>wpAny (model prog w) A (letTemporaryGo value o r >>= fun _=>pure r) Q E s₃) E s₂:=by
   rw[hs o i];exact wpAny_operating (Bf h₂ (fun r s₃ h₃=>Aa (wpAny_letTemporaryGo (Ae h₃))) fun _ _ x=>x)
 first
   | exact Ae (Aa fin)
   | exact Aa (Ae (Aa fin))
   | exact Aa fin
theorem zfN{X:Cx}{pins:List (Addr×Obj)}{σ:St}{H:Hp}{s:Shared}{a:Addr}{y:V}{o:Option V}(I:Inv X pins σ H s)(g:DGet H a y o):s.TypeIs (.ref a) "dict":=by
 rcases g with ⟨kvs,k,e,_,_⟩ | ⟨kvs,k,b,e,_,_,_⟩
 . obtain⟨_,_,vs,_,dd⟩:=zkc I.hok e;exact dd.typeIs
 . obtain⟨_,_,xs,_,dd⟩:=zkb I.hok e;exact dd.typeIs
noncomputable def zne(td ty:TE):TE:=fun σ H Q=>td σ H fun x H1=>ty σ H1 fun y H2=>∃ a v,x=.ref a/\DGet H2 a y (some v)/\Q v H2
noncomputable def tDIn(ty td:TE):TE:=fun σ H Q=>ty σ H fun y H1=>td σ H1 fun x H2=>∃ a o,x=.ref a/\DGet H2 a y o/\Q (.bl o.isSome) H2
noncomputable def zkh(ty td:TE):TE:=fun σ H Q=>ty σ H fun y H1=>td σ H1 fun x H2=>∃ a o,x=.ref a/\DGet H2 a y o/\Q (.bl (!o.isSome)) H2
noncomputable def znl(td ty tv:TE):TS:=fun D σ H=>tv σ H fun v H1=>td σ H1 fun x H2=>ty σ H2 fun y H3=>∃ a H4,x=.ref a/\DPut H3 a y v H4/\D.nx σ H4
section
variable {X:Cx} {o i e value:Expr} {pos pos' tpos:Pos} {td ty tv:TE}
theorem zkT(hu:X.A.units+1 < cLine)(ho:PE X o td)(hi:PE X i ty)(hs:NoSl i):PE X (.Subscript o i pos) (zne td ty):=by
 intro pins s σ H Q I h;refine zki PySem.F.slot_dict_getitem.lookup hs (thn (ho pins s σ H _ I h) fun u s1 ⟨x,H1,I1,rx,q1⟩=>thn (hi pins s1 σ H1 _ I1 q1) ?_);rintro iv s2 ⟨y,H2,I2,ry,a,v,ex,g,q2⟩;subst ex;obtain rfl:u=AO a:=rx;exact⟨zfN I2 g,zh4 hu I2 g ry fun w' s3 I3 rw'=>⟨v,H2,I3,rw',q2⟩⟩
theorem zmo(hu:X.A.units+1 < cLine)(hi:PE X i ty)(ho:PE X o td):PC X .In i o (tDIn ty td):=by
 intro pins s σ H Q I h;refine thn (hi pins s σ H _ I h) fun iv s1 ⟨y,H1,I1,ry,q1⟩=>thn (ho pins s1 σ H1 _ I1 q1) ?_;rintro u s2 ⟨x,H2,I2,rx,a,ov,ex,g,q2⟩;subst ex;obtain rfl:u=AO a:=rx;exact d_in hu I2 g ry fun s3 I3=>⟨.bl ov.isSome,H2,I3,rfl,q2⟩
theorem zhD(hu:X.A.units+1 < cLine)(hi:PE X i ty)(ho:PE X o td):PC X .NotIn i o (zkh ty td):=by
 intro pins s σ H Q I h;refine thn (hi pins s σ H _ I h) fun iv s1 ⟨y,H1,I1,ry,q1⟩=>thn (ho pins s1 σ H1 _ I1 q1) ?_;rintro u s2 ⟨x,H2,I2,rx,a,ov,ex,g,q2⟩;subst ex;obtain rfl:u=AO a:=rx;exact zlm hu I2 g ry fun s3 I3=>⟨.bl (!ov.isSome),H2,I3,rfl,q2⟩
theorem zkM(hu:X.A.units+1 < cLine)(ho:PE X o td)(hi:PE X i ty)(hv:PE X value tv)(hs:swapsWith value (some (.Subscript o i pos')) pos.line X.env=pure false) :
   PS X (.Assign [.Subscript o i pos'] value pos) (znl td ty tv):=by
 intro pins s σ H D I h;refine wpAny_Assign_Subscript (thn (hv pins s σ H _ I h) fun r s1 ⟨v,H1,I1,rv,q1⟩=>thn (ho pins s1 σ H1 _ I1 q1) fun u s2 ⟨x,H2,I2,rx,q2⟩=>thn (hi pins s2 σ H2 _ I2 q2) ?_) hs;rintro iv s3 ⟨y,H3,I3,ry,a,H4,ex,g,q3⟩;subst ex;obtain rfl:u=AO a:=rx;exact zh3 hu I3 g ry rv fun s4 I4=>⟨σ,H4,I4,q3⟩
end
theorem zjN{P:Program}{w:World}{H:Hp}(h:Heap)(hb:sysModules < h.objs.size):zde P w H (h.push { cls:=.type "dict",data:=.dict #[] }) h.objs.size (.dK []) :=
 ⟨A8 _,beq_eq_false_iff_ne.mpr (AM (AC hb)),[],.nil,Heap.DictOf.new h⟩
noncomputable def zlL:TE:=fun _ H Q=>∀ p,H p=none->Q (.ref p) (upd H p (.dK []))
section
variable {X:Cx} {pos:Pos}
theorem zje:PE X (.Dict [] [] pos) zlL:=fun pins s σ H Q I h =>
 wpAny_Dict_empty ⟨.ref s.heap.objs.size,_,I.laid (a:=s.heap.objs.size) (o:=.dK []) (t':=s.toks) (fun _ _ q=>Ad _ q) (Af _) (zjN s.heap I.big),rfl,h _ (I.hok.fresh (Af _))⟩
end
def IsD(H:Hp)(a:Addr):Prop:=(∃ kvs,Rd H a (.dK kvs))\/∃ kvs,Rd H a (.dT kvs)
theorem zmP{X:Cx}{pins:List (Addr×Obj)}{σ:St}{H:Hp}{s:Shared}{a:Addr}(I:Inv X pins σ H s)(d:IsD H a) :
   s.TypeIs (.ref a) "dict"/\(∀ b,AO a=.ref b->∃ ob,s.heap.get? b=some ob/\ob.dict=none)/\(a==sysModules)=false:=by
 rcases d with ⟨kvs,e⟩ | ⟨kvs,e⟩
 . obtain⟨_,hd,vs,_,dd⟩:=zkc I.hok e;refine⟨dd.typeIs,fun b q=>?_,hd⟩;cases q;obtain⟨ob,_,_,h1,h2,_⟩:=dd;exact⟨ob,h1,h2.2.1⟩
 . obtain⟨_,hd,xs,_,dd⟩:=zkb I.hok e;refine⟨dd.typeIs,fun b q=>?_,hd⟩;cases q;obtain⟨ob,_,_,h1,h2,_⟩:=dd;exact⟨ob,h1,h2.2.1⟩
end L2
namespace HT
open PySem PyProof.Rows
section
open PySem.SeqAt
open PySem.MeetsSeq PySem.MeetsSeq2 PySem.MeetsSeq3
end
section
variable {prog:Program} {w:World} {A:Around} {E:Value->Shared->Prop} {s:Shared}
theorem cat_tup{t b:Addr}{vs ws:List Value}{Q:Value->Shared->Prop}(ht:IsTup s.heap t vs.toArray)(hb:IsTup s.heap b ws.toArray)(hv:vs≠[])
   (h1:ws=[]->Q (.ref t) s) (h2:ws≠[]->Q (.ref s.heap.objs.size) { s with heap:=s.heap.push { cls:=.type "tuple",data:=.seq (vs++ws).toArray } })
   (hsz:vs.length+ws.length<=sizeLine):wpAny (model prog w) A (binaryOp .Add (.ref t) (.ref b)) Q E s:=by
 obtain⟨⟨cls,dd,data,sl⟩,ho,hc,n,hd⟩:=id ht;obtain⟨⟨cls2,dd2,data2,sl2⟩,ho2,hc2,n2,hd2⟩:=id hb;simp only at hc hd hc2 hd2;subst hc hd hc2 hd2;have e:vs.toArray++ws.toArray=(vs++ws).toArray:=by simp
 by_cases hw:ws=[]
 . exact concat_meets ⟨_,ho,rfl⟩ ⟨_,ho2,rfl⟩ noFill_tuple_add seq_tuple_add Dr Dh (C9 _ _)
     (tuple_addW1 t b vs.toArray ws.toArray n n2 dd dd2 sl sl2 (by simpa using hv) (by simp[hw])) ⟨ho,ho2,h1 hw⟩
 . refine concat_meets ⟨_,ho,rfl⟩ ⟨_,ho2,rfl⟩ noFill_tuple_add seq_tuple_add Dr Dh (C9 _ _)
     (tuple_addW2 t b vs.toArray ws.toArray n n2 dd dd2 sl sl2 (by simpa using hv) (by simpa using hw) (by rw[Ai,Ai];exact hsz)) ⟨ho,ho2,?_⟩
   rw[e];exact h2 hw
noncomputable def sIx(n d:Nat):Option Int->Nat
 | none=>d
 | some v=>if v < 0 then (v+(n:Int)).toNat else min v.toNat n
theorem zlY(n d:Nat)(hd:d<=n)(o:Option Int):sIx n d o<=n:=by
 cases o with
 | none=>exact hd
 | some v =>
   show (if v < 0 then (v+(n:Int)).toNat else min v.toNat n)<=n
   by_cases hv:v < 0
   . rw[if_pos hv];omega
   . rw[if_neg hv];exact Da _ _
theorem ziD(v:Int)(n d:Nat):(if v < 0 then max (v+(n:Int)) 0 else min v (n:Int))=((sIx n d (some v):Nat):Int):=by
 show (if v < 0 then max (v+(n:Int)) 0 else min v (n:Int))=(((if v < 0 then (v+(n:Int)).toNat else min v.toNat n):Nat):Int)
 by_cases hv:v < 0
 . simp only[if_pos hv];omega
 . simp only[if_neg hv];omega
theorem zg8(lo hi:Option Int)(n:Nat):A5 lo hi 1 (n:Int)=(((sIx n 0 lo:Nat):Int),((sIx n n hi:Nat):Int)):=by
 have h1:¬ ((1:Int) < 0):=by omega
 unfold A5;simp only[h1,if_false];refine Prod.ext ?_ ?_
 . cases lo with
   | none=>rfl
   | some v=>exact ziD v n 0
 . cases hi with
   | none=>rfl
   | some v=>exact ziD v n n
theorem zgh(i j:Nat):AS (i:Int) (j:Int) 1=j - i:=by
 unfold AS;have h1:(1:Int) > 0:=by omega
 simp only[h1,if_true,Int.ediv_one]
 split <;> omega
theorem slicePart_{v:Value}{o:Option Int}{Q:Option Int->Shared->Prop}(p:IsPart v o)(h:Q o s):wpAny (model prog w) A (Builtin.Slice.slicePartIndex v) Q E s:=by
 cases p with
 | none=>exact slicePart_none h
 | int i t=>exact slicePart_int h
theorem sliceApplied_gen{sl:Addr}{vl vu:Value}{lo hi:Option Int}{n:Nat}{Q:Int×Int×Nat->Shared->Prop}(hs:s.heap.IsSliceOf sl vl vu .none)(pl:IsPart vl lo)(pu:IsPart vu hi)
   (h:Q (((sIx n 0 lo:Nat):Int),1,sIx n n hi - sIx n 0 lo) s):wpAny (model prog w) A (BA (.ref sl) (pure (n:Int))) Q E s:=by
 obtain⟨os,hos,hcs,hds⟩:=id hs;unfold BA C3;refine Aa (Aa (AU hos hds (x:=vl) rfl (Aa (AU hos hds (x:=vu) rfl (Aa (AU hos hds (x:=.none) rfl (Ae ?_)))))));refine Aa (slicePart_none ?_);show wpAny _ _ (if ((1:Int)==0)=true then _ else _) _ _ s;rw[if_neg (by decide)];refine Aa (slicePart_ pl (Aa (slicePart_ pu (Aa (Ae ?_)))));show wpAny _ _ (match A5 lo hi 1 (n:Int) with | (lo,hi)=>pure (lo,(1:Int),AS lo hi 1)) _ _ s;rw[zg8 lo hi n];show wpAny _ _ (pure (((sIx n 0 lo:Nat):Int),(1:Int),AS ((sIx n 0 lo:Nat):Int) ((sIx n n hi:Nat):Int) 1)) _ _ s;rw[zgh];exact Ae h
theorem zjc(xs:Array Value)(i k:Nat):((BK k).filterMap fun (m:Nat)=>xs[((i:Int)+(m:Int)*1).toNat]?).toArray=((xs.toList.drop i).take k).toArray:=by
 have e:(fun (m:Nat)=>xs[((i:Int)+(m:Int)*1).toNat]?)=fun m=>xs[i+m]?:=by
   funext m
   have:((i:Int)+(m:Int)*1).toNat=i+m:=by omega
   rw[this]
 rw[e];have:=pick_run xs i k;rw[DR] at this;have e2:((fun x=>xs[x]?) ∘ fun x=>i+x)=fun m=>xs[i+m]?:=rfl;rw[e2] at this;rw[this]
theorem getItem_tuple_cut{t sl:Addr}{items:Array Value}{vl vu:Value}{lo hi:Option Int}{Q:Value->Shared->Prop}(ht:IsTup s.heap t items)(hs:s.heap.IsSliceOf sl vl vu .none)(pl:IsPart vl lo)(pu:IsPart vu hi)
   (hw:¬ (sIx items.size 0 lo=0/\sIx items.size items.size hi=items.size))
   (h:Q (.ref s.heap.objs.size) { s with heap:=s.heap.push { cls:=.type "tuple",data:=.seq ((items.toList.drop (sIx items.size 0 lo)).take (sIx items.size items.size hi - sIx items.size 0 lo)).toArray } })
   (hsz:items.size<=sizeLine):wpAny (model prog w) A (getItem (.ref t) (.ref sl)) Q E s:=by
 have htake:sizeOk (.seq ((items.toList.drop (sIx items.size 0 lo)).take (sIx items.size items.size hi - sIx items.size 0 lo)).toArray):=by
   show ((items.toList.drop (sIx items.size 0 lo)).take (sIx items.size items.size hi - sIx items.size 0 lo)).toArray.size<=sizeLine;rw[Ai,BS,Cn,Ar];omega
 have hj:sIx items.size items.size hi<=items.size:=zlY _ _ (Af _) hi;obtain⟨os,hos,hcs,hds⟩:=id hs;have hTs:s.TypeIs (.ref sl) "slice":=⟨os,hos,hcs⟩
 unfold getItem
 try with_reducible refine Bj ?_
 first | refine Aa (Ae ?_) | skip
 refine Aa (CY ht.typeIs (by decide) ?_);refine Aa (AR (name:=A9 "__getitem__") ht.typeIs AY
   (A2 AY ht.typeIs CC ?_ (CL _ _)))
 show wpAny _ _ (BW (.ref t) >>= _) _ _ s;refine Aa (DF ht ?_);refine Aa (Dc hTs ?_);rw[if_pos (by decide)];refine Aa (sliceApplied_gen hs pl pu ?_);have hno:¬ ((((sIx items.size 0 lo:Nat):Int)==0&&(1:Int)==1&&(sIx items.size items.size hi - sIx items.size 0 lo)==items.size)=true):=by
   intro q;rw[Ag,Ag] at q;have q1:((sIx items.size 0 lo:Nat):Int)=0:=eq_of_beq q.1.1;have q2:sIx items.size items.size hi - sIx items.size 0 lo=items.size:=eq_of_beq q.2;exact hw ⟨by omega,by omega⟩
 show wpAny _ _ (if (((sIx items.size 0 lo:Nat):Int)==0&&(1:Int)==1&&(sIx items.size items.size hi - sIx items.size 0 lo)==items.size)=true then _ else _) _ _ s;rw[if_neg hno,zjc]
 first
   | exact Aa (m:=AV _) (AJ (Ae ⟨_,rfl,Ae h⟩) htake)
   | exact Aa (m:=AV _) (AJ (Aa (Ae (Ae ⟨_,rfl,Ae h⟩))) htake)
   | exact Aa (Aa (m:=AV _) (AJ (Ae (Ae ⟨_,rfl,Ae h⟩)) htake))
   | exact Aa (Aa (m:=AV _) (AJ (Ae ⟨_,rfl,Ae h⟩) htake))
end
end HT
namespace L2
open PySem PySem.Spec PyProof.Rows
noncomputable abbrev TO:=St->Hp->(Option Int->Hp->Prop)->Prop
def PO(X:Cx)(e:Option Expr)(t:TO):Prop :=
 ∀ (pins:List (Addr×Obj)) (s:Shared) (σ:St) (H:Hp) (Q:Option Int->Hp->Prop),Inv X pins σ H s->t σ H Q ->
   wpAny (model X.prog X.w) X.A (evalPart e X.env) (fun u s'=>∃ o H',Inv X pins σ H' s'/\IsPart u o/\Q o H') X.xe s
noncomputable def zkg:TO:=fun _ H Q=>Q none H
noncomputable def zna(t:TE):TO:=fun σ H Q=>t σ H fun x H1=>∃ i,x=.int i/\Q (some i) H1
section
variable {X:Cx} {e:Expr} {te:TE} {lo hi:Option Expr} {tl th:TO} {pos p2:Pos}
theorem zkN:PO X none zkg:=by
 intro pins s σ H Q I h;rw[DG];exact Ae ⟨none,H,I,.none,h⟩
theorem zio(h:PE X e te):PO X (some e) (zna te):=by
 intro pins s σ H Q I hw;rw[evalPart_some];refine thn (h pins s σ H _ I hw) ?_;rintro u s1 ⟨x,H1,I1,r1,q1⟩;obtain⟨i,rfl,q⟩:=q1;obtain⟨t,rfl⟩:=r1;exact⟨some i,H1,I1,.int i t,q⟩
def SlR(X:Cx)(r:V->Option Int->Option Int->Hp->VK->Prop):Prop :=
 ∀ (pins:List (Addr×Obj)) (s:Shared) (σ:St) (H:Hp) (x:V) (v vl vu:Value) (lo hi:Option Int) (sl:Addr) (Q:VK),Inv X pins σ H s->RelV x v->s.heap.IsSliceOf sl vl vu .none->IsPart vl lo->IsPart vu hi->r x lo hi H Q ->
   ∃ T id,typeLookup (.type T) "__getitem__"=pure (some (.builtin id))/\s.TypeIs v T/\wpAny (model X.prog X.w) X.A (getItem v (.ref sl)) (EP X pins σ Q) X.xe s
noncomputable def tSl(r:V->Option Int->Option Int->Hp->VK->Prop)(te:TE)(tl th:TO):TE:=fun σ H Q=>te σ H fun x H1=>tl σ H1 fun l H2=>th σ H2 fun u H3=>r x l u H3 Q
theorem zdV{r:V->Option Int->Option Int->Hp->VK->Prop}(hr:SlR X r)(he:PE X e te)(hl:PO X lo tl)(hu:PO X hi th):PE X (.Subscript e (.Slice lo hi none p2) pos) (tSl r te tl th):=by
 intro pins s σ H Q I h;refine DC (thn (he pins s σ H _ I h) ?_);rintro v s1 ⟨x,H1,I1,r1,q1⟩;refine wpAny_Slice (thn (hl pins s1 σ H1 _ I1 q1) fun vl s2 ⟨l,H2,I2,pl,q2⟩=>thn (hu pins s2 σ H2 _ I2 q2) ?_);rintro vu s3 ⟨u,H3,I3,pu,q3⟩;rw[DG];refine Ae ?_;have I4:Inv X pins σ H3 { s3 with heap:=s3.heap.push { cls:=.type "slice",data:=.fields #[vl,vu,.none] } }:=I3.kept (t':=s3.toks) fun b ob q=>Ad _ q;obtain⟨T,id,hT,ht,hg⟩:=hr pins { s3 with heap:=s3.heap.push { cls:=.type "slice",data:=.fields #[vl,vu,.none] } } σ H3 x v vl vu l u s3.heap.objs.size Q I4 r1 (DS ..) pl pu q3;show wpAny (model X.prog X.w) X.A (subscriptTail e (.Slice lo hi none p2) v (.ref s3.heap.objs.size)) (EP X pins σ Q) X.xe { s3 with heap:=s3.heap.push { cls:=.type "slice",data:=.fields #[vl,vu,.none] } };exact tail_any (ops:=[.ref s3.heap.objs.size,v]) ht hT hg (by with_unfolding_all rfl)
noncomputable def cutV(xs:List V)(lo hi:Option Int):List V:=(xs.drop (HT.sIx xs.length 0 lo)).take (HT.sIx xs.length xs.length hi - HT.sIx xs.length 0 lo)
theorem zdK(xs:List V)(lo hi:Option Int):(cutV xs lo hi).length<=xs.length:=by
 unfold cutV;rw[BS,Cn];omega
noncomputable def rSlT(K:Ab):V->Option Int->Option Int->Hp->VK->Prop:=fun x lo hi H Q=>∃ a xs,x=.ref a/\SqT K H a xs /\
 ¬ (HT.sIx xs.length 0 lo=0/\HT.sIx xs.length xs.length hi=xs.length)/\∀ p,H p=none->Q (.ref p) (upd H p (.tup (cutV xs lo hi)))
theorem zlO:SlR X (rSlT X.K):=by
 intro pins s σ H x v vl vu lo hi sl Q I rx hs pl pu h;obtain⟨a,xs,rfl,hx,hw,q⟩:=h;cases rx;obtain⟨its,r,ht,hz⟩:=I.tuple hx;have hlen:its.toArray.size=xs.length:=by rw[Ai];exact r.length.symm
 refine⟨"tuple",_,PyProof.Rows.slot_tuple_getitem.lookup,ht.typeIs,?_⟩;refine HT.getItem_tuple_cut ht hs pl pu (by rw[hlen];exact hw) ?_ (by rw[hlen];exact hz);rw[hlen];refine⟨.ref s.heap.objs.size,_,I.laid (t':=s.toks) (o:=.tup (cutV xs lo hi)) (fun b ob q=>Ad _ q) (Af _) ?_,rfl,q _ (I.hok.fresh (Af _))⟩;exact⟨AD (zdK xs lo hi) hz,_,(r.drop (HT.sIx xs.length 0 lo)).take (HT.sIx xs.length xs.length hi - HT.sIx xs.length 0 lo),zdB.new _ _⟩
noncomputable def znn(K:Ab):R2:=fun x y H Q=>∃ a b xs ys,x=.ref a/\y=.ref b/\SqT K H a xs/\SqT K H b ys/\xs≠[]/\xs.length+ys.length<=sizeLine /\
 (ys=[]->Q (.ref a) H)/\(ys≠[]->∀ p,H p=none->Q (.ref p) (upd H p (.tup (xs++ys))))
theorem Vals.nil_iff{xs:List V}{us:List Value}(r:Vals xs us):us=[] ↔ xs=[]:=by
 cases r with
 | nil=>simp
 | cons _ _=>simp
theorem zk3:OpR X (binaryOp .Add) (znn X.K):=by
 intro pins s σ H x y v u Q I rx ry h;obtain⟨a,b,xs,ys,rfl,rfl,ha,hb,hx,hz,q1,q2⟩:=h;cases rx;cases ry;obtain⟨its,r1,p1,_⟩:=I.tuple ha;obtain⟨its2,r2,p2,_⟩:=I.tuple hb;refine HT.cat_tup p1 p2 (fun z=>hx (r1.nil_iff.mp z)) (fun z=>⟨.ref a,H,I,rfl,q1 (r2.nil_iff.mp z)⟩) (fun z=>?_) (by rw[<-r1.length,<-r2.length];exact hz);refine⟨.ref s.heap.objs.size,_,I.laid (t':=s.toks) (o:=.tup (xs++ys)) (fun b ob q=>Ad _ q) (Af _) ?_,rfl,q2 (fun w=>z (r2.nil_iff.mpr w)) _ (I.hok.fresh (Af _))⟩;exact⟨by rw[AA];exact hz,_,r1.append r2,zdB.new _ _⟩
end
noncomputable def ixN(n:Nat)(i:Int):Option Nat:=if 0<=i then (if i < n then some i.toNat else none) else if -(n:Int)<=i then some (i+n).toNat else none
noncomputable def atI{α:Type}(xs:List α)(i:Int):Option α:=(ixN xs.length i).bind fun j=>xs[j]?
theorem ziy{n:Nat}{i:Int}{j:Nat}(h:ixN n i=some j):seqIndex? i n=some j/\j < n/\-(n:Int)<=i/\i < n:=by
 unfold ixN at h
 by_cases h0:0<=i
 . rw[if_pos h0] at h
   by_cases h1:i < n
   . rw[if_pos h1] at h;have e:i.toNat=j:=As h;exact⟨by rw[D4 h0 h1,e],by omega,by omega,h1⟩
   . rw[if_neg h1] at h;cases h
 . rw[if_neg h0] at h
   by_cases h1:-(n:Int)<=i
   . rw[if_pos h1] at h;have e:(i+n).toNat=j:=As h;exact⟨by rw[DT (by omega) h1,e],by omega,h1,by omega⟩
   . rw[if_neg h1] at h;cases h
theorem zg7{α:Type}{xs:List α}{i:Int}{v:α}(h:atI xs i=some v):∃ j,seqIndex? i xs.length=some j/\xs[j]?=some v/\j < xs.length/\-(xs.length:Int)<=i/\i < xs.length:=by
 unfold atI at h
 cases e:ixN xs.length i with
 | none=>rw[e] at h;cases h
 | some j =>
   rw[e] at h;obtain⟨h1,h2,h3,h4⟩:=ziy e;exact⟨j,h1,h,h2,h3,h4⟩
def zhb(b:Expr):Prop:=∀ o i,subscripted b false o i=operate [o,i] (getItem o i)
def IxR(X:Cx)(r:R2):Prop :=
 ∀ (value slice:Expr) (pins:List (Addr×Obj)) (s:Shared) (σ:St) (H:Hp) (x y:V) (v u:Value) (Q:VK),Inv X pins σ H s->RelV x v->RelV y u->r x y H Q ->
   subscripted slice false v u=operate [v,u] (getItem v u)->wpAny (model X.prog X.w) X.A (subscriptTail value slice v u) (EP X pins σ Q) X.xe s
def MtR(X:Cx)(id:String)(r:V->List V->Hp->VK->Prop):Prop :=
 ∀ (pins:List (Addr×Obj)) (s:Shared) (σ:St) (H:Hp) (x:V) (xs:List V) (v:Value) (us:List Value) (Q:VK),Inv X pins σ H s->RelV x v->Vals xs us->r x xs H Q ->
   wpAny (model X.prog X.w) X.A (call (.builtin id) (v::us)) (EP X pins σ Q) X.xe s
section
variable {X:Cx} {a b:Expr} {ta tb:TE} {pos:Pos}
theorem zns{r:R2}(hr:IxR X r)(ha:PE X a ta)(hb:PE X b tb)(hs:zhb b):PE X (.Subscript a b pos) (tOp r ta tb):=by
 intro pins s σ H Q I h;exact DC (binT ha hb I h fun v u s2 x y H2 I2 rx ry q=>hr a b pins s2 σ H2 x y v u Q I2 rx ry q (hs _ _))
noncomputable def rIxL(K:Ab):R2:=fun x y H Q=>∃ p xs i v,x=.ref p/\y=.int i/\SqL K H p xs/\atI xs i=some v/\Q v H
noncomputable def rIxT(K:Ab):R2:=fun x y H Q=>∃ p xs i v,x=.ref p/\y=.int i/\SqT K H p xs/\atI xs i=some v/\Q v H
noncomputable def rIxS:R2:=fun x y H Q=>∃ z i c,x=.str z/\y=.int i/\z.length<=sizeLine/\atI z.cps.toList i=some c/\Q (.str ⟨#[c]⟩) H
theorem zix:IxR X (rIxL X.K):=by
 intro value slice pins s σ H x y v u Q I rx ry h hs;obtain⟨p,xs,i,z,rfl,rfl,hq,he,q⟩:=h;cases rx;obtain⟨t,rfl⟩:=ry;obtain⟨its,r,pl,hz⟩:=I.list hq;obtain⟨j,h1,h2,h3,h4,h5⟩:=zg7 he;obtain⟨w,ew,rw'⟩:=r.get h2;have hl:=r.length;have hn:=zeU;have fin:EP X pins σ Q w s:=⟨z,H,I,rw',q⟩
 by_cases h0:0<=i
 . have hj:i.toNat=j:=by
     rw[D4 h0 h5] at h1;exact As h1
   exact item_listR pl.isList h0 (by omega) (by rw[hj];simpa using ew) fin hs
 . have hj:(i+(its.toArray.size:Int)).toNat=j:=by
     rw[DT (by omega) h4] at h1;rw[Ai,<-hl];exact As h1
   exact Ds (x:=w) pl.isList.typeIs slot_list_getitem.lookup
     (wpAny_getItem_list_neg (Q:=fun r s'=>r=w/\EP X pins σ Q r s') pl.isList (by omega) (by rw[Ai] <;> omega) (by omega) (by rw[hj];simpa using ew) ⟨rfl,fin⟩) hs
theorem zcX:IxR X (rIxT X.K):=by
 intro value slice pins s σ H x y v u Q I rx ry h hs;obtain⟨p,xs,i,z,rfl,rfl,hq,he,q⟩:=h;cases rx;obtain⟨t,rfl⟩:=ry;obtain⟨its,r,pl,hz⟩:=I.tuple hq;obtain⟨j,h1,h2,h3,h4,h5⟩:=zg7 he;obtain⟨w,ew,rw'⟩:=r.get h2;have hl:=r.length;have hn:=zeU;have fin:EP X pins σ Q w s:=⟨z,H,I,rw',q⟩
 exact Ds (x:=w) pl.typeIs slot_tuple_getitem.lookup
   (getItem_tuple (j:=j) (Q:=fun r s'=>r=w/\EP X pins σ Q r s') pl (by omega) (by omega) (by rw[Ai,<-hl];exact h1) (by simpa using ew) ⟨rfl,fin⟩) hs
theorem zjC:IxR X rIxS:=by
 intro value slice pins s σ H x y v u Q I rx ry h hs;obtain⟨z,i,c,rfl,rfl,hz,he,q⟩:=h;obtain⟨t,rfl⟩:=rx;obtain⟨t',rfl⟩:=ry;obtain⟨j,h1,h2,h3,h4,h5⟩:=zg7 he;have hl:z.cps.toList.length=z.length:=by simp[Str.length]
 rw[hl] at h1 h4 h5;have hn:=zeU;exact tail_any (Ee s z t) slot_str_getitem.lookup (getItem_str (c:=c) (by
   have e1:decide (i < -(2 ^ 63:Int))=false:=decide_eq_false (by omega);have e2:decide (i ≥ 2 ^ 63)=false:=decide_eq_false (by omega);rw[e1,e2,Bool.or_false]) (by rw[h1];simpa using h2) ⟨.str ⟨#[c]⟩,H,I.tok _,⟨_,rfl⟩,q⟩) hs
theorem zgC(its:List Value)(n j:Nat)(u:Value):C4 (·.setIfInBounds j u) { cls:=.type "list",data:=.seq its.toArray n }={ cls:=.type "list",data:=.seq (its.set j u).toArray n }:=by
 simp[C4]
theorem Inv.lst{pins:List (Addr×Obj)}{σ:St}{H:Hp}{s:Shared}{p:Addr}{xs:List V}(I:Inv X pins σ H s)(h:H p=some (.lst xs)) :
   ∃ (its:List Value) (n:Nat),Vals xs its/\s.heap.get? p=some { cls:=.type "list",data:=.seq its.toArray n }/\xs.length<=sizeLine:=by
 obtain⟨z,its,n,r,e⟩:=I.hok p _ h;exact⟨its,n,r,e,z⟩
theorem Inv.lstUpd{pins:List (Addr×Obj)}{σ:St}{H:Hp}{s:Shared}{p:Addr}{xs ys:List V}{its its':List Value}{n n':Nat}{f:Obj->Obj}(I:Inv X pins σ H s)(h:H p=some (.lst xs))
   (ho:s.heap.get? p=some { cls:=.type "list",data:=.seq its.toArray n }) (hf:f { cls:=.type "list",data:=.seq its.toArray n }={ cls:=.type "list",data:=.seq its'.toArray n' }) (r:Vals ys its') (hz:ys.length<=sizeLine) (t:Nat) :
   Inv X pins σ (upd H p (.lst ys)) { s with heap:=s.heap.update p f,toks:=t }:=by
 have e:(s.heap.update p f).get? p=some { cls:=.type "list",data:=.seq its'.toArray n' }:=by
   rw[Cq f ho (by rw[hf] <;> rfl),hf]
 refine I.write (x:=p) (e:=p) (by rw[h];trivial) (.inl rfl) (fun b u hb q=>(Dt _ _ (AM hb)).trans q) ⟨_,e⟩ ?_;exact⟨hz,its',n',r,e⟩
noncomputable def znm:V->V->V->Hp->(Hp->Prop)->Prop:=fun o i v H Q=>∃ p xs k j,o=.ref p/\i=.int k/\H p=some (.lst xs)/\ixN xs.length k=some j/\Q (upd H p (.lst (xs.set j v)))
theorem set_list:PSet X znm:=by
 intro pins s σ H o i v ov iv u Q I ro ri rv h;obtain⟨p,xs,k,j,rfl,rfl,hp,hj,q⟩:=h;cases ro;obtain⟨t,rfl⟩:=ri;obtain⟨its,n,r,ho,hz⟩:=I.lst hp;obtain⟨h1,h2,h3,h4⟩:=ziy hj;have hl:=r.length;have hn:=zeU;have I':Inv X pins σ (upd H p (.lst (xs.set j v))) { s with heap:=s.heap.update p (C4 (·.setIfInBounds j u)) } :=
   I.lstUpd hp ho (zgC its n j u) (r.set rv j) (by rw[B0];exact hz) s.toks
 by_cases h0:0<=k
 . have hk:k.toNat=j:=by
     rw[D4 h0 h4] at h1;exact As h1
   exact PySem.W.ki_setAt ho h0 (by omega) (by rw[Ai,<-hl];exact h4) (by rw[hk];exact⟨_,I',q⟩)
 . have hk:(k+(its.toArray.size:Int)).toNat=j:=by
     rw[DT (by omega) h3] at h1;rw[Ai,<-hl];exact As h1
   exact PySem.W.ki_setBack ho (by omega) (by rw[Ai,<-hl];exact h3) (by omega) (by rw[hk];exact⟨_,I',q⟩)
theorem zeK(lo hi:Option Int)(n:Nat):(sliceBounds lo hi none n).1=((HT.sIx n 0 lo:Nat):Int)/\(sliceBounds lo hi none n).2.1=((HT.sIx n n hi:Nat):Int)/\(sliceBounds lo hi none n).2.2=1:=by
 refine⟨?_,?_,rfl⟩
 . cases lo with
   | none=>simp[sliceBounds,HT.sIx]
   | some i =>
     simp only[sliceBounds,HT.sIx,D8,show (1:Int) > 0 by decide,if_true]
     by_cases h:i < 0
     . simp only[h,if_true] <;> omega
     . simp only[h,if_false] <;> omega
 . cases hi with
   | none=>simp[sliceBounds,HT.sIx]
   | some i =>
     simp only[sliceBounds,HT.sIx,D8,show (1:Int) > 0 by decide,if_true]
     by_cases h:i < 0
     . simp only[h,if_true] <;> omega
     . simp only[h,if_false] <;> omega
theorem zef(its:List Value)(lo hi:Option Int):slicePick its.toArray lo hi none=((its.drop (HT.sIx its.length 0 lo)).take (HT.sIx its.length its.length hi - HT.sIx its.length 0 lo)).toArray:=by
 obtain⟨h1,h2,h3⟩:=zeK lo hi its.toArray.size;unfold slicePick;rw[h1,h2,h3];simp only[sliceRange_one,pick_run,Ai] <;> rfl
noncomputable def rSlL(K:Ab):V->Option Int->Option Int->Hp->VK->Prop:=fun x lo hi H Q=>∃ a xs,x=.ref a/\SqL K H a xs/\∀ p,H p=none->Q (.ref p) (upd H p (.lst (cutV xs lo hi)))
theorem zij:SlR X (rSlL X.K):=by
 intro pins s σ H x v vl vu lo hi sl Q I rx hs pl pu h;obtain⟨a,xs,rfl,hx,q⟩:=h;cases rx;obtain⟨its,r,ht,hz⟩:=I.list hx;have hlen:=r.length;refine⟨"list",_,slot_list_getitem.lookup,ht.isList.typeIs,?_⟩;refine wpAny_getItem_list_slice ht.isList hs pl pu .none (by simp) ?_ (by rw[Ai] <;> omega);rw[zef,<-hlen];refine⟨.ref s.heap.objs.size,_,I.laid (t':=s.toks) (o:=.lst (cutV xs lo hi)) (fun b ob q=>Ad _ q) (Af _) ?_,rfl,q _ (I.hok.fresh (Af _))⟩;exact⟨AD (zdK xs lo hi) hz,_,0,(r.drop (HT.sIx xs.length 0 lo)).take (HT.sIx xs.length xs.length hi - HT.sIx xs.length 0 lo),An _ rfl⟩
theorem zco:zhe X (.builtin "len") (fun xs H Q=>∃ p ys,xs=[.ref p]/\(SqL X.K H p ys\/SqT X.K H p ys)/\Q (.int ys.length) H):=by
 intro pins s σ H xs us Q I r h;obtain⟨p,ys,rfl,hq,q⟩:=h;obtain⟨u,rfl,rx⟩:=vals1 r;cases rx;have hn:=zeU
 rcases hq with hq | hq
 . obtain⟨its,r',pl,hz⟩:=I.list hq;have hlen:=r'.length;exact Calls.call_len_list pl.isList (by simp only[Ai] <;> omega) ⟨.int ys.length,H,I.tok _,⟨s.toks+1,by rw[Ai,hlen]⟩,q⟩
 . obtain⟨its,r',pl,hz⟩:=I.tuple hq;have hlen:=r'.length;exact len_tuple pl (by simp only[Ai] <;> omega) ⟨.int ys.length,H,I.tok _,⟨s.toks+1,by rw[Ai,hlen]⟩,q⟩
theorem zeZ:zhe X (.builtin "len") (fun xs H Q=>∃ z,xs=[.str z]/\z.length<=sizeLine/\Q (.int z.length) H):=by
 intro pins s σ H xs us Q I r h;obtain⟨z,rfl,hz,q⟩:=h;obtain⟨u,rfl,t,rfl⟩:=vals1 r;have hn:=zeU;exact len_str (by omega) ⟨.int z.length,H,I.tok _,⟨_,rfl⟩,q⟩
theorem zcn:zhe X (.type "list") (fun xs H Q=>∃ p ys,xs=[.ref p]/\(SqL X.K H p ys\/SqT X.K H p ys)/\∀ l,H l=none->Q (.ref l) (upd H l (.lst ys))):=by
 intro pins s σ H xs us Q I r h;obtain⟨p,ys,rfl,hq,q⟩:=h;obtain⟨u,rfl,rx⟩:=vals1 r;cases rx;have fin:∀ (its:List Value),Vals ys its->ys.length<=sizeLine->∀ (h':Heap) (c':Nat),(∀ b o',s.heap.get? b=some o'->h'.get? b=some o') ->
     h'.get? s.heap.objs.size=some { cls:=.type "list",dict:=none,data:=.seq its.toArray c',slots:=#[] }->EP X pins σ Q (.ref s.heap.objs.size) { s with heap:=h' }:=fun its r' hz h' c' kp e =>
   ⟨.ref s.heap.objs.size,_,I.laid (t':=s.toks) kp (Af _) (show zde X.prog X.w _ h' _ (.lst ys) from ⟨hz,its,c',r',e⟩),rfl,q _ (I.hok.fresh (Af _))⟩
 rcases hq with hq | hq
 . obtain⟨its,r',pl,hz⟩:=I.list hq;have hlen:=r'.length;obtain⟨o,ho,hc,n,hd⟩:=pl.isList;exact call_list_seq p (.inl rfl) ho hc hd (fun h' c' kp e=>fin its r' hz h' c' kp e) (by simp only[Ai] <;> omega)
 . obtain⟨its,r',pl,hz⟩:=I.tuple hq;have hlen:=r'.length;obtain⟨o,ho,hc,n,hd⟩:=pl;exact call_list_seq p (.inr rfl) ho hc hd (fun h' c' kp e=>fin its r' hz h' c' kp e) (by simp only[Ai] <;> omega)
theorem zcP:zhe X (.type "tuple") (fun xs H Q=>∃ p ys,xs=[.ref p]/\((SqL X.K H p ys/\∀ l,H l=none->Q (.ref l) (upd H l (.tup ys)))\/(SqT X.K H p ys/\Q (.ref p) H))):=by
 intro pins s σ H xs us Q I r h;obtain⟨p,ys,rfl,h⟩:=h;obtain⟨u,rfl,rx⟩:=vals1 r;cases rx
 rcases h with ⟨hq,q⟩ | ⟨hq,q⟩
 . obtain⟨its,r',pl,hz⟩:=I.list hq;have hlen:=r'.length;refine call_tuple_list pl.isList (fun h' kp=>?_) (by simp only[Ai] <;> omega);have I1:Inv X pins σ H { s with heap:=h' }:=I.kept (t':=s.toks) kp;have I2:Inv X pins σ (upd H h'.objs.size (.tup ys)) { s with heap:=h'.push { cls:=.type "tuple",data:=.seq its.toArray } } :=
     I1.laid (t':=s.toks) (fun b o e=>Ad _ e) (Af _) (show zde X.prog X.w _ _ _ (.tup ys) from ⟨hz,its,r',zdB.new _ _⟩)
   exact⟨.ref h'.objs.size,_,I2,rfl,q _ (I1.hok.fresh (Af _))⟩
 . obtain⟨its,r',pl,hz⟩:=I.tuple hq;exact call_tuple_same pl ⟨.ref p,H,I,rfl,q⟩
def tyV(K:Ab)(T:String)(x:V)(H:Hp):Prop:=match x with
 | .str _=>T="str"
 | .int _=>T="int"
 | .ref p=>(T="list"/\∃ xs,SqL K H p xs)\/(T="tuple"/\∃ o,K.lookup p=some o/\o.cls=.type "tuple"/\o.dict=none) \/
     (T="dict"/\((∃ kvs,H p=some (.dK kvs))\/∃ kvs,H p=some (.dT kvs)))\/(T="set"/\∃ S n,H p=some (.set S n))
 | _=>False
theorem zlH{pins:List (Addr×Obj)}{σ:St}{H:Hp}{s:Shared}{T:String}{x:V}{v:Value}(I:Inv X pins σ H s)(r:RelV x v)(ty:tyV X.K T x H) :
   s.TypeIs v T/\∀ a,v=.ref a->∃ ob,s.heap.get? a=some ob/\ob.dict=none:=by
 cases x with
 | str z =>
   obtain⟨t,rfl⟩:=r
   cases (show T="str" from ty)
   exact⟨Ee s z t,fun _ e=>nomatch e⟩
 | int i =>
   obtain⟨t,rfl⟩:=r
   cases (show T="int" from ty)
   exact⟨Ef s i t,fun _ e=>nomatch e⟩
 | ref p =>
   cases r
   rcases ty with ⟨rfl,xs,hq⟩ | ⟨rfl,o,hk,hc,hd⟩ | ⟨rfl,hk⟩ | ⟨rfl,S,n,hk⟩
   . obtain⟨its,_,pl,_⟩:=I.list hq;refine⟨pl.isList.typeIs,fun a e=>?_⟩;cases e;obtain⟨o,n,e,c,hd,_⟩:=pl;exact⟨o,e,hd⟩
   . refine⟨⟨o,I.kIn p o hk,hc⟩,fun a e=>?_⟩;cases e;exact⟨o,I.kIn _ o hk,hd⟩
   . have z:∃ o,s.heap.get? p=some o/\o.ExactDict:=by
       rcases hk with ⟨kvs,hk⟩ | ⟨kvs,hk⟩
       . obtain⟨_,_,_,_,o,_,_,e,ex,_⟩:=I.hok p _ hk;exact⟨o,e,ex⟩
       . obtain⟨_,_,_,_,o,_,_,e,ex,_⟩:=I.hok p _ hk;exact⟨o,e,ex⟩
     obtain⟨o,e,ex⟩:=z;refine⟨⟨o,e,ex.1⟩,fun a e2=>?_⟩;cases e2;exact⟨o,e,ex.2.1⟩
   . obtain⟨o,_,_,_,e,ex,_⟩:=I.hok p _ hk;refine⟨⟨o,e,ex.1⟩,fun a e2=>?_⟩;cases e2;exact⟨o,e,ex.2.1⟩
 | _=>exact False.elim ty
noncomputable def tBM(K:Ab)(T:String)(r:V->List V->Hp->VK->Prop)(to:TE)(t:TA):TE:=fun σ H Q=>to σ H fun x H1=>tyV K T x H1/\t σ H1 fun xs H2=>r x xs H2 Q
variable {o e:Expr} {es:List Expr} {to:TE} {t:TA} {name:Str} {apos cpos:Pos} {T id:String} {r:V->List V->Hp->VK->Prop}
theorem zlv(pa:PlainAttrs T)(slot:Slot T name id)(hty:typeOf (.builtin id)=pure (.type "method_descriptor"))(hm:MtR X id r)(ho:PE X o to)(ha:PA X (e::es) t)
   (hbase:attributeBase o name X.env (eval o X.env)=eval o X.env:=by rfl)
   (hfew:((backTo cpos (starEach (e::es) X.env)).all (fun x=>!x.1)&&(backToKw cpos (keywordEach [] X.env)).all (fun x=>x.1.isSome)
    &&decide ((e::es).length+([]:List Keyword).length+(if ([]:List Keyword).isEmpty then 0 else 1) < 30))=true:=by rfl)
   (hline:(apos.endLine==cpos.line)=true:=by rfl) (hs:starEach (e::es) X.env=(false,eval e X.env)::starEach es X.env:=by rfl) (hplain:(backTo cpos (starEach es X.env)).any (·.1)=false:=by rfl) :
   PE X (.Call (.Attribute o name apos) (e::es) [] cpos) (tBM X.K T r to t):=by
 intro pins s σ H Q I h;refine wpAny_Call_method_late hbase hfew hline rfl (thn (ho pins s σ H _ I h) ?_);rintro v s1 ⟨x,H1,I1,r1,ty,q1⟩;obtain⟨h1,h2⟩:=zlH I1 r1 ty;refine⟨T,id,pa,slot,hty,h1,h2,?_⟩;have hA:=ha cpos pins s1 σ H1 _ I1 q1;rw[hs] at hA ⊢;refine Calls.callWith_builtin (by show (false || (backTo cpos (starEach es X.env)).any (·.1))=false;rw[hplain] <;> rfl) (Calls.evalArgs_plain ?_);exact thn hA fun us s2 ⟨vs,H2,I2,r2,q2⟩=>hm pins s2 σ H2 x vs v us Q I2 r1 r2 q2
end
def MtM(X:Cx)(id:String)(r:V->List V->Hp->VK->Prop):Prop :=
 ∀ (pins:List (Addr×Obj)) (s:Shared) (σ:St) (H:Hp) (x:V) (xs:List V) (v:Value) (us:List Value) (Q:VK),Inv X pins σ H s->RelV x v->Vals xs us->r x xs H Q ->
   wpAny (model X.prog X.w) X.A (call (.builtin id) (v::us)) (EP X pins σ Q) X.xe s
theorem Vals.one:∀ {x:V} {us:List Value},Vals [x] us->∃ u,us=[u]/\RelV x u
 | _,_,.cons r .nil=>⟨_,rfl,r⟩
theorem Vals.two{x y:V}{us:List Value}(h:Vals [x,y] us):∃ u v,us=[u,v]/\RelV x u/\RelV y v:=by
 cases h with
 | cons r t =>
   cases t with
   | cons q t =>
     cases t;exact⟨_,_,rfl,r,q⟩
theorem Vals.eraseIdx:∀ {xs:List V} {us:List Value} (i:Nat),Vals xs us->Vals (xs.eraseIdx i) (us.eraseIdx i)
 | _,_,_,.nil=>.nil
 | _,_,0,.cons _ t=>t
 | _,_,i+1,.cons r t=>.cons r (Vals.eraseIdx i t)
theorem zfi{α:Type}:∀ (l:List α) (i:Nat),(l.eraseIdx i).length<=l.length
 | [],_=>Af _
 | _::_,0=>CJ _
 | _::r,i+1=>BU (zfi r i)
section
variable {X:Cx} {pins:List (Addr×Obj)} {σ:St} {H:Hp} {s:Shared} {l b:Addr} {xs ys zs:List V}
theorem Inv.lset{its its':List Value}{n:Nat}{f:Array Value->Array Value}{t':Nat}(I:Inv X pins σ H s)(hH:H l=some (.lst xs))
   (e:s.heap.get? l=some { cls:=.type "list",data:=.seq its.toArray n }) (hf:f its.toArray=its'.toArray) (hv:Vals ys its') (hz:ys.length<=sizeLine) :
   Inv X pins σ (upd H l (.lst ys)) { s with heap:=s.heap.update l (C4 f),toks:=t' }:=by
 have q:=PySem.IsL.update e f;rw[hf] at q;refine I.write (x:=l) (e:=l) (by rw[hH];exact trivial) (.inl rfl) (fun b' u hb hu=>(Dt s.heap (C4 f) (AM hb)).trans hu) ⟨_,q⟩ ?_;exact⟨hz,its',_,hv,q⟩
theorem Inv.lnew{its:List Value}{t':Nat}(I:Inv X pins σ H s)(hv:Vals ys its)(hz:ys.length<=sizeLine) :
   Inv X pins σ (upd H s.heap.objs.size (.lst ys)) { s with heap:=s.heap.push { cls:=.type "list",data:=.seq its.toArray },toks:=t' } :=
 I.laid (fun _ _ q=>Ad _ q) (Af _) ⟨hz,its,0,hv,An _ rfl⟩
theorem Inv.fresh(I:Inv X pins σ H s):H s.heap.objs.size=none:=I.hok.fresh (Af _)
theorem Inv.lstM(I:Inv X pins σ H s)(hH:H l=some (.lst xs)):xs.length<=sizeLine/\∃ (its:List Value) (n:Nat),Vals xs its/\xs.length=its.length/\s.heap.get? l=some { cls:=.type "list",data:=.seq its.toArray n }:=by
 obtain⟨z,its,n,r,e⟩:=I.hok l _ hH;exact⟨z,its,n,r,r.length,e⟩
end
section
variable {X:Cx}
noncomputable def zkH:V->List V->Hp->VK->Prop:=fun x vs H Q=>∃ l xs y,x=.ref l/\vs=[y]/\H l=some (.lst xs)/\xs.length < sizeLine/\Q .non (upd H l (.lst (xs++[y])))
theorem zfg:MtM X "list.append" zkH:=by
 intro pins s σ H x vs v us Q I rx rv h;obtain⟨l,xs,y,rfl,rfl,hH,hz,q⟩:=h;cases rx;obtain⟨u,rfl,ru⟩:=rv.one;obtain⟨z,its,n,r,hl,e⟩:=I.lstM hH;refine Cf F.slot_list_append ⟨_,e,rfl⟩ F.entry_list_append (F.args_list_append_2 _ _) (PySem.list_append l its.toArray n u (by rw[Ai];omega)) ⟨e,?_⟩;refine⟨.non,_,I.lset (its':=its++[u]) hH e (by simp) (r.append (.cons ru .nil)) ?_,rfl,q⟩;rw[AA,By];omega
noncomputable def zl2:V->List V->Hp->VK->Prop:=fun x vs H Q=>∃ l xs i k y,x=.ref l/\vs=[.int i]/\H l=some (.lst xs)/\-(2 ^ 63)<=i/\i < 2 ^ 63/\seqIndex? i xs.length=some k/\xs[k]?=some y/\Q y (upd H l (.lst (xs.eraseIdx k)))
theorem zjs:MtM X "list.pop" zl2:=by
 intro pins s σ H x vs v us Q I rx rv h;obtain⟨l,xs,i,k,y,rfl,rfl,hH,h1,h2,hk,hy,q⟩:=h;cases rx;obtain⟨u,rfl,ru⟩:=rv.one;obtain⟨t,rfl⟩:=ru;obtain⟨z,its,n,r,hl,e⟩:=I.lstM hH;obtain⟨w,hw,rw'⟩:=r.get hy;refine Cf F.slot_list_pop ⟨_,e,rfl⟩ F.entry_list_pop (F.args_list_pop_2 _ _)
   (MeetsSeq.list_pop_at l its.toArray n i t k w (fitsIndex_both h1 h2) (by rw[Ai,<-hl];exact hk) (by rw[<-Bc];exact hw) (by rw[Ai];omega)) ⟨e,?_⟩
 refine⟨y,_,I.lset (its':=its.eraseIdx k) hH e ?_ (r.eraseIdx k) ?_,rw',q⟩
 . show its.toArray.eraseIdxIfInBounds k=(its.eraseIdx k).toArray;rw[List.eraseIdxIfInBounds_toArray]
 . have:=zfi xs k;omega
noncomputable def rCat:R2:=fun x y H Q=>∃ l b xs zs,x=.ref l/\y=.ref b/\H l=some (.lst xs)/\H b=some (.lst zs)/\xs.length+zs.length<=sizeLine/\∀ p,H p=none->Q (.ref p) (upd H p (.lst (xs++zs)))
theorem zmv:OpR X (binaryOp .Add) rCat:=by
 intro pins s σ H x y v u Q I rx ry h;obtain⟨l,b,xs,zs,rfl,rfl,hH,hB,hz,q⟩:=h;cases rx;cases ry;obtain⟨z,its,n,r,hl,e⟩:=I.lstM hH;obtain⟨z2,its2,n2,r2,hl2,e2⟩:=I.lstM hB;refine PySem.P.add_list e e2 ?_ (by rw[Ai,Ai];omega);have ea:its.toArray++its2.toArray=(its++its2).toArray:=by simp
 rw[ea];exact⟨.ref _,_,I.lnew (t':=s.toks) (r.append r2) (by rw[AA];omega),rfl,q _ I.fresh⟩
end
section
variable {prog:Program} {w:World} {A:Around} {E:Value->Shared->Prop} {s:Shared}
set_option maxRecDepth 100000 in
end
end L2
namespace Att
open PySem PySem.W PySem.Calls PyProof.Rows
theorem zdH{P:Params}{h:Heap}:∀ (ns:List Int) (vs:List Value),WellAll P h vs (ns.map WData.int)->IntsAre vs ns:=by
 intro ns
 induction ns with
 | nil =>
   intro vs w;rw[B5] at w;cases w;exact .nil
 | cons n ns ih =>
   intro vs w;rw[Az] at w
   cases w with
   | cons a b =>
     cases a;exact .cons _ _ (ih _ b)
theorem zhw{l:OpenLaw}{n:Nat}(hn:l.most=some n){P:Params}{h:Heap}{args:List WData}{vals:List Value}
   (hpre:l.row.toRowW.claim.pre args=true) (hwl:WellAll P h vals args) :
   ∃ a vs ns,vals=[AO a]/\args=[WData.list (ns.map WData.int)]/\h.get? a=some { cls:=.type "list",data:=.seq vs.toArray }/\IntsAre vs ns/\ns.length<=n:=by
 have hsh:WShape.hasAll [] args [.list .int]=true:=(pre_splitW hpre).1;have hc:l.pre.holds [] { args:=args }=true:=(pre_splitW hpre).2;obtain⟨d,r,rfl,h1,h2⟩:=hasAllW_cons hsh;obtain rfl:=hasAllW_nil h2;obtain⟨xs,rfl,h3⟩:=hasW_list h1;obtain⟨ns,rfl⟩:=items_int h3;have hlen:ns.length<=n:=by
   unfold OpenLaw.pre at hc;have h4:(WTm.not (.lt (.lit (.int (n:Int))) (.len (.arg 0)))).holds [] { args:=[.list (ns.map .int)] }=true:=by
     have h4:=(holds_andW hc).1;rw[hn] at h4;exact h4
   have h5:=condW_of h4 (w_not (w_lt w_lit (w_len_list (w_arg rfl))));rw[Aq] at h5;refine Nat.le_of_not_lt fun q=>?_;have q':(n:Int) < ((ns.length:Nat):Int):=by omega
   first
     | (rw[decide_eq_true q'] at h5;exact absurd h5 (by decide))
     | (simp at h5;omega)
 cases hwl with
 | cons w1 w2 =>
   cases w2
   cases w1 with
   | list ho hall=>exact⟨_,_,ns,rfl,rfl,ho,zdH ns _ hall,hlen⟩
theorem zhA(l:OpenLaw)(args:List WData):l.row.toRowW.claim.post args (.bool true) args=true :=
 postW_of (r:=l.row.toRowW) (X:=(true==true))
   (show WShape.has [] (.bool true) .bool=true by first | rfl | decide | simp[WShape.has,WShape.arms,WShape.armsAll])
   (show (WTm.eq .res (.lit (.bool true))).value [] { args:=args,res:=some (.bool true),after:=args }=some (.bool (true==true)) from w_eq_bool (w_res rfl) w_lit) rfl
theorem attach_call{l:OpenLaw}{n:Nat}{q:Program}{loose:List Str}{XP:(Str->Option Value)->Heap->Prop}{YP:World->Heap->Prop}{d:DefRec}
   (hn:l.most=some n) (hdf:d.params.defaults=[])
   (call:∀ (w:World) (s₀ s₁:Shared) (mg mb:Str->Option Value) (fa:Addr) (o:Obj) (pm cd doc:Value) (a:Addr) (vs:List Value) (ns:List Int),
     Ground q loose [] XP w s₀ mg mb s₁.heap->YP w s₁.heap ->
     s₁.heap.get? fa=some o->o.data=.func (docDef d.name d.params d.body d.scope pm cd doc)->s₁.heap.CodeRec cd d.name->mg d.name=some (.ref fa) ->
     s₁.heap.get? a=some { cls:=.type "list",data:=.seq vs.toArray }->IntsAre vs ns->ns.length<=n->s₁.gens=#[] ->
     codeAny (model l.prog w) callerA (.call (.ref fa) ⟨[.ref a],[]⟩) (fun r s'=>r=.ok (.ret (.bool true))/\OldK s₁.heap s'.heap/\s'.os=s₁.os/\AllBare s'.gens) s₁) :
   WalkO q loose XP YP l.row.toRowW d [] (fun f vs=>Eg f vs):=by
 intro w s₀ s₁ mg mb G Y fa o pm cd doc dV kV ho hd hcd hD hmg hg args vals as hpre hlay hrd hwl hlo;obtain rfl:dV=.none:=Dflts.none hD hdf;obtain rfl:kV=.none:=Dflts.noKw hD;obtain⟨a,vs,ns,rfl,rfl,hobj,hints,hlen⟩:=zhw hn hpre hwl;refine enter_call (Cu (call w s₀ s₁ mg mb fa o pm cd doc a vs ns G Y ho (fd_plain hd) hcd hmg hobj hints hlen hg) fun r s' hq=>?_);obtain⟨rfl,h2,h3,h4⟩:=hq;exact⟨.inl ⟨.bool true,.bool true,[],rfl,fun _=>rfl,.bool true,zhA l _,fun _=>⟨DU,fun _ hm=>(nomatch hm)⟩⟩,h2,h3,h4⟩
end Att
namespace L2
open PySem PySem.Spec PyProof.Rows
theorem ze2:∀ {vs:List Value} {ns:List Int},IntsAre vs ns->Vals (ns.map V.int) vs
 | _,_,.nil=>.nil
 | _,_,.cons n t h=>.cons ⟨t,rfl⟩ (ze2 h)
def Only(H:Hp):Prop:=∀ b,H b=none\/∃ o xs,H b=some (.frz o (.lst xs))
theorem zjA{P:Program}{w:World}{K:Ab}{mg mb:Str->Option Value}{CX:CXT}{k:Nat}{fa a:Addr}{fd:FuncData}{x:Str}{sp:Sp}{s₁:Shared}{vs:List Value}{ns:List Int}
   (KX:K.In s₁.heap) (hns:s₁.heap.Ns mainGlobals mg) (hb:s₁.heap.Ns builtinsNs mb) (hbb:∀ x:Str,x≠"__name__"->mb x=bootBuiltins x) (hlim:s₁.heap.NoLimit) (hg:s₁.gens=#[])
   (ha:s₁.heap.get? a=some { cls:=.type "list",data:=.seq vs.toArray }) (hi:IntsAre vs ns) (hl:ns.length<=sizeLine) (hr:Room k callerA)
   (F:∀ base:Heap,K.In base->base.Ns mainGlobals mg->FnOk P w K mg base CX k fa fd [x] sp) (hbind:∀ (s:Shared) (u:Value),BindsTo s fd ⟨[u],[]⟩ [(x,u)])
   (hsp:∀ H:Hp,Only H->SqL K H a (ns.map V.int)->sp [.ref a] H (fun v _=>v=.bl true) fun _ _ _=>False)
   (hCX:∀ H e s',CX [] H s₁ (fun _ _ _=>False) e s'->False) :
   codeAny (model P w) callerA (.call (.ref fa) ⟨[.ref a],[]⟩) (fun r s'=>r=.ok (.ret (.bool true))/\OldK s₁.heap s'.heap/\s'.os=s₁.os/\AllBare s'.gens) s₁:=by
 have rv:=ze2 hi;have lenV:=hi.length
 -- from an abstract heap in which nothing but the script may be tracked
 have core:∀ H:Hp,Only H->SqL K H a (ns.map V.int)->HOk P w H s₁.heap->(∀ b,H b≠none->b=a)->(H a≠none->K.lookup a=none) ->
     codeAny (model P w) callerA (.call (.ref fa) ⟨[.ref a],[]⟩) (fun r s'=>r=.ok (.ret (.bool true))/\OldK s₁.heap s'.heap/\s'.os=s₁.os/\AllBare s'.gens) s₁:=by
   intro H hO hS hok hA hK;have base_of:∀ {b:Addr} {o:Obj},s₁.heap.get? b=some o->H b=none->(hidT s₁.heap H).get? b=some o:=fun e n=>zjG e n;have noA:∀ {b:Addr} {o:Obj} {es:Array DictEntry} {ep:Nat},s₁.heap.get? b=some o->o.data=.dict es ep->H b=none:=fun {b o es ep} e d=>by
     cases q:H b with
     | none=>rfl
     | some u =>
       have e':b=a:=hA b (by rw[q];simp);subst e';rw[ha] at e;cases e;have d':Data.seq vs.toArray _=Data.dict es ep:=d;cases d'
   have nsK:∀ {b:Addr} {m:Str->Option Value},s₁.heap.Ns b m->(hidT s₁.heap H).Ns b m:=fun {b m} ⟨o,es,ep,e,d,r⟩=>⟨o,es,ep,base_of e (noA e d),d,r⟩
   have hKb:K.In (hidT s₁.heap H):=fun b o e=>base_of (KX b o e) (by
     cases q:H b with
     | none=>rfl
     | some u =>
       have e':b=a:=hA b (by rw[q];simp);subst e';rw[hK (by rw[q];simp)] at e;cases e)
   have hM:Mod K mg (hidT s₁.heap H):=⟨hKb,nsK hns,⟨mb,nsK hb,hbb⟩,let ⟨mc,h1,h2⟩:=hlim;⟨mc,nsK h1,h2⟩⟩
   have e0:Env0 P w K mg (hidT s₁.heap H) callerA [] s₁ H:=⟨rfl,hM,fun b o e=>zk4 e,Nat.le_of_eq (zhZ _ _),trivial,fun b hb=>absurd (show b∈([]:List Addr) from hb) (by simp),hok,.of_eq hg⟩
   refine Cu ((F _ hKb (nsK hns)).run callerA [] s₁ H ⟨[.ref a],[]⟩ [.ref a] [.ref a] _ _ hr e0 (hbind s₁ (.ref a)) (.cons rfl .nil) (hsp H hO hS)) fun r s' h=>?_
   cases r with
   | error e=>exact (hCX H e s' h).elim
   | ok fl =>
     cases fl with
     | next=>exact False.elim h
     | brk=>exact False.elim h
     | cont=>exact False.elim h
     | ret u =>
       obtain⟨v,H',os,bare,un,hok',r',q⟩:=h;have q':v=.bl true:=q;subst q';obtain rfl:u=Cr true:=r';refine⟨rfl,OldK.of_keep fun b o e=>?_,os,bare⟩
       cases q:H b with
       | none=>exact un.keep b o e q (by intro z;exact absurd (show b∈([]:List Addr) from z) (by simp)) (by simp)
       | some u =>
         rcases hO b with z | ⟨ob,xs,z⟩
         . rw[q] at z;cases z
         . have z2:=un.frzs b ob _ z;obtain⟨e1,_⟩:=hok b _ z;obtain⟨e2,_⟩:=hok' b _ z2;rw[e] at e1;cases e1;exact e2
 cases hk:K.lookup a with
 | some o =>
   -- the script is one of the module's own objects
   have e:=KX a o hk;rw[ha] at e;cases e;refine core (fun _=>none) (fun _=>.inl rfl) (.inr ⟨_,vs.toArray,_,hk,rfl,rfl,rfl,by rw[Ai,lenV];exact hl,by simpa using rv⟩) (fun b u z=>by have z':(none:Option HO)=some u:=z;cases z') (fun b z=>absurd rfl z) fun z=>absurd rfl z
 | none =>
   refine core (fun b=>if b=a then some (.frz { cls:=.type "list",data:=.seq vs.toArray } (.lst (ns.map V.int))) else none) (fun b=>?_) (.inl (.inr ⟨{ cls:=.type "list",data:=.seq vs.toArray },if_pos rfl⟩)) (fun b u z=>?_) (fun b z=>?_) fun _=>hk
   . by_cases hb:b=a
     . exact .inr ⟨_,_,if_pos hb⟩
     . exact .inl (if_neg hb)
   . by_cases hb:b=a
     . have z':=(if_pos hb).symm.trans z;cases z';subst hb;exact⟨ha,by rw[Aq];exact hl,vs,_,rv,ha⟩
     . have z':=(if_neg hb).symm.trans z;cases z'
   . by_cases hb:b=a
     . exact hb
     . exact absurd (if_neg hb) z
theorem walk_of{l:Dk}{n k:Nat}{q:Program}{loose:List Str}{XP:(Str->Option Value)->Heap->Prop}{YP:World->Heap->Prop}{d:DefRec}{K:Params->Ab}{CX:World->CXT}{sp:World->Sp}{x:Str}
   (hn:l.most=some n) (hn2:n<=sizeLine) (hdf:d.params.defaults=[]) (hr:Room k callerA)
   (hY:∀ (w:World) (h:Heap),YP w h->(K w.params).In h)
   (F:∀ (w:World) (mg:Str->Option Value) (fa:Addr) (h:Heap),(K w.params).In h->h.Ns mainGlobals mg->mg d.name=some (.ref fa) ->
     ∃ fd:FuncData,(∀ (s:Shared) (u:Value),BindsTo s fd ⟨[u],[]⟩ [(x,u)]) /\
       ∀ base:Heap,(K w.params).In base->base.Ns mainGlobals mg->FnOk l.prog w (K w.params) mg base (CX w) k fa fd [x] (sp w))
   (hsp:∀ (w:World) (H:Hp) (a:Addr) (ns:List Int),ns.length<=n->Only H->SqL (K w.params) H a (ns.map V.int)->sp w [.ref a] H (fun v _=>v=.bl true) fun _ _ _=>False)
   (hCX:∀ (w:World) (H:Hp) (s:Shared) (e:Value) (s':Shared),CX w [] H s (fun _ _ _=>False) e s'->False) :
   Eu q loose XP YP l.row.toRowW d [] (fun f vs=>Eg f vs):=by
 refine Att.attach_call hn hdf fun w s₀ s₁ mg mb fa o pm cd doc a vs ns G Y ho hd hcd hmg hobj hints hlen hg=>?_;have KX:=hY w _ Y;obtain⟨fd,hb,hF⟩:=F w mg fa _ KX G.T.g hmg;exact zjA KX G.T.g G.T.b G.T.builtins G.T.nolimit hg hobj hints (AD hlen hn2) hr hF hb (fun H hO hS=>hsp w H a ns hlen hO hS) fun H e s'=>hCX w H s₁ e s'
noncomputable def zdu(s:Stmt):Arguments:=match s with
 | .FunctionDef _ a _ _ _ _ _ _ _ _=>a
 | _=>{ posonlyargs:=[],args:=[],vararg:=none,kwonlyargs:=[],kw_defaults:=[],kwarg:=none,defaults:=[] }
noncomputable def zce(s:Stmt):List Stmt:=match s with
 | .FunctionDef _ _ b _ _ _ _ _ _ _=>b
 | _=>[]
noncomputable def zan(s:Stmt):Scope:=match s with
 | .FunctionDef _ _ _ _ _ _ sc _ _ _=>sc
 | _=>{ kind:=.function,names:=[],isGenerator:=false,isCoroutine:=false }
noncomputable abbrev CX0:CXT:=fun _ _ _ _ _ _=>False
noncomputable abbrev E0:XK:=fun _ _ _=>False
theorem znu{X:Cx}:Passes CX0 X E0:=fun _ _ _ _ _ _ _ h=>h.elim
structure Fun(K:Ab)(x qual:Str)(st:Stmt)(f:Addr)(fd:FuncData):Prop where
 ex:∃ (oc:Value) (od:Option Addr) (kV doc pm:Value) (an:Option Addr) (cdv ct:Value) (osl:Array (Option Value)),
   fd=Bu x qual (zdu st) (zce st) (zan st) .none kV doc pm an cdv ct/\K.lookup f=some ⟨oc,od,.func fd,osl⟩/\Cd K cdv qual=true
 kp:BD K (.ref f)=true
section
variable {P:Program} {w:World} {K:Ab} {mg:Str->Option Value} {base:Heap}
theorem Fun.ok{x qual:Str}{st:Stmt}{f:Addr}{fd:FuncData}{N ps:List Str}{k:Nat}{sp:Sp}(F:Fun K x qual st f fd)(S:FnScope N ps (zan st))(len:∀ vs H Q E,sp vs H Q E->vs.length=ps.length)
   (hbody:∀ (cdv:Value) (A:Around) (outer:List Env) (s:Shared) (H:Hp) (vs:List V) (Q:VK) (E:XK),Room k (A.deeper (envOfC qual (zan st) s.heap.objs.size f cdv))->sp vs H Q E ->
     ∃ t,PSs (cxOf CX0 P w K mg base N qual (zan st) f cdv A outer s H E).nox (zce st) t/\t { nx:=fun _ H'=>Q .non H',rt:=Q } (start N vs) H):FnOk P w K mg base CX0 (k+1) f fd ps sp:=by
 obtain⟨oc,od,kV,doc,pm,an,cdv,ct,osl,rfl,lk,hcd⟩:=F.ex;refine znI lk hcd S len fun A outer s H vs Q E hr hsp=>?_;obtain⟨t,h,q⟩:=hbody cdv A outer s H vs Q E hr hsp;exact⟨t,h.nox,q⟩
theorem Fun.binds{x qual:Str}{st:Stmt}{f:Addr}{fd:FuncData}{ps:List Str}(F:Fun K x qual st f fd)
   (h:∀ (kV doc pm:Value) (an:Option Addr) (cdv ct:Value) (us:List Value),us.length=ps.length->bindArgs (Bu x qual (zdu st) (zce st) (zan st) .none kV doc pm an cdv ct) ⟨us,[]⟩=pure (ps.zip us)):Binds K fd ps []:=by
 obtain⟨oc,od,kV,doc,pm,an,cdv,ct,osl,rfl,lk,hcd⟩:=F.ex;exact .all (h kV doc pm an cdv ct)
theorem zjH{x qual:Str}{st:Stmt}{f:Addr}{oc:Value}{od an:Option Addr}{osl:Array (Option Value)}{kV doc pm cdv ct:Value}(l:K.lookup f=some ⟨oc,od,.func (Bu x qual (zdu st) (zce st) (zan st) .none kV doc pm an cdv ct),osl⟩)
   (c:Cd K cdv qual=true) (k:BD K (.ref f)=true):Fun K x qual st f (Bu x qual (zdu st) (zce st) (zan st) .none kV doc pm an cdv ct):=⟨⟨oc,od,kV,doc,pm,an,cdv,ct,osl,rfl,l,c⟩,k⟩
end
theorem zch{A:Around}{k:Nat}(hr:Room k A):A.units+1 < cLine:=B7 (CD (by decide:1<=64) _) hr.units
end L2
namespace L2.MP
open PySem PySem.Spec PyProof.Rows
inductive D where
 | non | bl (b:Bool) | int (i:Int) | str (x:Str) | tup (xs:List D) | ref (n:Nat) | kl (xs:List D)
inductive O where
 | lst (xs:List D) | fz (xs:List D) | dk (kvs:List (Key×D)) | dt (kvs:List (List Key×D)) | fk (kvs:List (Key×D)) | ft (kvs:List (List Key×D)) | ob (C:Addr) (fs:List (Str×D)) | sz (n:Nat)
noncomputable abbrev Sto:=List O
noncomputable abbrev Rho:=List (Option D)
structure Kp(H H':Hp):Prop where
 tup:∀ a xs,H a=some (.tup xs)->H' a=some (.tup xs)
 frz:∀ a o u,H a=some (.frz o u)->H' a=some (.frz o u)
def SqF(K:Ab)(H:Hp)(a:Addr)(xs:List V):Prop :=
 (∃ o,H a=some (.frz o (.lst xs)))\/∃ (o:Obj) (its:Array Value) (n:Nat),K.lookup a=some o/\o.cls=.type "list"/\o.dict=none/\o.data=.seq its n/\its.size<=sizeLine/\Vals xs its.toList
theorem SqF.sq{K:Ab}{H:Hp}{a:Addr}{xs:List V}(h:SqF K H a xs):SqL K H a xs:=by
 rcases h with h | h
 . exact .inl (.inr h)
 . exact .inr h
theorem SqF.kp{K:Ab}{H H':Hp}{a:Addr}{xs:List V}(T:Kp H H')(h:SqF K H a xs):SqF K H' a xs:=by
 rcases h with ⟨o,h⟩ | h
 . exact .inl ⟨o,T.frz _ _ _ h⟩
 . exact .inr h
mutual
noncomputable def Rep(K:Ab)(H:Hp)(io:List Addr):V->D->Prop
 | v,.non=>v=.non
 | v,.bl b=>v=.bl b
 | v,.int i=>v=.int i
 | v,.str x=>v=.str x
 | v,.tup ds=>∃ a xs,v=.ref a/\H a=some (.tup xs)/\Reps K H io xs ds
 | v,.ref n=>∃ a,v=.ref a/\io[n]?=some a
 | v,.kl ds=>∃ a xs,v=.ref a/\SqF K H a xs/\Reps K H io xs ds
noncomputable def Reps(K:Ab)(H:Hp)(io:List Addr):List V->List D->Prop
 | xs,[]=>xs=[]
 | xs,d::ds=>∃ y ys,xs=y::ys/\Rep K H io y d/\Reps K H io ys ds
end
mutual
theorem Rep.mono{K:Ab}{H H':Hp}{io ka:List Addr}(T:Kp H H'):∀ {v:V} {d:D},Rep K H io v d->Rep K H' (io++ka) v d
 | _,.non,h=>h
 | _,.bl _,h=>h
 | _,.int _,h=>h
 | _,.str _,h=>h
 | _,.tup ds,h=>by
   obtain⟨a,xs,e,q,r⟩:=h;exact⟨a,xs,e,T.tup a xs q,Reps.mono T r⟩
 | _,.ref n,h=>by
   obtain⟨a,e,q⟩:=h;exact⟨a,e,by rw[Ah (List.getElem?_eq_some_iff.mp q).1];exact q⟩
 | _,.kl ds,h=>by
   obtain⟨a,xs,e,q,r⟩:=h;exact⟨a,xs,e,q.kp T,Reps.mono T r⟩
theorem Reps.mono{K:Ab}{H H':Hp}{io ka:List Addr}(T:Kp H H'):∀ {xs:List V} {ds:List D},Reps K H io xs ds->Reps K H' (io++ka) xs ds
 | _,[],h=>h
 | _,d::ds,h=>by
   obtain⟨y,ys,e,r,rs⟩:=h;exact⟨y,ys,e,Rep.mono T r,Reps.mono T rs⟩
end
section
variable {K:Ab} {H H' H1 H2:Hp} {io ka kb:List Addr} {st st':Sto} {xs ys:List V} {ds es:List D}
theorem Reps.length:∀ {xs:List V} {ds:List D},Reps K H io xs ds->xs.length=ds.length
 | _,[],h=>by rw[show _=[] from h];rfl
 | _,d::ds,h=>by
   obtain⟨y,ys,e,_,rs⟩:=h;rw[e,BE,BE,Reps.length rs]
theorem Reps.get:∀ {xs:List V} {ds:List D} {i:Nat} {d:D},Reps K H io xs ds->ds[i]?=some d->∃ v,xs[i]?=some v/\Rep K H io v d
 | _,[],_,_,_,e=>by simp at e
 | _,a::ds,0,d,h,e=>by
   obtain⟨y,ys,rfl,r,_⟩:=h;have e':a=d:=by simpa using e
   subst e';exact⟨y,rfl,r⟩
 | _,a::ds,i+1,d,h,e=>by
   obtain⟨y,ys,rfl,_,rs⟩:=h;exact Reps.get (i:=i) rs (by simpa using e)
theorem Reps.append:∀ {xs ys:List V} {ds es:List D},Reps K H io xs ds->Reps K H io ys es->Reps K H io (xs++ys) (ds++es)
 | _,_,[],_,h,q=>by rw[show _=[] from h];exact q
 | _,_,d::ds,_,h,q=>by
   obtain⟨y,ys,rfl,r,rs⟩:=h;exact⟨y,_,rfl,r,Reps.append rs q⟩
theorem Reps.set:∀ {xs:List V} {ds:List D} {v:V} {d:D} (i:Nat),Reps K H io xs ds->Rep K H io v d->Reps K H io (xs.set i v) (ds.set i d)
 | _,[],_,_,_,h,_=>by rw[show _=[] from h];exact rfl
 | _,a::ds,v,d,0,h,q=>by
   obtain⟨y,ys,rfl,_,rs⟩:=h;exact⟨v,ys,rfl,q,rs⟩
 | _,a::ds,v,d,i+1,h,q=>by
   obtain⟨y,ys,rfl,r,rs⟩:=h;exact⟨y,_,rfl,r,Reps.set i rs q⟩
theorem Reps.take:∀ {xs:List V} {ds:List D} (n:Nat),Reps K H io xs ds->Reps K H io (xs.take n) (ds.take n)
 | _,[],n,h=>by rw[show _=[] from h];simp[Reps]
 | _,_::_,0,_=>by simp[Reps]
 | _,d::ds,n+1,h=>by
   obtain⟨y,ys,rfl,r,rs⟩:=h;exact⟨y,_,rfl,r,Reps.take n rs⟩
theorem Reps.drop:∀ {xs:List V} {ds:List D} (n:Nat),Reps K H io xs ds->Reps K H io (xs.drop n) (ds.drop n)
 | _,[],n,h=>by rw[show _=[] from h];simp[Reps]
 | _,_::_,0,h=>h
 | _,d::ds,n+1,h=>by
   obtain⟨y,ys,rfl,r,rs⟩:=h;exact Reps.drop n rs
theorem Reps.nil:Reps K H io [] []:=rfl
theorem Reps.cons{v:V}{d:D}(r:Rep K H io v d)(rs:Reps K H io xs ds):Reps K H io (v::xs) (d::ds):=⟨v,xs,rfl,r,rs⟩
theorem Reps.one{d:D}(r:Reps K H io xs [d]):∃ v,xs=[v]/\Rep K H io v d:=by
 obtain⟨y,ys,rfl,r,e⟩:=r
 cases (show ys=[] from e)
 exact⟨y,rfl,r⟩
theorem Reps.two{d e:D}(r:Reps K H io xs [d,e]):∃ v u,xs=[v,u]/\Rep K H io v d/\Rep K H io u e:=by
 obtain⟨y,ys,rfl,r,q⟩:=r;obtain⟨v,rfl,q'⟩:=q.one;exact⟨y,v,rfl,r,q'⟩
noncomputable abbrev KR (κ:Type) (K:Ab) (H:Hp) (io:List Addr):List (κ×V)->List (κ×D)->Prop:=Paired fun (p:κ×V) (q:κ×D)=>p.1=q.1/\Rep K H io p.2 q.2
def SetZ(a:Addr)(n:Nat)(h:Heap):Prop:=∃ o es ep t,h.get? a=some o/\o.ExactSet/\o.data=.set es ep t/\es.size < scanBound/\t.fits es.size=true/\es.size=n
noncomputable def OR(K:Ab)(H:Hp)(io:List Addr)(a:Addr):O->Prop
 | .lst ds=>∃ xs,H a=some (.lst xs)/\Reps K H io xs ds
 | .fz ds=>∃ o xs,H a=some (.frz o (.lst xs))/\Reps K H io xs ds
 | .dk kvs=>∃ ps,H a=some (.dK ps)/\KR Key K H io ps kvs
 | .dt kvs=>∃ ps,H a=some (.dT ps)/\KR (List Key) K H io ps kvs
 | .fk kvs=>∃ o ps,H a=some (.frz o (.dK ps))/\KR Key K H io ps kvs
 | .ft kvs=>∃ o ps,H a=some (.frz o (.dT ps))/\KR (List Key) K H io ps kvs
 | .ob C fs=>∃ dx ps,H a=some (.ins C dx ps)/\KR Str K H io ps fs
 | .sz n=>H a=some (.ext (SetZ a n))
structure StR(K:Ab)(H:Hp)(io:List Addr)(st:Sto):Prop where
 len:io.length=st.length
 nd:io.Nodup
 ob:∀ (n:Nat) (a:Addr) (o:O),io[n]?=some a->st[n]?=some o->OR K H io a o
structure EnvR(K:Ab)(H:Hp)(io:List Addr)(σ:St)(ρ:Rho):Prop where
 len:σ.length=ρ.length
 at_:∀ (i:Nat) (d:D),ρ[i]?=some (some d)->∃ v,σ[i]?=some (some v)/\Rep K H io v d
structure Ext(io ka:List Addr)(H H':Hp):Prop where
 keep:∀ b o,H b=some o->b ∉ io->H' b=some o
 fresh:∀ b,b∈ka->H b=none
 frz:∀ b o u,H b=some (.frz o u)->H' b=some (.frz o u)
theorem OR.stands{a:Addr}{o:O}(h:OR K H io a o):∃ u,H a=some u/\∀ xs,u≠.tup xs/\∀ ob,u≠.frz ob (.tup xs):=by
 cases o with
 | lst ds=>obtain⟨xs,e,_⟩:=h;exact⟨_,e,fun _=>⟨by simp,by simp⟩⟩
 | fz ds=>obtain⟨ob,xs,e,_⟩:=h;exact⟨_,e,fun _=>⟨by simp,by simp⟩⟩
 | dk kvs=>obtain⟨xs,e,_⟩:=h;exact⟨_,e,fun _=>⟨by simp,by simp⟩⟩
 | dt kvs=>obtain⟨xs,e,_⟩:=h;exact⟨_,e,fun _=>⟨by simp,by simp⟩⟩
 | fk kvs=>obtain⟨ob,xs,e,_⟩:=h;exact⟨_,e,fun _=>⟨by simp,by simp⟩⟩
 | ft kvs=>obtain⟨ob,xs,e,_⟩:=h;exact⟨_,e,fun _=>⟨by simp,by simp⟩⟩
 | ob C fs=>obtain⟨dx,xs,e,_⟩:=h;exact⟨_,e,fun _=>⟨by simp,by simp⟩⟩
 | sz n=>exact⟨_,h,fun _=>⟨by simp,by simp⟩⟩
theorem StR.mem(S:StR K H io st){a:Addr}(h:a∈io):∃ u,H a=some u/\∀ xs,u≠.tup xs/\∀ ob,u≠.frz ob (.tup xs):=by
 obtain⟨n,hn,e⟩:=DJ h;have h1:io[n]?=some a:=by rw[AW hn,e]
 have h2:n < st.length:=by rw[<-S.len];exact hn
 exact (S.ob n a _ h1 (AW h2)).stands
theorem Ext.sqT(S:StR K H io st)(E:Ext io ka H H'):∀ a xs,H a=some (.tup xs)->H' a=some (.tup xs):=by
 intro a xs h;refine E.keep _ _ h fun m=>?_;obtain⟨u,e,q⟩:=S.mem m;rw[h] at e;exact (q xs).1 (As e).symm
theorem Ext.kp(S:StR K H io st)(E:Ext io ka H H'):Kp H H':=⟨E.sqT S,E.frz⟩
theorem Ext.refl:Ext io [] H H:=⟨fun _ _ h _=>h,fun _ h=>absurd h (by simp),fun _ _ _ h=>h⟩
theorem Ext.trans(S1:StR K H1 (io++ka) st)(E1:Ext io ka H H1)(E2:Ext (io++ka) kb H1 H2):Ext io (ka++kb) H H2 where
 keep:=fun b o h n=>E2.keep b o (E1.keep b o h n) fun m=>by
   rcases List.mem_append.mp m with m | m
   . exact n m
   . rw[E1.fresh b m] at h;cases h
 fresh:=fun b m=>by
   rcases List.mem_append.mp m with m | m
   . exact E1.fresh b m
   . have h1:=E2.fresh b m
     cases e:H b with
     | none=>rfl
     | some o =>
       by_cases hb:b∈io
       . obtain⟨u,e',_⟩:=S1.mem (Be _ hb);rw[e'] at h1;cases h1
       . rw[E1.keep b o e hb] at h1;cases h1
 frz:=fun b o u h=>E2.frz b o u (E1.frz b o u h)
theorem Ext.app(E:Ext io (ka++[]) H H'):Ext io ka H H':=by rw[Al] at E;exact E
theorem Rep.ext{v:V}{d:D}(S:StR K H io st)(E:Ext io ka H H')(h:Rep K H io v d):Rep K H' (io++ka) v d:=Rep.mono (E.kp S) h
theorem Reps.ext(S:StR K H io st)(E:Ext io ka H H')(h:Reps K H io xs ds):Reps K H' (io++ka) xs ds:=Reps.mono (E.kp S) h
theorem EnvR.ext{σ:St}{ρ:Rho}(h:EnvR K H io σ ρ)(S:StR K H io st)(E:Ext io ka H H'):EnvR K H' (io++ka) σ ρ :=
 ⟨h.len,fun i d e=>let ⟨v,q,r⟩:=h.at_ i d e;⟨v,q,r.ext S E⟩⟩
theorem EnvR.set{σ:St}{ρ:Rho}{v:V}{d:D}(i:Nat)(h:EnvR K H io σ ρ)(r:Rep K H io v d):EnvR K H io (σ.set i (some v)) (ρ.set i (some d)):=by
 refine⟨by rw[B0,B0];exact h.len,fun j e q=>?_⟩
 by_cases hij:i=j
 . subst hij;rw[CZ] at q;rw[if_pos rfl] at q
   split at q
   . rename_i hl
     cases (As (As q))
     exact⟨v,by rw[CZ,if_pos rfl,if_pos (by rw[h.len];exact hl)],r⟩
   . cases q
 . rw[AB hij] at q;obtain⟨u,q',r'⟩:=h.at_ j e q;exact⟨u,by rw[AB hij];exact q',r'⟩
theorem StR.nil(S:StR K H io st):StR K H (io++[]) st:=by rw[Al];exact S
theorem KR.mono{κ:Type}{ps:List (κ×V)}{kvs:List (κ×D)}(T:Kp H H')(h:KR κ K H io ps kvs):KR κ K H' (io++ka) ps kvs:=Paired.mapP h fun _ _ z=>⟨z.1,Rep.mono T z.2⟩
theorem OR.mono{a:Addr}{o:O}(T:Kp H H')(e:H' a=H a)(h:OR K H io a o):OR K H' (io++ka) a o:=by
 cases o with
 | lst ds=>obtain⟨xs,q,r⟩:=h;exact⟨xs,e.trans q,Reps.mono T r⟩
 | fz ds=>obtain⟨ob,xs,q,r⟩:=h;exact⟨ob,xs,e.trans q,Reps.mono T r⟩
 | dk kvs=>obtain⟨xs,q,r⟩:=h;exact⟨xs,e.trans q,KR.mono T r⟩
 | dt kvs=>obtain⟨xs,q,r⟩:=h;exact⟨xs,e.trans q,KR.mono T r⟩
 | fk kvs=>obtain⟨ob,xs,q,r⟩:=h;exact⟨ob,xs,e.trans q,KR.mono T r⟩
 | ft kvs=>obtain⟨ob,xs,q,r⟩:=h;exact⟨ob,xs,e.trans q,KR.mono T r⟩
 | ob C fs=>obtain⟨dx,xs,q,r⟩:=h;exact⟨dx,xs,e.trans q,KR.mono T r⟩
 | sz n=>exact e.trans h
theorem zff{p:Addr}{o:HO}(S:StR K H io st)(hp:H p=none):Ext io [] H (upd H p o)/\StR K (upd H p o) (io++[]) st:=by
 have E:Ext io [] H (upd H p o):=⟨fun b u h _=>by rw[zaW (zax h hp)];exact h,fun _ h=>absurd h (by simp),fun b u v h=>by rw[zaW (zax h hp)];exact h⟩
 refine⟨E,?_⟩;refine⟨by rw[Al];exact S.len,by rw[Al];exact S.nd,fun n a ob h1 h2=>?_⟩;rw[Al] at h1;obtain⟨u,hu,_⟩:=(S.ob n a ob h1 h2).stands;exact OR.mono (E.kp S) (zaW (zax hu hp)) (S.ob n a ob h1 h2)
theorem zjq{p:Addr}{o:HO}{ob:O}(S:StR K H io st)(hp:H p=none)(new:∀ H',Kp H H'->H' p=some o->OR K H' (io++[p]) p ob):Ext io [p] H (upd H p o)/\StR K (upd H p o) (io++[p]) (st++[ob]):=by
 have E:Ext io [p] H (upd H p o):=⟨fun b u h _=>by rw[zaW (zax h hp)];exact h,fun b h=>by rw[List.mem_singleton.mp h];exact hp,fun b u v h=>by rw[zaW (zax h hp)];exact h⟩
 have np:p ∉ io:=fun m=>by
   obtain⟨u,hu,_⟩:=S.mem m;rw[hp] at hu;cases hu
 refine⟨E,by simp[S.len],?_,fun n a ob' h1 h2=>?_⟩
 . rw[DV];refine⟨S.nd,by simp,fun a ha b hb=>?_⟩;rw[List.mem_singleton.mp hb];rintro rfl;exact np ha
 . by_cases hn:n < io.length
   . rw[Ah hn] at h1;rw[Ah (by rw[<-S.len];exact hn)] at h2;obtain⟨u,hu,_⟩:=(S.ob n a ob' h1 h2).stands;exact OR.mono (E.kp S) (zaW (zax hu hp)) (S.ob n a ob' h1 h2)
   . have hl:n < (io++[p]).length:=(List.getElem?_eq_some_iff.mp h1).1;rw[AA,By] at hl;have e:n=io.length:=by omega
     subst e;rw[AK (Af _),Cv] at h1;rw[S.len,AK (Af _),Cv] at h2
     cases (As h1)
     cases (As h2)
     exact new _ (E.kp S) zbU
theorem zgg{p:Addr}{n:Nat}{o:HO}{ob old:O}(S:StR K H io st)(hn:io[n]?=some p)(ho:st[n]?=some old)(nf:∀ o u,H p≠some (.frz o u))(new:∀ H',Kp H H'->H' p=some o->OR K H' (io++[]) p ob):Ext io [] H (upd H p o)/\StR K (upd H p o) (io++[]) (st.set n ob):=by
 have hp:p∈io:=BC hn;have E:Ext io [] H (upd H p o):=⟨fun b u h nb=>by rw[zaW (fun e=>nb (by rw[e];exact hp))];exact h,fun b h=>absurd h (by simp),fun b u v h=>by
   by_cases hb:b=p
   . subst hb;exact absurd h (nf u v)
   . rw[zaW hb];exact h⟩
 refine⟨E,by simp[S.len],by rw[Al];exact S.nd,fun m a ob' h1 h2=>?_⟩;rw[Al] at h1
 by_cases hm:m=n
 . subst hm;rw[hn] at h1
   cases (As h1)
   rw[CZ,if_pos rfl] at h2
   split at h2
   . cases (As h2)
     exact new _ (E.kp S) zbU
   . cases h2
 . rw[AB (fun e=>hm e.symm)] at h2;have hap:a≠p:=fun e=>by
     subst e;exact hm ((List.getElem?_inj (List.getElem?_eq_some_iff.mp h1).1 S.nd).mp (h1.trans hn.symm))
   exact OR.mono (E.kp S) (zaW hap) (S.ob m a ob' h1 h2)
end
noncomputable abbrev ME:=Rho->Sto->Option (D×Sto)
noncomputable abbrev MT:=Rho->Sto->Option (Bool×Sto)
noncomputable abbrev MA:=Rho->Sto->Option (List D×Sto)
inductive Fl where
 | nx (ρ:Rho) | rt (d:D) | bk (ρ:Rho) | ct (ρ:Rho)
noncomputable abbrev MS:=Rho->Sto->Option (Fl×Sto)
noncomputable abbrev MG:=D->Rho->Sto->Option (Rho×Sto)
noncomputable abbrev MGs:=List D->Rho->Sto->Option (Rho×Sto)
def Bh(K:Ab)(io:List Addr)(H:Hp)(st':Sto)(d:D)(Q:VK):Prop:=∀ v H' ka,Ext io ka H H'->StR K H' (io++ka) st'->Rep K H' (io++ka) v d->Q v H'
inductive tE (K:Ab) (m:ME) (σ:L2.St) (H:Hp) (Q:VK):Prop
 | mk (ρ:Rho) (st:Sto) (io:List Addr) (d:D) (st':Sto) (h1:EnvR K H io σ ρ) (h2:StR K H io st) (h3:m ρ st=some (d,st')) (h4:Bh K io H st' d Q)
inductive tT (K:Ab) (m:MT) (σ:L2.St) (H:Hp) (Q:Bool->Hp->Prop):Prop
 | mk (ρ:Rho) (st:Sto) (io:List Addr) (b:Bool) (st':Sto) (h1:EnvR K H io σ ρ) (h2:StR K H io st) (h3:m ρ st=some (b,st')) (h4:∀ H' ka,Ext io ka H H'->StR K H' (io++ka) st'->Q b H')
inductive tA (K:Ab) (m:MA) (σ:L2.St) (H:Hp) (Q:List V->Hp->Prop):Prop
 | mk (ρ:Rho) (st:Sto) (io:List Addr) (ds:List D) (st':Sto) (h1:EnvR K H io σ ρ) (h2:StR K H io st) (h3:m ρ st=some (ds,st')) (h4:∀ vs H' ka,Ext io ka H H'->StR K H' (io++ka) st'->Reps K H' (io++ka) vs ds->Q vs H')
noncomputable def tS(K:Ab)(m:MS):TS:=fun N σ H=>∃ ρ st io f st',EnvR K H io σ ρ/\StR K H io st/\m ρ st=some (f,st') /\
 match f with
 | .nx ρ'=>∀ σ' H' ka,Ext io ka H H'->StR K H' (io++ka) st'->EnvR K H' (io++ka) σ' ρ'->N.nx σ' H'
 | .bk ρ'=>∀ σ' H' ka,Ext io ka H H'->StR K H' (io++ka) st'->EnvR K H' (io++ka) σ' ρ'->N.bk σ' H'
 | .ct ρ'=>∀ σ' H' ka,Ext io ka H H'->StR K H' (io++ka) st'->EnvR K H' (io++ka) σ' ρ'->N.ct σ' H'
 | .rt d=>Bh K io H st' d N.rt
inductive tG (K:Ab) (m:MG) (v:V) (σ:L2.St) (H:Hp) (Q:L2.St->Hp->Prop):Prop
 | mk (d:D) (ρ:Rho) (st:Sto) (io:List Addr) (ρ':Rho) (st':Sto) (h0:Rep K H io v d) (h1:EnvR K H io σ ρ) (h2:StR K H io st) (h3:m d ρ st=some (ρ',st')) (h4:∀ σ' H' ka,Ext io ka H H'->StR K H' (io++ka) st'->EnvR K H' (io++ka) σ' ρ'->Q σ' H')
inductive tGs (K:Ab) (m:MGs) (vs:List V) (σ:L2.St) (H:Hp) (Q:L2.St->Hp->Prop):Prop
 | mk (ds:List D) (ρ:Rho) (st:Sto) (io:List Addr) (ρ':Rho) (st':Sto) (h0:Reps K H io vs ds) (h1:EnvR K H io σ ρ) (h2:StR K H io st) (h3:m ds ρ st=some (ρ',st')) (h4:∀ σ' H' ka,Ext io ka H H'->StR K H' (io++ka) st'->EnvR K H' (io++ka) σ' ρ'->Q σ' H')
def SE(X:Cx)(e:Expr)(m:ME):Prop:=PE X e (tE X.K m)
def SB(X:Cx)(e:Expr)(m:MT):Prop:=PT X e (tT X.K m)
def SA(X:Cx)(es:List Expr)(m:MA):Prop:=PA X es (tA X.K m)
def SS(X:Cx)(s:Stmt)(m:MS):Prop:=PS X s (tS X.K m)
def SSs(X:Cx)(s:List Stmt)(m:MS):Prop:=PSs X s (tS X.K m)
def SG(X:Cx)(e:Expr)(m:MG):Prop:=PG X e (tG X.K m)
def SGs(X:Cx)(e:List Expr)(m:MGs):Prop:=PGs X e (tGs X.K m)
section
variable {X:Cx} {e a b c:Expr} {es:List Expr} {st1 st2:Stmt} {rest body orelse:List Stmt} {pos:Pos} {m ma mb mc:ME} {mt mu:MT} {mm:MA} {ms mq mr:MS} {mg:MG} {mgs:MGs}
theorem PE.imp{t u:TE}(h:PE X e t)(k:∀ σ H Q,u σ H Q->t σ H Q):PE X e u:=fun pins s σ H Q I q=>h pins s σ H Q I (k σ H Q q)
theorem PT.imp{t u:TT}(h:PT X e t)(k:∀ σ H Q,u σ H Q->t σ H Q):PT X e u:=fun pins s σ H Q I q=>h pins s σ H Q I (k σ H Q q)
theorem PA.imp{t u:TA}(h:PA X es t)(k:∀ σ H Q,u σ H Q->t σ H Q):PA X es u:=fun p pins s σ H Q I q=>h p pins s σ H Q I (k σ H Q q)
theorem PS.imp{t u:TS}(h:PS X st1 t)(k:∀ N σ H,u N σ H->t N σ H):PS X st1 u:=fun pins s σ H N I q=>h pins s σ H N I (k N σ H q)
theorem PSs.imp{t u:TS}(h:PSs X rest t)(k:∀ N σ H,u N σ H->t N σ H):PSs X rest u:=fun pins s σ H N I q=>h pins s σ H N I (k N σ H q)
theorem PG.imp{t u:TG}(h:PG X e t)(k:∀ v σ H Q,u v σ H Q->t v σ H Q):PG X e u:=fun pins s σ H v w Q I r q=>h pins s σ H v w Q I r (k v σ H Q q)
theorem PGs.imp{t u:TGs}(h:PGs X es t)(k:∀ v σ H Q,u v σ H Q->t v σ H Q):PGs X es u:=fun pins s σ H v w Q I r q=>h pins s σ H v w Q I r (k v σ H Q q)
theorem zad{α β:Type}{x:Option α}{f:α->Option β}{y:β}(h:x.bind f=some y):∃ z,x=some z/\f z=some y:=by
 cases x with
 | none=>cases h
 | some z=>exact⟨z,rfl,h⟩
variable {K:Ab} {H H1 H2:Hp} {io ka kb:List Addr} {st st':Sto}
theorem Bh.now{d:D}{Q:VK}{v:V}(h:Bh K io H st d Q)(S:StR K H io st)(r:Rep K H io v d):Q v H:=h v H [] Ext.refl S.nil (by rw[Al];exact r)
theorem Bh.on{d:D}{Q:VK}(h:Bh K io H st' d Q)(S1:StR K H1 (io++ka) st)(E:Ext io ka H H1):Bh K (io++ka) H1 st' d Q:=fun v H' kb E' S' r =>
 h v H' (ka++kb) (E.trans S1 E') (by rw[<-Ak];exact S') (by rw[<-Ak];exact r)
noncomputable def mVar(i:Nat):ME:=fun ρ st=>match ρ[i]? with
 | some (some d)=>some (d,st)
 | _=>none
theorem zab(i:Nat){x:Str}{pos:Pos}(hN:X.N[i]?=some x:=by rfl)(hv:Vis X.env.scope x:=by first | exact Ax rfl | exact Aw (Ax rfl) | exact Aw (Aw rfl))(hd:(x==("__debug__":Str))=false:=by decide)
   (hcd:(x==("__classdict__":Str))=false:=by decide):SE X (.Name x pos) (mVar i):=PE.imp (zme hN hv hd hcd) <| by
 rintro σ H Q ⟨ρ,st,io,d,st',E,S,e,k⟩;unfold mVar at e
 split at e
 . rename_i d' he;cases e;obtain⟨v,hv,r⟩:=E.at_ i _ he;exact⟨v,hv,k.now S r⟩
 . cases e
noncomputable def mCon(d:D):ME:=fun _ st=>some (d,st)
theorem zag{i j pos}:SE X (.Constant (.int i) j pos) (mCon (.int i)):=PE.imp zml <| by
 rintro σ H Q ⟨ρ,st,io,d,st',E,S,e,k⟩
 cases e;exact k.now S rfl
theorem zdD{b j pos}:SE X (.Constant (.bool b) j pos) (mCon (.bl b)):=PE.imp znt <| by
 rintro σ H Q ⟨ρ,st,io,d,st',E,S,e,k⟩
 cases e;exact k.now S rfl
theorem zcu{x j pos}:SE X (.Constant (.str x) j pos) (mCon (.str x)):=PE.imp zmg <| by
 rintro σ H Q ⟨ρ,st,io,d,st',E,S,e,k⟩
 cases e;exact k.now S rfl
theorem zkA{j pos}:SE X (.Constant .none j pos) (mCon .non):=PE.imp zmj <| by
 rintro σ H Q ⟨ρ,st,io,d,st',E,S,e,k⟩
 cases e;exact k.now S rfl
theorem zkD{x:Str}{z:Str}{t:Tok}{pos:Pos}(hg:Gl X x)(hm:X.mg x=some (.str z t))(hd:(x==("__debug__":Str))=false:=by decide):SE X (.Name x pos) (mCon (.str z)) :=
 PE.imp (zkS hg hm (v:=.str z) ⟨t,rfl⟩ hd) <| by
   rintro σ H Q ⟨ρ,st,io,d,st',E,S,e,k⟩
   cases e;exact k.now S rfl
noncomputable abbrev G2:=D->D->Sto->Option (D×Sto)
inductive r2M (K:Ab) (g:G2) (x y:V) (H:Hp) (Q:VK):Prop
 | mk (dx dy:D) (st:Sto) (io:List Addr) (d:D) (st':Sto) (h0:Rep K H io x dx) (h1:Rep K H io y dy) (h2:StR K H io st) (h3:g dx dy st=some (d,st')) (h4:Bh K io H st' d Q)
def OpM(X:Cx)(f:Value->Value->Sem Value)(g:G2):Prop:=OpR X f (r2M X.K g)
noncomputable def mBin(g:G2)(ma mb:ME):ME:=fun ρ st=>(ma ρ st).bind fun (x,s1)=>(mb ρ s1).bind fun (y,s2)=>g x y s2
theorem zdl{g:G2}{σ:L2.St}{H:Hp}{Q:VK}(h:tE K (mBin g ma mb) σ H Q):tOp (r2M K g) (tE K ma) (tE K mb) σ H Q:=by
 obtain⟨ρ,st,io,d,st',E,S,e,k⟩:=h;obtain⟨⟨x,s1⟩,e1,e⟩:=zad e;obtain⟨⟨y,s2⟩,e2,e3⟩:=zad e;refine⟨ρ,st,io,x,s1,E,S,e1,fun v1 H1 k1 X1 S1 R1=>?_⟩;refine⟨ρ,s1,io++k1,y,s2,E.ext S X1,S1,e2,fun v2 H2 k2 X2 S2 R2=>?_⟩;exact⟨x,y,s2,(io++k1)++k2,d,st',R1.ext S1 X2,R2,S2,e3,(k.on S1 X1).on S2 X2⟩
theorem zaD{op:Operator}{g:G2}(ho:OpM X (binaryOp op) g)(ha:SE X a ma)(hb:SE X b mb):SE X (.BinOp a op b pos) (mBin g ma mb):=PE.imp (znr ho ha hb) fun _ _ _ h=>zdl h
theorem zgb{op:CmpOp}{g:G2}(ho:OpM X (compareOp op) g)(ha:SE X a ma)(hb:SE X b mb)(hm:behindInMarks op b=false):SE X (.Compare a [op] [b] pos) (mBin g ma mb):=PE.imp (zkU ho ha hb hm) fun _ _ _ h=>zdl h
noncomputable def mTst(m:ME):MT:=fun ρ st=>(m ρ st).bind fun (x,s1)=>match x with
 | .bl b=>some (b,s1)
 | _=>none
theorem zhm{ρ:Rho}{b:Bool}(e:mTst m ρ st=some (b,st')):m ρ st=some (.bl b,st'):=by
 obtain⟨⟨x,s1⟩,e1,e⟩:=zad e;dsimp only at e
 split at e
 . cases e;exact e1
 . cases e
theorem zdg{σ:L2.St}{H:Hp}{Q:Bool->Hp->Prop}(h:tT K (mTst m) σ H Q):tE K m σ H fun x H'=>∃ b,x=.bl b/\Q b H':=by
 obtain⟨ρ,st,io,b,st',E,S,e,k⟩:=h;exact⟨ρ,st,io,_,st',E,S,zhm e,fun v H' ka X' S' R'=>⟨b,R',k H' ka X' S'⟩⟩
theorem zbx{op:CmpOp}{g:G2}(ho:OpM X (compareOp op) g)(ha:SE X a ma)(hb:SE X b mb)(hm:behindInMarks op b=false):SB X (.Compare a [op] [b] pos) (mTst (mBin g ma mb)) :=
 PT.imp (zkI ho ha hb hm) fun σ H Q h=>zdl (zdg h)
theorem zd8(h:SE X a m)(he:∀ whole,isTrue a X.env whole=(do let v <-whole;standAt a.pos;holding [v] (truthy v)):=by intro _;rfl):SB X a (mTst m) :=
 PT.imp (zi7 h he) fun σ H Q h=>by
   obtain⟨ρ,st,io,b,st',E,S,e,k⟩:=zdg h;refine⟨ρ,st,io,b,st',E,S,e,fun v H' ka X' S' R'=>?_⟩;obtain⟨c,hc,q⟩:=k v H' ka X' S' R';subst hc;exact⟨c,rfl,q⟩
noncomputable def zcI(m:MT):MT:=fun ρ st=>(m ρ st).map fun (b,s)=>(!b,s)
theorem zci(h:SB X a mt):SB X (.UnaryOp .Not a pos) (zcI mt):=PT.imp (zl4 h) <| by
 rintro σ H Q ⟨ρ,st,io,b,st',E,S,e,k⟩;unfold zcI at e
 cases e1:mt ρ st with
 | none=>rw[e1] at e;cases e
 | some p=>rw[e1] at e;cases e;exact⟨ρ,st,io,_,_,E,S,e1,fun H' ka X' S'=>k H' ka X' S'⟩
noncomputable def ziv(m n:MT):MT:=fun ρ st=>(m ρ st).bind fun (b,s)=>if b=true then n ρ s else some (false,s)
noncomputable def mOrT(m n:MT):MT:=fun ρ st=>(m ρ st).bind fun (b,s)=>if b=true then some (true,s) else n ρ s
def SW(X:Cx)(e:Expr)(m:MT):Prop:=PW X e (tT X.K m)
theorem PW.imp{t u:TT}(h:PW X e t)(k:∀ σ H Q,u σ H Q->t σ H Q):PW X e u:=fun w pins s σ H Q I q=>h w pins s σ H Q I (k σ H Q q)
theorem SW.sb(h:SW X a mt):SB X a mt:=PW.pt h
theorem ze5(ha:SB X a mt):SW X (.BoolOp .And [a] pos) mt:=pw_and1 ha
theorem zcV(ha:SB X a mt):SW X (.BoolOp .Or [a] pos) mt:=pw_or1 ha
theorem zgr{n:MT}{σ:L2.St}{ρ:Rho}{Q:Bool->Hp->Prop}{b:Bool}{s1:Sto}(E:EnvR K H io σ ρ)(S:StR K H io st)(X1:Ext io ka H H1)(S1:StR K H1 (io++ka) s1)(e:n ρ s1=some (b,st'))(k:∀ H' ka,Ext io ka H H'->StR K H' (io++ka) st'->Q b H'):tT K n σ H1 Q :=
 ⟨ρ,s1,io++ka,b,st',E.ext S X1,S1,e,fun H' kb X' S'=>k H' (ka++kb) (X1.trans S1 X') (by rw[<-Ak];exact S')⟩
theorem zhn{rs:List Expr}(ha:SB X a mt)(hb:SW X (.BoolOp .And (b::rs) pos) mu):SW X (.BoolOp .And (a::b::rs) pos) (ziv mt mu):=PW.imp (pw_and ha hb) <| by
 rintro σ H Q ⟨ρ,st,io,v,st',E,S,e,k⟩;obtain⟨⟨x,s1⟩,e1,e⟩:=zad e;refine⟨ρ,st,io,x,s1,E,S,e1,fun H1 k1 X1 S1=>?_⟩
 cases x with
 | true=>rw[if_pos rfl];exact zgr E S X1 S1 e k
 | false =>
   rw[if_neg (by decide)];have e':some (false,s1)=some (v,st'):=e;cases e';exact k H1 k1 X1 S1
theorem zd7{rs:List Expr}(ha:SB X a mt)(hb:SW X (.BoolOp .Or (b::rs) pos) mu):SW X (.BoolOp .Or (a::b::rs) pos) (mOrT mt mu):=PW.imp (pw_or ha hb) <| by
 rintro σ H Q ⟨ρ,st,io,v,st',E,S,e,k⟩;obtain⟨⟨x,s1⟩,e1,e⟩:=zad e;refine⟨ρ,st,io,x,s1,E,S,e1,fun H1 k1 X1 S1=>?_⟩
 cases x with
 | false=>rw[if_neg (by decide)];exact zgr E S X1 S1 e k
 | true =>
   rw[if_pos rfl];have e':some (true,s1)=some (v,st'):=e;cases e';exact k H1 k1 X1 S1
noncomputable def zhL(m n:ME):ME:=fun ρ st=>(mTst m ρ st).bind fun (b,s)=>if b=true then n ρ s else some (.bl false,s)
noncomputable def zlz(m:ME):ME:=fun ρ st=>(mTst m ρ st).map fun (b,s)=>(.bl !b,s)
theorem zmx{n:ME}{σ:L2.St}{ρ:Rho}{Q:VK}{d:D}{s1:Sto}(E:EnvR K H io σ ρ)(S:StR K H io st)(X1:Ext io ka H H1)(S1:StR K H1 (io++ka) s1)(e:n ρ s1=some (d,st'))(k:Bh K io H st' d Q):tE K n σ H1 Q :=
 ⟨ρ,s1,io++ka,d,st',E.ext S X1,S1,e,k.on S1 X1⟩
theorem zej(ha:SE X a ma):SE X (.BoolOp .And [a] pos) ma:=zmh ha
theorem zeL{rs:List Expr}(ha:SE X a ma)(hb:SE X (.BoolOp .And (b::rs) pos) mb):SE X (.BoolOp .And (a::b::rs) pos) (zhL ma mb):=PE.imp (zmn ha hb) <| by
 rintro σ H Q ⟨ρ,st,io,v,st',E,S,e,k⟩;obtain⟨⟨x,s1⟩,e1,e⟩:=zad e;refine⟨ρ,st,io,.bl x,s1,E,S,zhm e1,fun v1 H1 k1 X1 S1 R1=>⟨x,R1,?_⟩⟩
 cases x with
 | true=>rw[if_pos rfl];exact zmx E S X1 S1 e k
 | false =>
   rw[if_neg (by decide)];have e':some (D.bl false,s1)=some (v,st'):=e;cases e';exact k _ H1 k1 X1 S1 rfl
theorem zlU(ha:SE X a ma):SE X (.UnaryOp .Not a pos) (zlz ma):=PE.imp (zmi ha) <| by
 rintro σ H Q ⟨ρ,st,io,v,st',E,S,e,k⟩;unfold zlz at e
 cases e1:mTst ma ρ st with
 | none=>rw[e1] at e;cases e
 | some p =>
   rw[e1] at e;cases e;exact⟨ρ,st,io,_,_,E,S,zhm e1,fun v1 H1 k1 X1 S1 R1=>⟨_,R1,k _ H1 k1 X1 S1 rfl⟩⟩
end
end L2.MP
set_option linter.unusedVariables false
namespace L2.MP
open PySem PySem.Spec PyProof.Rows
section
variable {X:Cx} {e a b c:Expr} {es:List Expr} {st1 st2:Stmt} {rest body orelse:List Stmt} {pos:Pos} {m ma mb mc:ME} {mt mu:MT} {mm:MA} {ms mq mr:MS} {mg:MG} {mgs:MGs}
variable {K:Ab} {H H1 H2:Hp} {io ka kb:List Addr} {st st':Sto}
noncomputable def mNil:MA:=fun _ st=>some ([],st)
noncomputable def zac(m:ME)(mm:MA):MA:=fun ρ st=>(m ρ st).bind fun (x,s1)=>(mm ρ s1).bind fun (xs,s2)=>some (x::xs,s2)
theorem zaf:SA X [] mNil:=PA.imp zkX <| by
 rintro σ H Q ⟨ρ,st,io,ds,st',E,S,e,k⟩
 cases e;exact k [] H [] Ext.refl S.nil Reps.nil
theorem zaa(ha:SE X e m)(hr:SA X es mm)(hs:starEach (e::es) X.env=(false,eval e X.env)::starEach es X.env:=by rfl):SA X (e::es) (zac m mm):=PA.imp (zgk ha hr hs) <| by
 rintro σ H Q ⟨ρ,st,io,ds,st',E,S,e,k⟩;obtain⟨⟨x,s1⟩,e1,e⟩:=zad e;obtain⟨⟨xs,s2⟩,e2,e⟩:=zad e;cases e;refine⟨ρ,st,io,x,s1,E,S,e1,fun v1 H1 k1 X1 S1 R1=>⟨ρ,s1,io++k1,xs,_,E.ext S X1,S1,e2,fun vs H2 k2 X2 S2 R2=>?_⟩⟩;exact k _ H2 (k1++k2) (X1.trans S1 X2) (by rw[<-Ak];exact S2) (by rw[<-Ak];exact Reps.cons (R1.ext S1 X2) R2)
noncomputable def fits(n:Nat):Bool:=decide (n<=sizeLine)
noncomputable def mTup(mm:MA):ME:=fun ρ st=>(mm ρ st).bind fun (xs,s)=>if fits xs.length=true then some (.tup xs,s) else none
noncomputable def mLst(mm:MA):ME:=fun ρ st=>(mm ρ st).bind fun (xs,s)=>if fits xs.length=true then some (.ref s.length,s++[.lst xs]) else none
theorem zam{α:Type}{c:Prop}[Decidable c]{x:Option α}{y:α}(h:(if c then x else none)=some y):c/\x=some y:=by
 by_cases hc:c
 . rw[if_pos hc] at h;exact⟨hc,h⟩
 . rw[if_neg hc] at h;cases h
theorem Bh.tup{ds:List D}{vs:List V}{Q:VK}{p:Addr}(k:Bh K io H st (.tup ds) Q)(S:StR K H io st)(R:Reps K H io vs ds)(hp:H p=none):Q (.ref p) (upd H p (.tup vs)):=by
 obtain⟨E,S'⟩:=zff (o:=.tup vs) S hp;refine k _ _ [] E S' ⟨p,vs,rfl,zbU,R.ext S E⟩
theorem getElem?_len{α:Type}(l:List α)(x:α):(l++[x])[l.length]?=some x:=by
 rw[AK (Af _),Cv];rfl
theorem Bh.lst{ds:List D}{vs:List V}{Q:VK}{p:Addr}(k:Bh K io H (st++[.lst ds]) (.ref st.length) Q)(S:StR K H io st)(R:Reps K H io vs ds)(hp:H p=none):Q (.ref p) (upd H p (.lst vs)):=by
 obtain⟨E,S'⟩:=zjq (o:=.lst vs) (ob:=.lst ds) S hp fun H' T e=>⟨vs,e,Reps.mono T R⟩
 exact k _ _ [p] E S' ⟨p,rfl,by rw[<-S.len];exact getElem?_len io p⟩
theorem zaN{x1}(h:SA X es mm):SE X (.Tuple es x1 pos) (mTup mm):=PE.imp (zmf h) <| by
 rintro σ H Q ⟨ρ,st,io,d,st',E,S,e,k⟩;obtain⟨⟨xs,s1⟩,e1,e⟩:=zad e;obtain⟨hf,e⟩:=zam e;cases e;refine⟨ρ,st,io,xs,_,E,S,e1,fun vs H1 k1 X1 S1 R1=>⟨by rw[R1.length];exact of_decide_eq_true hf,fun p hp=>(k.on S1 X1).tup S1 R1 hp⟩⟩
theorem zcl(h:SA X es mm):SE X (.List es pos) (mLst mm):=PE.imp (zmk h) <| by
 rintro σ H Q ⟨ρ,st,io,d,st',E,S,e,k⟩;obtain⟨⟨xs,s1⟩,e1,e⟩:=zad e;obtain⟨hf,e⟩:=zam e;cases e;refine⟨ρ,st,io,xs,_,E,S,e1,fun vs H1 k1 X1 S1 R1=>⟨by rw[R1.length];exact of_decide_eq_true hf,fun p hp=>(k.on S1 X1).lst S1 R1 hp⟩⟩
noncomputable abbrev GN:=List D->Sto->Option (D×Sto)
inductive rNM (K:Ab) (g:GN) (xs:List V) (H:Hp) (Q:VK):Prop
 | mk (ds:List D) (st:Sto) (io:List Addr) (d:D) (st':Sto) (h1:Reps K H io xs ds) (h2:StR K H io st) (h3:g ds st=some (d,st')) (h4:Bh K io H st' d Q)
def zdN(X:Cx)(f:Value)(g:GN):Prop:=zhe X f (rNM X.K g)
noncomputable def zav(g:GN)(mm:MA):ME:=fun ρ st=>(mm ρ st).bind fun (xs,s)=>g xs s
theorem zeu{g:GN}{σ:L2.St}{Q:VK}(h:tE K (zav g mm) σ H Q):tCB (rNM K g) (tA K mm) σ H Q:=by
 obtain⟨ρ,st,io,d,st',E,S,e,k⟩:=h;obtain⟨⟨xs,s1⟩,e1,e⟩:=zad e;exact⟨ρ,st,io,xs,s1,E,S,e1,fun vs H1 k1 X1 S1 R1=>⟨xs,s1,io++k1,d,st',R1,S1,e,k.on S1 X1⟩⟩
theorem zaq{x:Str}{p:Pos}{id:String}{g:GN}(hc:zdN X (.builtin id) g)(hg:Gl X x)(hm:X.mg x=none)(hv:bootBuiltins x=some (.builtin id))(ha:SA X (e::es) mm)(hn:x≠"__name__":=by decide)(hdb:(x==("__debug__":Str))=false:=by decide)
   (he:starEach (e::es) X.env=(false,eval e X.env)::starEach es X.env:=by rfl) (hpl:(backTo pos (starEach es X.env)).any (·.1)=false:=by rfl):SE X (.Call (.Name x p) (e::es) [] pos) (zav g mm) :=
 PE.imp (zgj hc hg hm hv ha hn hdb he hpl) fun _ _ _ h=>zeu h
theorem zbO{x:Str}{p:Pos}{T:String}{g:GN}(hc:zdN X (.type T) g)(hg:Gl X x)(hm:X.mg x=none)(hv:bootBuiltins x=some (.type T))(ha:SA X (e::es) mm)(hn:x≠"__name__":=by decide)(hdb:(x==("__debug__":Str))=false:=by decide)
   (he:starEach (e::es) X.env=(false,eval e X.env)::starEach es X.env:=by rfl) (hpl:(backTo pos (starEach es X.env)).any (·.1)=false:=by rfl):SE X (.Call (.Name x p) (e::es) [] pos) (zav g mm) :=
 PE.imp (zhC hc hg hm hv ha hn hdb he hpl) fun _ _ _ h=>zeu h
noncomputable def spM(K:Ab)(n:Nat)(g:GN):Sp:=fun vs H Q _=>∃ ds st io d st',vs.length=n/\Reps K H io vs ds/\StR K H io st/\g ds st=some (d,st')/\Bh K io H st' d Q
theorem zkF{x:Str}{p:Pos}{k:Nat}{f:Addr}{fd:FuncData}{ps:List Str}{n:Nat}{g:GN}(F:FnOk X.prog X.w X.K X.mg X.base CX0 k f fd ps (spM X.K n g))(hr:Room k X.A)(hg:Gl X x)(hm:X.mg x=some (.ref f))(hk:BD X.K (.ref f)=true)(hb:Binds X.K fd ps [])
   (ha:SA X (e::es) mm) (hdb:(x==("__debug__":Str))=false:=by decide) (he:starEach (e::es) X.env=(false,eval e X.env)::starEach es X.env:=by rfl) (hpl:(backTo pos (starEach es X.env)).any (·.1)=false:=by rfl) (hn:(e::es).length=n:=by rfl)
   (hl:∀ ρ st xs s,mm ρ st=some (xs,s)->xs.length=n) :
   SE X (.Call (.Name x p) (e::es) [] pos) (zav g mm):=PE.imp (zkV F hr hg hm hk hb .nil znu ha hdb he hpl) <| by
 rintro σ H Q ⟨ρ,st,io,d,st',E,S,e,k⟩;obtain⟨⟨xs,s1⟩,e1,e⟩:=zad e;refine⟨ρ,st,io,xs,s1,E,S,e1,fun vs H1 k1 X1 S1 R1=>⟨xs,s1,io++k1,d,st',?_,?_,S1,e,k.on S1 X1⟩⟩
 . rw[Al,R1.length];exact hl _ _ _ _ e1
 . rw[Al];exact R1
theorem zjw{ρ:Rho}{st:Sto}{xs:List D}{s:Sto}(h:mNil ρ st=some (xs,s)):xs.length=0:=by cases h;rfl
theorem zhK{ρ:Rho}{st:Sto}{xs:List D}{s:Sto}{n:Nat}(hr:∀ ρ st xs s,mm ρ st=some (xs,s)->xs.length=n)(h:zac m mm ρ st=some (xs,s)):xs.length=n+1:=by
 obtain⟨⟨x,s1⟩,e1,e⟩:=zad h;obtain⟨⟨ys,s2⟩,e2,e⟩:=zad e;cases e;rw[BE,hr _ _ _ _ e2]
noncomputable def Wn(K:Ab)(io:List Addr)(H:Hp)(st':Sto)(N:Ends):Fl->Prop
 | .nx ρ'=>∀ σ' H' ka,Ext io ka H H'->StR K H' (io++ka) st'->EnvR K H' (io++ka) σ' ρ'->N.nx σ' H'
 | .bk ρ'=>∀ σ' H' ka,Ext io ka H H'->StR K H' (io++ka) st'->EnvR K H' (io++ka) σ' ρ'->N.bk σ' H'
 | .ct ρ'=>∀ σ' H' ka,Ext io ka H H'->StR K H' (io++ka) st'->EnvR K H' (io++ka) σ' ρ'->N.ct σ' H'
 | .rt d=>Bh K io H st' d N.rt
inductive tSi (K:Ab) (m:MS) (N:Ends) (σ:L2.St) (H:Hp):Prop
 | mk (ρ:Rho) (st:Sto) (io:List Addr) (f:Fl) (st':Sto) (h1:EnvR K H io σ ρ) (h2:StR K H io st) (h3:m ρ st=some (f,st')) (h4:Wn K io H st' N f)
theorem zcU{N:Ends}{σ:L2.St}{H:Hp}:tS K ms N σ H ↔ tSi K ms N σ H:=by
 constructor
 . rintro ⟨ρ,st,io,f,st',E,S,e,k⟩;exact⟨ρ,st,io,f,st',E,S,e,by cases f <;> exact k⟩
 . rintro ⟨ρ,st,io,f,st',E,S,e,k⟩;exact⟨ρ,st,io,f,st',E,S,e,by cases f <;> exact k⟩
theorem zeo{P:L2.St->Hp->Prop}{ρ':Rho}(h:∀ σ' H' ka,Ext io ka H H'->StR K H' (io++ka) st'->EnvR K H' (io++ka) σ' ρ'->P σ' H')(X1:Ext io ka H H1)(S1:StR K H1 (io++ka) st) :
   ∀ σ' H' kb,Ext (io++ka) kb H1 H'->StR K H' ((io++ka)++kb) st'->EnvR K H' ((io++ka)++kb) σ' ρ'->P σ' H':=fun σ' H' kb E' S' R' =>
 h σ' H' (ka++kb) (X1.trans S1 E') (by rw[<-Ak];exact S') (by rw[<-Ak];exact R')
theorem Wn.on{N:Ends}{f:Fl}(h:Wn K io H st' N f)(X1:Ext io ka H H1)(S1:StR K H1 (io++ka) st):Wn K (io++ka) H1 st' N f:=by
 cases f with
 | nx ρ'=>exact zeo h X1 S1
 | bk ρ'=>exact zeo h X1 S1
 | ct ρ'=>exact zeo h X1 S1
 | rt d=>exact Bh.on h S1 X1
theorem ziP{N:Ends}{σ:L2.St}{ρ:Rho}{f:Fl}(E:EnvR K H io σ ρ)(S:StR K H io st)(e:ms ρ st=some (f,st'))(w:Wn K io H st' N f):tS K ms N σ H:=zcU.mpr ⟨ρ,st,io,f,st',E,S,e,w⟩
theorem zlI{N:Ends}{σ:L2.St}{ρ:Rho}{f:Fl}{s1:Sto}(X1:Ext io ka H H1)(S1:StR K H1 (io++ka) s1)(E:EnvR K H1 (io++ka) σ ρ)(e:ms ρ s1=some (f,st'))(w:Wn K io H st' N f):tS K ms N σ H1 :=
 ziP E S1 e (w.on X1 S1)
noncomputable def zcr:MS:=fun ρ st=>some (.nx ρ,st)
theorem zkl:SSs X [] zcr:=PSs.imp zkK fun N σ H h=>by
 obtain⟨ρ,st,io,f,st',E,S,e,w⟩:=zcU.mp h;cases e;exact w σ H [] Ext.refl S.nil (by rw[Al];exact E)
noncomputable def mSeq(m n:MS):MS:=fun ρ st=>(m ρ st).bind fun (f,s)=>match f with
 | .nx ρ1=>n ρ1 s
 | f=>some (f,s)
theorem ziT(h1:SS X st1 ms)(h2:SSs X rest mq):SSs X (st1::rest) (mSeq ms mq):=PSs.imp (zi9 h1 h2) fun N σ H h=>by
 obtain⟨ρ,st,io,f,st',E,S,e,w⟩:=zcU.mp h;obtain⟨⟨f1,s1⟩,e1,e⟩:=zad e;refine ziP E S e1 ?_
 cases f1 with
 | nx ρ1=>exact fun σ' H' ka X' S' R'=>zlI X' S' R' e w
 | bk ρ1=>cases e;exact w
 | ct ρ1=>cases e;exact w
 | rt d=>cases e;exact w
theorem zkk(h1:SS X st1 ms):SSs X [st1] ms:=zkJ h1
noncomputable def mExp(m:ME):MS:=fun ρ st=>(m ρ st).map fun (_,s)=>(.nx ρ,s)
noncomputable def mRet(m:ME):MS:=fun ρ st=>(m ρ st).map fun (d,s)=>(.rt d,s)
theorem zah{α β:Type}{x:Option α}{f:α->β}{y:β}(h:x.map f=some y):∃ z,x=some z/\f z=y:=by
 cases x with
 | none=>cases h
 | some z=>exact⟨z,rfl,As h⟩
theorem zii(he:SE X e m)(hs:swapsWith e none pos.line X.env=pure false:=by rfl):SS X (.Expr e pos) (mExp m):=PS.imp (zkL he hs) fun N σ H h=>by
 obtain⟨ρ,st,io,f,st',E,S,e,w⟩:=zcU.mp h;obtain⟨⟨d,s1⟩,e1,e⟩:=zah e;cases e;exact⟨ρ,st,io,d,_,E,S,e1,fun v H' ka X' S' R'=>w σ H' ka X' S' (E.ext S X')⟩
theorem za1(he:SE X e m):SS X (.Return (some e) pos) (mRet m):=PS.imp (zl7 he) fun N σ H h=>by
 obtain⟨ρ,st,io,f,st',E,S,e,w⟩:=zcU.mp h;obtain⟨⟨d,s1⟩,e1,e⟩:=zah e;cases e;exact⟨ρ,st,io,d,_,E,S,e1,w⟩
noncomputable def mIf(c:MT)(m n:MS):MS:=fun ρ st=>(c ρ st).bind fun (b,s)=>if b=true then m ρ s else n ρ s
theorem zni(hc:SB X c mt)(h1:SSs X body ms)(h2:SSs X orelse mq):SS X (.If c body orelse pos) (mIf mt ms mq):=PS.imp (zno hc h1 h2) fun N σ H h=>by
 obtain⟨ρ,st,io,f,st',E,S,e,w⟩:=zcU.mp h;obtain⟨⟨x,s1⟩,e1,e⟩:=zad e;refine⟨ρ,st,io,x,s1,E,S,e1,fun H1 k1 X1 S1=>?_⟩
 cases x with
 | true=>rw[if_pos rfl];exact zlI X1 S1 (E.ext S X1) e w
 | false=>rw[if_neg (by decide)];exact zlI X1 S1 (E.ext S X1) e w
noncomputable def gNm(i:Nat):MG:=fun d ρ st=>some (ρ.set i (some d),st)
theorem zbd{i:Nat}{x:Str}(hN:X.N.Nodup)(hi:X.N[i]?=some x)(hx:Loc X.env.scope x)(hf:X.fn x=true\/X.env.scope.names.lookup x=some .local:=by first | exact .inl rfl | exact .inr rfl | assumption):SG X (.Name x pos) (gNm i) :=
 PG.imp (zkQ hN hi hx hf) <| by
   rintro v σ H Q ⟨d,ρ,st,io,ρ',st',R,E,S,e,k⟩;cases e;exact k _ H [] Ext.refl S.nil (by rw[Al];exact E.set i R)
noncomputable def gN0:MGs:=fun ds ρ st=>match ds with
 | []=>some (ρ,st)
 | _=>none
noncomputable def gC(g:MG)(h:MGs):MGs:=fun ds ρ st=>match ds with
 | d::r=>(g d ρ st).bind fun (ρ1,s1)=>h r ρ1 s1
 | []=>none
theorem zf9:SGs X [] gN0:=PGs.imp zkP <| by
 rintro v σ H Q ⟨ds,ρ,st,io,ρ',st',R,E,S,e,k⟩
 cases ds with
 | nil=>cases e;exact⟨R,k σ H [] Ext.refl S.nil (by rw[Al];exact E)⟩
 | cons d r=>cases e
theorem zcC(h1:SG X e mg)(h2:SGs X es mgs)(hs:(assignEach (e::es) X.env).map (·.2)=assign e X.env::(assignEach es X.env).map (·.2):=by rfl):SGs X (e::es) (gC mg mgs) :=
 PGs.imp (zjd h1 h2 hs) <| by
   rintro v σ H Q ⟨ds,ρ,st,io,ρ',st',R,E,S,e,k⟩
   cases ds with
   | nil=>cases e
   | cons d r =>
     obtain⟨y,ys,rfl,r1,rs⟩:=R;obtain⟨⟨ρ1,s1⟩,e1,e⟩:=zad e;refine⟨y,ys,rfl,d,ρ,st,io,ρ1,s1,r1,E,S,e1,fun σ1 H1 k1 X1 S1 E1=>?_⟩;exact⟨r,ρ1,s1,io++k1,ρ',st',rs.ext S X1,E1,S1,e,zeo k X1 S1⟩
noncomputable def gTp(n:Nat)(h:MGs):MG:=fun d ρ st=>match d with
 | .tup ds=>if ds.length=n then h ds ρ st else none
 | _=>none
theorem ziZ{k:Nat}{n:Nat}(hc:X.calm=true)(h:SGs X es mgs)(hn:(assignEach es X.env).length=n:=by rfl)(hst:(assignEach es X.env).findIdx? (·.1)=none:=by rfl):SG X (.Tuple es k pos) (gTp n mgs) :=
 PG.imp (zmc hc h hn hst) <| by
   rintro v σ H Q ⟨d,ρ,st,io,ρ',st',R,E,S,e,k⟩
   cases d with
   | tup ds =>
     obtain⟨a,xs,rfl,hq,rs⟩:=R;obtain⟨hl,e⟩:=zam e;exact⟨a,xs,rfl,SqT.of hq,by rw[rs.length];exact hl,ds,ρ,st,io,ρ',st',rs,E,S,e,k⟩
   | _=>cases e
noncomputable abbrev G3:=D->D->D->Sto->Option Sto
inductive tSetM (K:Ab) (g:G3) (o i v:V) (H:Hp) (Q:Hp->Prop):Prop
 | mk (d1 d2 d3:D) (st:Sto) (io:List Addr) (st':Sto) (h0:Rep K H io o d1) (h1:Rep K H io i d2) (h2:Rep K H io v d3) (h3:StR K H io st) (h4:g d1 d2 d3 st=some st') (h5:∀ H' ka,Ext io ka H H'->StR K H' (io++ka) st'->Q H')
def SetM(X:Cx)(g:G3):Prop:=PSet X (tSetM X.K g)
noncomputable def gSb(g:G3)(mo mi:ME):MG:=fun d ρ st=>(mo ρ st).bind fun (o,s1)=>(mi ρ s1).bind fun (i,s2)=>(g o i d s2).map fun s3=>(ρ,s3)
theorem zlT{o i:Expr}{mo mi:ME}{g:G3}(ho:SE X o mo)(hi:SE X i mi)(hs:SetM X g)
   (ha:∀ v,assign (.Subscript o i pos) X.env v=(do
     let ov <-holding [v] (eval o X.env)
     let iv <-holding [v,ov] (eval i X.env)
     standAt pos
     holding [v,ov,iv] (setItem ov iv v)
     release [v,ov,iv] []):=by intro _;rfl):SG X (.Subscript o i pos) (gSb g mo mi) :=
 PG.imp (zmd ho hi hs ha) <| by
   rintro v σ H Q ⟨d,ρ,st,io,ρ',st',R,E,S,e,k⟩;obtain⟨⟨x,s1⟩,e1,e⟩:=zad e;obtain⟨⟨y,s2⟩,e2,e⟩:=zad e;obtain⟨s3,e3,e⟩:=zah e;cases e;refine⟨ρ,st,io,x,s1,E,S,e1,fun v1 H1 k1 X1 S1 R1=>⟨ρ,s1,io++k1,y,s2,E.ext S X1,S1,e2,fun v2 H2 k2 X2 S2 R2=>?_⟩⟩;have X12:=X1.trans S1 X2;refine⟨x,y,d,s2,(io++k1)++k2,_,R1.ext S1 X2,R2,(R.ext S X1).ext S1 X2,S2,e3,fun H3 k3 X3 S3=>?_⟩;rw[Ak] at X3 S2;rw[Ak,Ak] at S3;refine k σ H3 ((k1++k2)++k3) (X12.trans S2 X3) (by simpa using S3) ?_;have E2:EnvR X.K H2 (io++(k1++k2)) σ ρ:=E.ext S X12;have:=E2.ext S2 X3;simpa using this
noncomputable def mAsg(m:ME)(g:MG):MS:=fun ρ st=>(m ρ st).bind fun (d,s1)=>(g d ρ s1).map fun (ρ',s2)=>(.nx ρ',s2)
theorem zid{N:Ends}{σ:L2.St}{H:Hp}(h:tS K (mAsg m mg) N σ H):tAsg (tE K m) (tG K mg) N σ H:=by
 obtain⟨ρ,st,io,f,st',E,S,e,w⟩:=zcU.mp h;obtain⟨⟨x,s1⟩,e1,e⟩:=zad e;obtain⟨⟨ρ',s2⟩,e2,e⟩:=zah e;cases e;exact⟨ρ,st,io,x,s1,E,S,e1,fun v1 H1 k1 X1 S1 R1=>⟨x,ρ,s1,io++k1,ρ',_,R1,E.ext S X1,S1,e2,zeo w X1 S1⟩⟩
theorem zko{tg:Expr}(he:SE X e m)(hg:SG X tg mg)(hs:swapsWithSole [tg] e pos.line X.env=pure false:=by rfl)(hw:swappedStores [tg] e X.env=pure none:=by rfl)
   (h1:(assignEach [tg] X.env).map (·.2)=[assign tg X.env]:=by rfl):SS X (.Assign [tg] e pos) (mAsg m mg):=PS.imp (zl9 he hg hs hw h1) fun _ _ _ h=>zid h
theorem zbV{i:Nat}{x:Str}{pos':Pos}(hN:X.N.Nodup)(hi:X.N[i]?=some x)(hx:Loc X.env.scope x)(he:SE X e m)(hs:swapsWith e (some (.Name x pos')) pos.line X.env=pure false:=by rfl)(hf:X.fn x=true\/X.env.scope.names.lookup x=some .local:=by first | exact .inl rfl | exact .inr rfl | assumption) :
   SS X (.Assign [.Name x pos'] e pos) (mAsg m (gNm i)):=PS.imp (zl6 hN hi hx he hs hf) fun N σ H h=>by
 obtain⟨ρ,st,io,f,st',E,S,e,w⟩:=zcU.mp h;obtain⟨⟨x,s1⟩,e1,e⟩:=zad e;obtain⟨⟨ρ',s2⟩,e2,e⟩:=zah e;cases e;cases e2;exact⟨ρ,st,io,x,_,E,S,e1,fun v1 H1 k1 X1 S1 R1=>w _ H1 k1 X1 S1 ((E.ext S X1).set i R1)⟩
structure Wk where
 ds:List D
 g:List (Nat×List D)
def stays(W:Wk)(st:Sto):Prop:=∀ p,p∈W.g->st[p.1]?=some (.lst p.2)\/st[p.1]?=some (.fz p.2)
structure ItOk(K:Ab)(H0:Hp)(io:List Addr)(W:Wk)(J:It):Prop where
 go:∀ i d H ka st,W.ds[i]?=some d->Ext io ka H0 H->StR K H (io++ka) st->stays W st->J.go i H/\∀ x H',J.yld i H x H'->Ext (io++ka) [] H H'/\StR K H' (io++ka) st/\Rep K H' (io++ka) x d
 stop:∀ H ka st,Ext io ka H0 H->StR K H (io++ka) st->stays W st->J.stop W.ds.length H
 stop':∀ H ka st i,W.ds.length<=i->Ext io ka H0 H->StR K H (io++ka) st->stays W st->J.stop i H
noncomputable abbrev MI:=Rho->Sto->Option (Wk×Sto)
inductive tI (K:Ab) (m:MI) (σ:L2.St) (H:Hp) (R:It->Hp->Prop):Prop
 | mk (ρ:Rho) (st:Sto) (io:List Addr) (W:Wk) (st':Sto) (h1:EnvR K H io σ ρ) (h2:StR K H io st) (h3:m ρ st=some (W,st')) (h4:∀ J H' ka,Ext io ka H H'->StR K H' (io++ka) st'->ItOk K H' (io++ka) W J->R J H')
def SI(X:Cx)(tg iter:Expr)(m:MI):Prop:=PI X tg iter (tI X.K m)
theorem PI.imp{tg iter:Expr}{t u:TI}(h:PI X tg iter t)(k:∀ σ H R,u σ H R->t σ H R):PI X tg iter u:=fun pins s σ H R I q=>h pins s σ H R I (k σ H R q)
end
mutual
noncomputable def D.eqb:D->D->Bool
 | .non,.non=>true
 | .bl a,.bl b=>a==b
 | .int a,.int b=>decide (a=b)
 | .str a,.str b=>decide (a=b)
 | .tup a,.tup b=>D.eqbs a b
 | .ref a,.ref b=>decide (a=b)
 | .kl a,.kl b=>D.eqbs a b
 | _,_=>false
noncomputable def D.eqbs:List D->List D->Bool
 | [],[]=>true
 | a::as,b::bs=>D.eqb a b&&D.eqbs as bs
 | _,_=>false
end
mutual
theorem D.eqb_refl:∀ a:D,D.eqb a a=true
 | .non=>rfl
 | .bl a=>by simp[D.eqb]
 | .int a=>by simp[D.eqb]
 | .str a=>by simp[D.eqb]
 | .tup a=>by rw[D.eqb];exact D.eqbs_refl a
 | .ref a=>by simp[D.eqb]
 | .kl a=>by rw[D.eqb];exact D.eqbs_refl a
theorem D.eqbs_refl:∀ a:List D,D.eqbs a a=true
 | []=>rfl
 | a::as=>by rw[D.eqbs,D.eqb_refl a,D.eqbs_refl as];rfl
end
mutual
theorem D.eq_of:∀ {a b:D},D.eqb a b=true->a=b
 | .non,b,h=>by cases b <;> simp[D.eqb] at h ⊢
 | .bl a,b,h=>by cases b <;> simp[D.eqb] at h ⊢;exact h
 | .int a,b,h=>by cases b <;> simp[D.eqb] at h ⊢;exact h
 | .str a,b,h=>by cases b <;> simp[D.eqb] at h ⊢;exact h
 | .tup a,.tup b,h=>by rw[D.eqb] at h;rw[D.eqs_of h]
 | .tup a,.non,h=>by simp[D.eqb] at h
 | .tup a,.bl _,h=>by simp[D.eqb] at h
 | .tup a,.int _,h=>by simp[D.eqb] at h
 | .tup a,.str _,h=>by simp[D.eqb] at h
 | .tup a,.ref _,h=>by simp[D.eqb] at h
 | .tup a,.kl _,h=>by simp[D.eqb] at h
 | .kl a,.kl b,h=>by rw[D.eqb] at h;rw[D.eqs_of h]
 | .kl a,.non,h=>by simp[D.eqb] at h
 | .kl a,.bl _,h=>by simp[D.eqb] at h
 | .kl a,.int _,h=>by simp[D.eqb] at h
 | .kl a,.str _,h=>by simp[D.eqb] at h
 | .kl a,.ref _,h=>by simp[D.eqb] at h
 | .kl a,.tup _,h=>by simp[D.eqb] at h
 | .ref a,b,h=>by cases b <;> simp[D.eqb] at h ⊢;exact h
theorem D.eqs_of:∀ {a b:List D},D.eqbs a b=true->a=b
 | [],[],_=>rfl
 | [],_::_,h=>by simp[D.eqbs] at h
 | _::_,[],h=>by simp[D.eqbs] at h
 | a::as,b::bs,h=>by
   rw[D.eqbs,Ag] at h;rw[D.eq_of h.1,D.eqs_of h.2]
end
noncomputable instance:DecidableEq D:=fun a b=>if h:D.eqb a b=true then .isTrue (D.eq_of h) else .isFalse fun e=>h (by rw[e];exact D.eqb_refl b)
noncomputable def zgO(st:Sto)(n:Nat)(ds:List D):Bool:=match st[n]? with
 | some (.lst xs)=>D.eqbs xs ds
 | some (.fz xs)=>D.eqbs xs ds
 | _=>false
theorem zhY{st:Sto}{n:Nat}{ds:List D}(h:zgO st n ds=true):st[n]?=some (.lst ds)\/st[n]?=some (.fz ds):=by
 unfold zgO at h
 split at h
 . rename_i xs e;rw[D.eqs_of h] at e;exact .inl e
 . rename_i xs e;rw[D.eqs_of h] at e;exact .inr e
 . cases h
theorem zgN{st:Sto}{n:Nat}{ds:List D}(h:st[n]?=some (.lst ds)):zgO st n ds=true:=by unfold zgO;rw[h];exact D.eqbs_refl ds
section
variable {X:Cx} {e a b c:Expr} {es:List Expr} {st1 st2:Stmt} {rest body orelse:List Stmt} {pos:Pos} {m ma mb mc:ME} {mt mu:MT} {mm:MA} {ms mq mr:MS} {mg:MG} {mgs:MGs} {mi:MI}
variable {K:Ab} {H H1 H2:Hp} {io ka kb:List Addr} {st st':Sto}
noncomputable def walked(W:Wk)(st:Sto):Bool:=W.g.all fun p=>zgO st p.1 p.2
theorem zct{W:Wk}(h:walked W st=true):stays W st:=fun p hp=>zhY (List.all_eq_true.mp h p hp)
noncomputable def zdj(W:Wk)(g:MG)(m:MS):List D->Rho->Sto->Option (Fl×Sto)
 | [],ρ,st=>if walked W st=true then some (.nx ρ,st) else none
 | d::ds,ρ,st=>if walked W st=true then (g d ρ st).bind fun (ρ1,s1)=>(m ρ1 s1).bind fun (f,s2)=>match f with
   | .nx ρ2=>zdj W g m ds ρ2 s2
   | .ct ρ2=>zdj W g m ds ρ2 s2
   | .bk ρ2=>some (.nx ρ2,s2)
   | .rt d=>some (.rt d,s2) else none
noncomputable def mFor(mi:MI)(g:MG)(m:MS):MS:=fun ρ st=>(mi ρ st).bind fun (W,s)=>zdj W g m W.ds ρ s
theorem zlM{tg iter:Expr}(hp:PassesOwn (model X.prog X.w) X.A X.env X.xe)(hc:X.calm=true)(hi:SI X tg iter mi)(hg:SG X tg mg)(hb:SSs X body ms)
   (hs:∀ x,foldedSetIterable iter X.env x=pure x:=by intro _;rfl):SS X (.For tg iter body [] pos) (mFor mi mg ms):=PS.imp (zl8 hp hc hi hg hb hs) fun N σ H h=>by
 obtain⟨ρ,st,io,f,st',E,S,e,w⟩:=zcU.mp h;obtain⟨⟨W,s1⟩,e1,e⟩:=zad e;refine⟨ρ,st,io,W,s1,E,S,e1,fun J H1 k1 X1 S1 IO=>?_⟩;refine⟨fun i n σ2 H2=>n=W.ds.length - i/\∃ ρ2 s2 k2,Ext (io++k1) k2 H1 H2/\StR X.K H2 ((io++k1)++k2) s2/\EnvR X.K H2 ((io++k1)++k2) σ2 ρ2/\zdj W mg ms (W.ds.drop i) ρ2 s2=some (f,st'),
   ⟨_,rfl,ρ,s1,[],Ext.refl,by rw[Al];exact S1,by rw[Al];exact E.ext S X1,by rw[Eo];exact e⟩,?_⟩
 rintro i n σ2 H2 ⟨rfl,ρ2,s2,k2,X2,S2,E2,e2⟩;have w2:Wn X.K ((io++k1)++k2) H2 st' N f:=(w.on X1 S1).on X2 S2
 cases hd:W.ds[i]? with
 | none =>
   have hl:W.ds.length<=i:=List.getElem?_eq_none_iff.mp hd;rw[Du hl] at e2;obtain⟨hw,e2⟩:=zam e2;cases e2;refine .inl ⟨?_,w2 σ2 H2 [] Ext.refl S2.nil (by rw[Al];exact E2)⟩
   -- the end may lie behind
   by_cases hi:i=W.ds.length
   . rw[hi];exact IO.stop H2 k2 _ X2 S2 (zct hw)
   . exact IO.stop' H2 k2 _ i hl X2 S2 (zct hw)
 | some d =>
   have hl:i < W.ds.length:=(List.getElem?_eq_some_iff.mp hd).1;have hdr:W.ds.drop i=d::W.ds.drop (i+1):=by
     rw[C5 hl,(List.getElem?_eq_some_iff.mp hd).2]
   rw[hdr] at e2;obtain⟨hw,e2⟩:=zam e2;obtain⟨⟨ρ3,s3⟩,e3,e2⟩:=zad e2;obtain⟨⟨f4,s4⟩,e4,e2⟩:=zad e2;obtain⟨go,yl⟩:=IO.go i d H2 k2 s2 hd X2 S2 (zct hw);refine .inr ⟨go,fun σ5 H5=>∃ ρ5 s5 k5,Ext (io++k1) k5 H1 H5/\StR X.K H5 ((io++k1)++k5) s5/\EnvR X.K H5 ((io++k1)++k5) σ5 ρ5/\zdj W mg ms (W.ds.drop (i+1)) ρ5 s5=some (f,st'),
     fun σ5 H5 h5=>⟨W.ds.length - (i+1),by omega,rfl,h5⟩,fun x H' y=>?_⟩
   obtain⟨X3,S3,R3⟩:=yl x H' y;have X23:Ext (io++k1) k2 H1 H':=(X2.trans S2 X3).app;refine⟨d,ρ2,s2,(io++k1)++k2,ρ3,s3,R3,?_,S3,e3,fun σ6 H6 k6 X6 S6 E6=>?_⟩
   . have:=E2.ext S2 X3;rw[Al] at this;exact this
   . refine ziP E6 S6 e4 ?_;have X26:=X23.trans S3 X6;have S6':StR X.K H6 ((io++k1)++(k2++k6)) s3:=by rw[<-Ak];exact S6
     have fin:∀ {ρ7:Rho},zdj W mg ms (W.ds.drop (i+1)) ρ7 s4=some (f,st')->∀ σ7 H7 k7,Ext ((io++k1)++k2++k6) k7 H6 H7->StR X.K H7 ((io++k1)++k2++k6++k7) s4->EnvR X.K H7 ((io++k1)++k2++k6++k7) σ7 ρ7 ->
         ∃ ρ5 s5 k5,Ext (io++k1) k5 H1 H7/\StR X.K H7 ((io++k1)++k5) s5/\EnvR X.K H7 ((io++k1)++k5) σ7 ρ5/\zdj W mg ms (W.ds.drop (i+1)) ρ5 s5=some (f,st'):=by
       intro ρ7 e7 σ7 H7 k7 X7 S7 E7;rw[Ak (io++k1)] at X7;rw[Ak (io++k1),Ak (io++k1)] at S7 E7;exact⟨ρ7,s4,(k2++k6)++k7,X26.trans S6' X7,S7,E7,e7⟩
     cases f4 with
     | nx ρ7=>exact fin e2
     | ct ρ7=>exact fin e2
     | bk ρ7 =>
       cases e2;exact ((w.on X1 S1).on X23 S3).on X6 S6
     | rt dd =>
       cases e2;exact ((w.on X1 S1).on X23 S3).on X6 S6
end
section
variable {X:Cx} {e a b c:Expr} {es:List Expr} {st1 st2:Stmt} {rest body orelse:List Stmt} {pos:Pos} {m ma mb mc:ME} {mt mu:MT} {mm:MA} {ms mq mr:MS} {mg:MG} {mgs:MGs} {mi:MI}
variable {K:Ab} {H H1 H2:Hp} {io ka kb:List Addr} {st st':Sto}
theorem zd2{ρ:Rho}{x:D}{xs:List D}{s s1 s2:Sto}(h1:m ρ s=some (x,s1))(h2:mm ρ s1=some (xs,s2)):zac m mm ρ s=some (x::xs,s2):=by
 unfold zac;rw[h1];show ED (mm ρ s1) _=_;rw[h2];rfl
noncomputable def zcd(st:Sto)(n:Nat):Option (List D):=match st[n]? with
 | some (.lst ds)=>some ds
 | some (.fz ds)=>some ds
 | _=>none
theorem zbl{n:Nat}{p:Addr}{ds:List D}(S:StR K H io st)(hn:io[n]?=some p)(h:zcd st n=some ds):∃ xs,SqL K H p xs/\Reps K H io xs ds:=by
 unfold zcd at h
 split at h
 . rename_i o he;cases h;obtain⟨xs,e,r⟩:=S.ob n p _ hn he;exact⟨xs,SqL.of e,r⟩
 . rename_i o he;cases h;obtain⟨ob,xs,e,r⟩:=S.ob n p _ hn he;exact⟨xs,.inl (.inr ⟨ob,e⟩),r⟩
 . cases h
theorem zcJ{n:Nat}{ds:List D}{W:Wk}(hm:(n,ds)∈W.g)(h:stays W st):zcd st n=some ds:=by
 unfold zcd
 rcases h _ hm with h | h
 . have h:st[n]?=some (.lst ds):=h;rw[h]
 . have h:st[n]?=some (.fz ds):=h;rw[h]
noncomputable def mWL(m:ME):MI:=fun ρ st=>(m ρ st).bind fun (d,s)=>match d with
 | .ref n=>(zcd s n).map fun ds=>(⟨ds,[(n,ds)]⟩,s)
 | _=>none
noncomputable def mWT(m:ME):MI:=fun ρ st=>(m ρ st).bind fun (d,s)=>match d with
 | .tup ds=>some (⟨ds,[]⟩,s)
 | _=>none
theorem zbM{io ka:List Addr}{n:Nat}{p:Addr}(h:io[n]?=some p):(io++ka)[n]?=some p:=by
 rw[Ah (List.getElem?_eq_some_iff.mp h).1];exact h
theorem zmN{n:Nat}{p:Addr}{ds:List D}(hn:io[n]?=some p):ItOk K H io ⟨ds,[(n,ds)]⟩ (Itl K p) where
 go:=fun i d H1 k1 s hd X1 S1 hs=>by
   obtain⟨xs,hx,r⟩:=zbl S1 (zbM hn) (zcJ Au hs);obtain⟨v,hv,rv⟩:=r.get hd;refine⟨⟨xs,v,hx,hv⟩,fun x H' y=>?_⟩;obtain⟨rfl,y⟩:=y;have e:=y xs hx;rw[hv] at e;cases e;exact⟨Ext.refl,S1,rv⟩
 stop:=fun H1 k1 s X1 S1 hs=>by
   obtain⟨xs,hx,r⟩:=zbl S1 (zbM hn) (zcJ Au hs);exact⟨xs,hx,by rw[r.length];exact Af _⟩
 stop':=fun H1 k1 s i hi X1 S1 hs=>by
   obtain⟨xs,hx,r⟩:=zbl S1 (zbM hn) (zcJ Au hs);exact⟨xs,hx,by rw[r.length];exact hi⟩
theorem zks{tg l:Expr}(hl:SE X l m):SI X tg l (mWL m):=PI.imp (zkO hl) <| by
 rintro σ H R ⟨ρ,st,io,W,st',E,S,e,k⟩;obtain⟨⟨d,s1⟩,e1,e⟩:=zad e;dsimp only at e
 split at e
 . rename_i n;obtain⟨ds,e2,e⟩:=zah e;cases e;refine⟨ρ,st,io,_,_,E,S,e1,fun v H1 k1 X1 S1 R1=>?_⟩;obtain⟨p,rfl,hn⟩:=R1;obtain⟨xs,hx,r⟩:=zbl S1 hn e2;exact⟨p,rfl,⟨xs,hx⟩,k _ H1 k1 X1 S1 (zmN hn)⟩
 . cases e
theorem zmL{st:Sto}{p:Addr}{xs:List V}{ds:List D}(S:StR K H io st)(hp:H p=some (.tup xs))(r:Reps K H io xs ds):ItOk K H io ⟨ds,[]⟩ (Itt K p) where
 go:=fun i d H1 k1 s hd X1 S1 hs=>by
   obtain⟨v,hv,rv⟩:=(r.ext S X1).get hd;have hx:SqT K H1 p xs:=SqT.of (X1.sqT S p xs hp);refine⟨⟨xs,v,hx,hv⟩,fun x H' y=>?_⟩;obtain⟨rfl,y⟩:=y;have e:=y xs hx;rw[hv] at e;cases e;exact⟨Ext.refl,S1,rv⟩
 stop:=fun H1 k1 s X1 S1 hs=>⟨xs,SqT.of (X1.sqT S p xs hp),by rw[r.length];exact Af _⟩
 stop':=fun H1 k1 s i hi X1 S1 hs=>⟨xs,SqT.of (X1.sqT S p xs hp),by rw[r.length];exact hi⟩
theorem zlR{tg l:Expr}(hl:SE X l m):SI X tg l (mWT m):=PI.imp (zma hl) <| by
 rintro σ H R ⟨ρ,st,io,W,st',E,S,e,k⟩;obtain⟨⟨d,s1⟩,e1,e⟩:=zad e;dsimp only at e
 split at e
 . rename_i ds;cases e;refine⟨ρ,st,io,_,_,E,S,e1,fun v H1 k1 X1 S1 R1=>?_⟩;obtain⟨p,xs,rfl,hp,r⟩:=R1;exact⟨p,rfl,⟨xs,SqT.of hp⟩,k _ H1 k1 X1 S1 (zmL S1 hp r)⟩
 . cases e
noncomputable def run(lo:Int)(n:Nat):List D:=(BK n).map fun (k:Nat)=>D.int (lo+(k:Int))
theorem zdp(lo:Int)(n:Nat):(run lo n).length=n:=by unfold run;rw[Aq,List.length_range]
theorem run_get{lo:Int}{n i:Nat}{d:D}(h:(run lo n)[i]?=some d):i < n/\d=.int (lo+(i:Int)):=by
 have hi:i < n:=by
   have q:=(List.getElem?_eq_some_iff.mp h).1
   rwa [zdp] at q
 unfold run at h;rw[AE,List.getElem?_range hi] at h;exact⟨hi,(As h).symm⟩
theorem zmM(lo:Int)(n:Nat):ItOk K H io ⟨run lo n,[]⟩ (Itr lo n) where
 go:=fun i d H1 k1 s hd X1 S1 hs=>by
   obtain⟨hi,rfl⟩:=run_get hd;refine⟨hi,fun x H' y=>?_⟩;obtain⟨rfl,rfl⟩:=y;exact⟨Ext.refl,S1,rfl⟩
 stop:=fun H1 k1 s X1 S1 hs=>by
   show n<=_;rw[zdp];exact Af _
 stop':=fun H1 k1 s i hi X1 S1 hs=>by
   show n<=i;have hi:(run lo n).length<=i:=hi
   rwa [zdp] at hi
noncomputable def small(j:Int):Bool:=decide (-(2 ^ 62)<=j)&&decide (j < 2 ^ 62)
theorem zeJ{j:Int}(h:small j=true):-(2 ^ 62)<=j/\j < 2 ^ 62:=by
 unfold small at h;rw[Ag] at h;exact⟨of_decide_eq_true h.1,of_decide_eq_true h.2⟩
noncomputable def mR1(m:ME):MI:=fun ρ st=>(m ρ st).bind fun (d,s)=>match d with
 | .int j=>if small j=true then some (⟨run 0 j.toNat,[]⟩,s) else none
 | _=>none
theorem zdi{tg a:Expr}{p pos:Pos}(hg:Gl X "range")(hm:X.mg "range"=none)(ha:SE X a m)(hs:starEach [a] X.env=[(false,eval a X.env)]:=by rfl):SI X tg (.Call (.Name "range" p) [a] [] pos) (mR1 m) :=
 PI.imp (zhB hg hm (zaa ha zaf hs) hs) <| by
   rintro σ H R ⟨ρ,st,io,W,st',E,S,e,k⟩;obtain⟨⟨d,s1⟩,e1,e⟩:=zad e;dsimp only at e
   split at e
   . rename_i j;obtain⟨hj,e⟩:=zam e;cases e;refine⟨ρ,st,io,[.int j],_,E,S,(zd2 e1 rfl),fun vs H1 k1 X1 S1 R1=>?_⟩;obtain⟨v,rfl,rfl⟩:=R1.one;exact⟨j,rfl,(zeJ hj).1,(zeJ hj).2,k _ H1 k1 X1 S1 (zmM 0 _)⟩
   . cases e
end
noncomputable def rho(n:Nat)(ds:List D):Rho:=ds.map some++Av (n - ds.length) none
noncomputable def fnM(n:Nat)(m:MS):GN:=fun ds st=>(m (rho n ds) st).bind fun (f,s)=>match f with
 | .rt d=>some (d,s)
 | .nx _=>some (.non,s)
 | _=>none
theorem zh2{K:Ab}{H:Hp}{io:List Addr}{N:List Str}{vs:List V}{ds:List D}(R:Reps K H io vs ds):EnvR K H io (start N vs) (rho N.length ds):=by
 have hl:=R.length;refine⟨by unfold start rho;simp[hl],fun i d h=>?_⟩;unfold rho at h;unfold start
 by_cases hi:i < ds.length
 . rw[Ah (by simpa using hi),AE] at h
   cases e:ds[i]? with
   | none=>rw[e] at h;cases h
   | some d' =>
     rw[e] at h
     cases (As (As h))
     obtain⟨v,hv,r⟩:=R.get e;exact⟨v,by rw[Ah (by simpa[hl] using hi),AE,hv];rfl,r⟩
 . rw[AK (by simpa using hi),BI] at h
   split at h <;> cases h
section
variable {P:Program} {w:World} {K:Ab} {mg:Str->Option Value} {base:Heap}
theorem fn_m{x qual:Str}{st:Stmt}{f:Addr}{fd:FuncData}{N ps:List Str}{k:Nat}{m:MS}(F:Fun K x qual st f fd)(S:FnScope N ps (zan st))
   (hbody:∀ (cdv:Value) (A:Around) (outer:List Env) (s:Shared) (H:Hp) (E:XK),Room k (A.deeper (envOfC qual (zan st) s.heap.objs.size f cdv)) ->
     SSs (cxOf CX0 P w K mg base N qual (zan st) f cdv A outer s H E).nox (zce st) m):FnOk P w K mg base CX0 (k+1) f fd ps (spM K ps.length (fnM N.length m)):=by
 refine F.ok S (fun vs H Q E ⟨_,_,_,_,_,h,_⟩=>h) fun cdv A outer s H vs Q E hr h=>?_;obtain⟨ds,st0,io,d,st',hl,R,SR,e,k'⟩:=h;refine⟨_,hbody cdv A outer s H E hr,?_⟩;obtain⟨⟨fl,s1⟩,e1,e⟩:=zad e;refine ziP (zh2 R) SR e1 ?_
 cases fl with
 | rt dd=>cases e;exact k'
 | nx ρ=>cases e;exact fun σ' H' ka X' S' E'=>k' .non H' ka X' S' rfl
 | bk ρ=>cases e
 | ct ρ=>cases e
end
noncomputable def clOf(cells:List (Str×Addr)):List (Str×NameKind)->List (Str×Addr)->List (Str×Addr)
 | [],acc=>acc
 | (n,k)::r,acc=>if k==.free then clOf cells r ((n,(cells.lookup n).getD 0)::acc) else clOf cells r acc
theorem zdw{env:Env}(f:Str×NameKind->List (Str×Addr)->Sem (ForInStep (List (Str×Addr))))
   (hf:∀ n k acc,f (n,k) acc=if k==.free then (do let c <-cellOf env n;pure (.yield ((n,c)::acc))) else pure (.yield acc)) :
   ∀ (names:List (Str×NameKind)) (acc:List (Str×Addr)),(∀ n,(n,Ay)∈names->∃ c,env.cells.lookup n=some c)->(forIn names acc f:Sem (List (Str×Addr)))=pure (clOf env.cells names acc)
 | [],acc,_=>by rw[Ce];rfl
 | (n,k)::r,acc,h=>by
   rw[Dl,hf];unfold clOf
   cases hk:k==Ay with
   | false =>
     rw[if_neg (by simp),if_neg (by simp)];have:=zdw f hf r acc fun m hm=>h m (Am _ hm);rw[<-this];rfl
   | true =>
     rw[if_pos rfl,if_pos rfl];have hk':k=Ay:=by simpa using hk
     obtain⟨c,hc⟩:=h n (by rw[hk'];exact Au);have:=zdw f hf r ((n,c)::acc) fun m hm=>h m (Am _ hm);rw[hc,Co,<-this];unfold cellOf;rw[hc];rfl
theorem zgV{env:Env}{scope:Scope}(h:∀ n,(n,Ay)∈scope.names->∃ c,env.cells.lookup n=some c):closureFor scope env=pure (clOf env.cells scope.names []):=by
 unfold closureFor;have:=zdw (env:=env) (fun x acc=>(match x with | (n,k)=>if k==.free then (do let c <-cellOf env n;pure (.yield ((n,c)::acc))) else pure (.yield acc))) (fun _ _ _=>rfl) scope.names [] h;refine Eq.trans ?_ this;simp only[bind_pure]
theorem zeX{cells:List (Str×Addr)}:∀ {names:List (Str×NameKind)} {acc:List (Str×Addr)} {p:Str×Addr},p∈clOf cells names acc->p∈acc\/((p.1,Ay)∈names/\p.2=(cells.lookup p.1).getD 0)
 | [],acc,p,h=>.inl h
 | (n,k)::r,acc,p,h=>by
   unfold clOf at h
   cases hk:k==Ay with
   | false =>
     rw[hk,if_neg (by simp)] at h
     rcases zeX h with h | h
     . exact .inl h
     . exact .inr ⟨Am _ h.1,h.2⟩
   | true =>
     rw[hk,if_pos rfl] at h;have hk':k=Ay:=by simpa using hk
     rcases zeX h with h | h
     . rcases List.mem_cons.mp h with h | h
       . subst h;exact .inr ⟨by rw[hk'];exact Au,rfl⟩
       . exact .inl h
     . exact .inr ⟨Am _ h.1,h.2⟩
theorem zd5{cells:List (Str×Addr)}:∀ {names:List (Str×NameKind)} {acc:List (Str×Addr)} {x:Str},((x,Ay)∈names\/(acc.lookup x).isSome=true)->((clOf cells names acc).lookup x).isSome=true
 | [],acc,x,h=>by
   rcases h with h | h
   . exact absurd h (by simp)
   . exact h
 | (n,k)::r,acc,x,h=>by
   unfold clOf
   cases hk:k==Ay with
   | false =>
     rw[if_neg (by simp)];refine zd5 ?_
     rcases h with h | h
     . rcases List.mem_cons.mp h with h | h
       . have:k=Ay:=(Cj h).2.symm;rw[this] at hk;exact absurd hk (by decide)
       . exact .inl h
     . exact .inr h
   | true =>
     rw[if_pos rfl];refine zd5 ?_
     by_cases hx:x=n
     . subst hx;exact .inr (by simp)
     . rcases h with h | h
       . rcases List.mem_cons.mp h with h | h
         . exact absurd (Cj h).1 hx
         . exact .inl h
       . refine .inr ?_;rw[AZ];have:(x==n)=false:=by simpa using hx
         rw[this];exact h
theorem zdX:∀ {names:List (Str×NameKind)} {n:Nat} {acc:List (Str×Addr)} {p:Str×Addr},p∈cellsFrom n names acc->p∈acc\/n<=p.2
 | [],_,_,_,h=>.inl h
 | (x,k)::r,n,acc,p,h=>by
   unfold cellsFrom at h
   split at h
   . rcases zdX h with h | h
     . rcases List.mem_cons.mp h with h | h
       . subst h;exact .inr (Af _)
       . exact .inl h
     . exact .inr (BB h)
   . exact zdX h
theorem zcL:∀ {names:List (Str×NameKind)} {n:Nat} {acc:List (Str×Addr)},(acc.Pairwise fun x y=>x.2≠y.2)->(∀ p∈acc,p.2 < n)->(cellsFrom n names acc).Pairwise fun x y=>x.2≠y.2
 | [],_,_,h,_=>h
 | (x,k)::r,n,acc,h,hl=>by
   unfold cellsFrom
   split
   . refine zcL (List.pairwise_cons.mpr ⟨fun y hy e=>?_,h⟩) fun p hp=>?_
     . have q:=hl y hy;have e':n=y.2:=e;rw[<-e'] at q;exact A0 _ q
     . rcases List.mem_cons.mp hp with rfl | hp
       . exact De _
       . exact C0 (hl p hp)
   . exact zcL h hl
theorem zgl:∀ {names:List (Str×NameKind)} {n:Nat} {acc:List (Str×Addr)} {x:Str},((x,AH)∈names\/(acc.lookup x).isSome=true)->((cellsFrom n names acc).lookup x).isSome=true
 | [],n,acc,x,h=>by
   rcases h with h | h
   . exact absurd h (by simp)
   . exact h
 | (m,k)::r,n,acc,x,h=>by
   unfold cellsFrom
   cases hk:k==AH with
   | false =>
     rw[if_neg (by simp)];refine zgl ?_
     rcases h with h | h
     . rcases List.mem_cons.mp h with h | h
       . have:k=AH:=(Cj h).2.symm;rw[this] at hk;exact absurd hk (by decide)
       . exact .inl h
     . exact .inr h
   | true =>
     rw[if_pos rfl];refine zgl ?_
     by_cases hx:x=m
     . subst hx;exact .inr (by simp)
     . rcases h with h | h
       . rcases List.mem_cons.mp h with h | h
         . exact absurd (Cj h).1 hx
         . exact .inl h
       . refine .inr ?_;rw[AZ];have:(x==m)=false:=by simpa using hx
         rw[this];exact h
theorem zdW:∀ {names:List (Str×NameKind)} {n:Nat} {acc:List (Str×Addr)} {x:Str},(x,AH) ∉ names->(cellsFrom n names acc).lookup x=acc.lookup x
 | [],_,_,_,_=>rfl
 | (m,k)::r,n,acc,x,h=>by
   unfold cellsFrom
   cases hk:k==AH with
   | false=>rw[if_neg (by simp)];exact zdW fun q=>h (Am _ q)
   | true =>
     rw[if_pos rfl,zdW fun q=>h (Am _ q),AZ];have hk':k=AH:=by simpa using hk
     have:(x==m)=false:=by
       cases e:x==m with
       | false=>rfl
       | true=>exact absurd (by rw[hk',show x=m by simpa using e];exact Au) h
     rw[this]
theorem zgm:∀ {names:List (Str×NameKind)} {n:Nat} {acc:List (Str×Addr)} {x:Str} {c:Addr},(x,AH)∈names->(cellsFrom n names acc).lookup x=some c->n<=c
 | [],_,_,_,_,h,_=>absurd h (by simp)
 | (m,k)::r,n,acc,x,c,h,e=>by
   unfold cellsFrom at e
   cases hk:k==AH with
   | false =>
     rw[hk,if_neg (by simp)] at e
     rcases List.mem_cons.mp h with h | h
     . have:k=AH:=(Cj h).2.symm;rw[this] at hk;exact absurd hk (by decide)
     . exact zgm h e
   | true =>
     rw[hk,if_pos rfl] at e
     by_cases hr:(x,AH)∈r
     . exact BB (zgm hr e)
     . rw[zdW hr] at e
       rcases List.mem_cons.mp h with h | h
       . have hx:x=m:=(Cj h).1;subst hx;rw[List.lookup_cons_self] at e;exact Nat.le_of_eq (As e)
       . exact absurd h hr
theorem zdU:∀ {names:List (Str×NameKind)} {h:Heap} {acc:List (Str×Addr)} {p:Str×Addr},p∈cellsFrom h.objs.size names acc->p∈acc\/(pushCells h names).IsCell p.2 none
 | [],_,_,_,h=>.inl h
 | (x,k)::r,h,acc,p,e=>by
   unfold cellsFrom at e;unfold pushCells
   split at e
   . rename_i hk;rw[if_pos hk];have sz:(h.push { cls:=.type "cell",data:=.cell none }).objs.size=h.objs.size+1:=A3 ..;rw[<-sz] at e
     rcases zdU e with q | q
     . rcases List.mem_cons.mp q with q | q
       . subst q;exact .inr ⟨_,Cw _ _ _ _ (An _ rfl),rfl⟩
       . exact .inl q
     . exact .inr q
   . rename_i hk;rw[if_neg hk];exact zdU e
noncomputable def zdv(X:Cx)(scope:Scope)(N':List Str)(cells:List (Str×Addr))(C:Addr)(s0:Shared)(H0:Hp)(ex:List Addr):Cx :=
 { X with N:=N',s₀:=s0,H₀:=H0,env:=compEnvC scope cells C X.env,outer:=X.stack,ex:=ex,fn:=fun x=>scope.names.any fun p=>p.1==x&&p.2==.cell,pn:=[],xe:=fun _ _=>False }
structure CompS(X:Cx)(scope:Scope)(N':List Str)(nt:Nat)(fr:List Nat):Prop where
 kind:scope.kind=.function
 nd:(scope.names.map (·.1)).Nodup
 len:N'.length=nt+fr.length
 cap:∀ (i j:Nat) (x:Str),fr[i]?=some j->N'[nt+i]?=some x->X.N[j]?=some x/\(x,Ay)∈scope.names
 out:∀ x,(x,Ay)∈scope.names->X.env.kindOf x=some .cell\/X.env.kindOf x=some .free
theorem lookup_mem:∀ {l:List (Str×NameKind)} {x:Str} {k:NameKind},(l.map (·.1)).Nodup->(x,k)∈l->l.lookup x=some k
 | [],_,_,_,h=>absurd h (by simp)
 | (n,j)::r,x,k,nd,h=>by
   rw[Az,Eh] at nd;rw[AZ]
   rcases List.mem_cons.mp h with h | h
   . cases h;simp
   . have:x≠n:=fun e=>nd.1 (by rw[<-e];exact List.mem_map.mpr ⟨_,h,rfl⟩);have:(x==n)=false:=by simpa using this
     rw[this];exact lookup_mem nd.2 h
theorem zbG{env:Env}:∀ {l:List (Str×NameKind)} {x:Str} {k:NameKind},(l.map fun (n,k)=>if (k==Ay&&env.scope.kind==.function&&env.kindOf n==some .cell) then (n,AH) else (n,k)).lookup x=some k ->
   ∃ k',l.lookup x=some k'/\(k'=k\/k'=.free)
 | [],_,_,h=>by simp at h
 | (n,j)::r,x,k,h=>by
   rw[Az] at h;dsimp only at h
   by_cases hc:(j==Ay&&env.scope.kind==.function&&env.kindOf n==some .cell)=true
   . rw[if_pos hc,AZ] at h;rw[AZ]
     cases hx:x==n with
     | true =>
       have:j=.free:=by
         rw[Ag,Ag] at hc;simpa using hc.1.1
       exact⟨j,rfl,.inr this⟩
     | false=>rw[hx] at h;exact zbG h
   . rw[if_neg hc,AZ] at h;rw[AZ]
     cases hx:x==n with
     | true=>rw[hx] at h;cases h;exact⟨j,rfl,.inl rfl⟩
     | false=>rw[hx] at h;exact zbG h
theorem zcm{env:Env}:∀ {l:List (Str×NameKind)} {x:Str},l.lookup x=some .free ->
   (l.map fun (n,k)=>if (k==Ay&&env.scope.kind==.function&&env.kindOf n==some .cell) then (n,AH) else (n,k)).lookup x=some .cell \/
   (l.map fun (n,k)=>if (k==Ay&&env.scope.kind==.function&&env.kindOf n==some .cell) then (n,AH) else (n,k)).lookup x=some .free
 | [],_,h=>by simp at h
 | (n,j)::r,x,h=>by
   rw[Az];dsimp only;rw[AZ] at h
   by_cases hc:(j==Ay&&env.scope.kind==.function&&env.kindOf n==some .cell)=true
   . rw[if_pos hc,AZ]
     cases hx:x==n with
     | true=>exact .inl rfl
     | false=>rw[hx] at h;exact zcm h
   . rw[if_neg hc,AZ]
     cases hx:x==n with
     | true=>rw[hx] at h;cases h;exact .inr rfl
     | false=>rw[hx] at h;exact zcm h
section
variable {X:Cx} {scope:Scope} {N':List Str} {nt:Nat} {fr:List Nat} {pins:List (Addr×Obj)} {σ:L2.St} {H:Hp} {s:Shared}
noncomputable abbrev clX (X:Cx) (scope:Scope):List (Str×Addr):=clOf X.env.cells scope.names []
noncomputable abbrev zdx (X:Cx) (scope:Scope) (C:Nat):List (Str×Addr):=cellsFrom (C+1) scope.names (clX X scope)
theorem zgW(Z:CompS X scope N' nt fr)(ok:X.Ok){p:Str×Addr}(h:p∈clX X scope):(p.1,Ay)∈scope.names/\X.env.cells.lookup p.1=some p.2:=by
 rcases zeX h with h | ⟨h1,h2⟩
 . exact absurd h (by simp)
 . obtain⟨c,hc⟩:=ok.has p.1 (Z.out p.1 h1);rw[hc,Co] at h2;exact⟨h1,by rw[hc,h2]⟩
theorem zh7(Z:CompS X scope N' nt fr)(ok:X.Ok){x:Str}(h:(x,Ay)∈scope.names):∃ c,X.env.cells.lookup x=some c/\∀ C,(zdx X scope C).lookup x=some c:=by
 obtain⟨c,hc⟩:=ok.has x (Z.out x h);refine⟨c,hc,fun C=>?_⟩;have no:(x,AH) ∉ scope.names:=fun q=>by
   have a:=lookup_mem Z.nd h;have b:=lookup_mem Z.nd q;rw[a] at b;cases b
 rw[zdW no];have q:=zd5 (cells:=X.env.cells) (acc:=[]) (.inl h);obtain⟨c',e⟩:=Option.isSome_iff_exists.mp q;have:=(zgW Z ok (AG e)).2;have this:X.env.cells.lookup x=some c':=this;rw[hc] at this;rw[e,this]
theorem zjT(Z:CompS X scope N' nt fr)(ok:X.Ok):(clX X scope).Pairwise fun x y=>x.2≠y.2:=by
 have gen:∀ (names:List (Str×NameKind)) (acc:List (Str×Addr)),(∀ n,(n,Ay)∈names->∃ c,X.env.cells.lookup n=some c)->(names.map (·.1)).Nodup->(∀ p∈acc,p.1 ∉ names.map (·.1)/\X.env.cells.lookup p.1=some p.2)->(acc.Pairwise fun x y=>x.2≠y.2) ->
     (clOf X.env.cells names acc).Pairwise fun x y=>x.2≠y.2:=by
   intro names
   induction names with
   | nil=>intro acc _ _ _ h;exact h
   | cons p r ih =>
     intro acc hf nd ha hp;obtain⟨n,k⟩:=p;rw[Az,Eh] at nd;unfold clOf
     cases hk:k==Ay with
     | false =>
       rw[if_neg (by simp)];exact ih acc (fun m hm=>hf m (Am _ hm)) nd.2 (fun q hq=>⟨fun z=>(ha q hq).1 (by rw[Az];exact Am _ z),(ha q hq).2⟩) hp
     | true =>
       rw[if_pos rfl];have hk':k=Ay:=by simpa using hk
       obtain⟨c,hc⟩:=hf n (by rw[hk'];exact Au);refine ih _ (fun m hm=>hf m (Am _ hm)) nd.2 (fun q hq=>?_) (List.pairwise_cons.mpr ⟨fun y hy e=>?_,hp⟩)
       . rcases List.mem_cons.mp hq with rfl | hq
         . exact⟨nd.1,by rw[hc];rfl⟩
         . exact⟨fun z=>(ha q hq).1 (by rw[Az];exact Am _ z),(ha q hq).2⟩
       . have e1:(X.env.cells.lookup n).getD 0=y.2:=e;rw[hc,Co] at e1;have e2:=(ha y hy).2;rw[<-e1] at e2;have:=ok.inj _ _ _ e2 hc;exact (ha y hy).1 (by rw[this,Az];exact Au)
 exact gen scope.names [] (fun n hn=>ok.has n (Z.out n hn)) Z.nd (fun p hp=>absurd hp (by simp)) DU
theorem zjS{M:Model}{A:Around}{E:Value->Shared->Prop}{env:Env}{cl:List (Str×Addr)}{Q:Env->Shared->Prop}
   (h:Q { scope:=scope,locals:=s.heap.objs.size,globals:=env.globals,cells:=cellsFrom (s.heap.objs.size+1) scope.names cl,qual:=env.qual,func:=none,code:=env.code,frame:=env.frame,builtins:=env.builtins }
     { s with heap:=pushCells (s.heap.push { cls:=.type "dict",data:=.dict #[] }) scope.names }) :
   wpAny M A (newFunctionEnv scope env.globals cl [] env.qual none .none (some env)) Q E s:=by
 simp only[newFunctionEnv,DQ,if_true];refine Aa (wpAny_alloc ?_);refine Aa (wpAny_layCells _ (fun name kind cells=>by cases hkc:kind==AH <;> simp[hkc]) _ _ _ _ ?_);rw[show ({ s with heap:=s.heap.push { cls:=.type "dict",data:=.dict #[] } }:Shared).heap.objs.size=s.heap.objs.size+1 from A3 ..];rw[Ce];exact Aa (Ae (Ae h))
noncomputable def zh6(σ:L2.St)(nt:Nat)(fr:List Nat):L2.St:=Av nt none++fr.map fun (j:Nat)=>(σ[j]?).join
theorem zjF{fp:List Addr}(Z:CompS X scope N' nt fr)(I:Inv X pins σ H s)(hf:∀ b∈fp,FpOk X pins H b)(hlt:∀ b∈fp,b < s.heap.objs.size) :
   Inv (zdv X scope N' (zdx X scope s.heap.objs.size) s.heap.objs.size s H fp) [] (zh6 σ nt fr) H { s with heap:=pushCells (s.heap.push { cls:=.type "dict",data:=.dict #[] }) scope.names }:=by
 have ok:=I.ok;have kp:∀ b o,s.heap.get? b=some o->(pushCells (s.heap.push { cls:=.type "dict",data:=.dict #[] }) scope.names).get? b=some o:=fun b o e=>Cw _ _ b o (Ad _ e);have clt:∀ p∈clX X scope,p.2 < s.heap.objs.size:=fun p hp=>by
   obtain⟨_,e⟩:=zgW Z ok hp;obtain⟨v,q⟩:=I.cell p.1 p.2 e;exact q.lt
 have sz:(s.heap.push { cls:=.type "dict",data:=.dict #[] }).objs.size=s.heap.objs.size+1:=A3 ..;have cells:∀ x c,(zdx X scope s.heap.objs.size).lookup x=some c->(X.env.cells.lookup x=some c)\/(s.heap.objs.size+1<=c/\(pushCells (s.heap.push { cls:=.type "dict",data:=.dict #[] }) scope.names).IsCell c none):=fun x c e=>by
   have m:=AG e
   rcases zdX m with h | h
   . exact .inl (zgW Z ok h).2
   . refine .inr ⟨h,?_⟩;have m':(x,c)∈cellsFrom (s.heap.push { cls:=.type "dict",data:=.dict #[] }).objs.size scope.names (clX X scope):=by rw[sz];exact m
     rcases zdU m' with q | q
     . have l:=clt _ q;exact absurd (Ao l (BB h)) (A0 _)
     . exact q
 refine⟨⟨ok.mod,Z.kind,ok.glob,ok.blt,Af _,fun x y c h1 h2=>?_,fun x hx=>?_,fun x c h1 h2=>?_,ok.hd,ok.frames,.inl rfl,fun b hb=>?_,I.bs,AD ok.bsz I.sz,fun b o e hb=>?_,fun b hb=>?_,I.stack,I.stkFree⟩,
   rfl,I.bare,Un.kept kp,⟨fun _=>none,?_,fun i x v h1 h2 h3=>?_⟩,fun x c e=>?_,I.hok.fresh (Af _),fun x c e=>?_,fun p hp=>absurd hp (by simp[zdv]),I.hok.kept kp,?_⟩
 . exact name_of_addr (zcL (zjT Z ok) fun p hp=>C0 (clt p hp)) (AG h1) (AG h2)
 . have hx:(relabel scope X.env).names.lookup x=some .cell\/(relabel scope X.env).names.lookup x=some .free:=hx;have q:(x,AH)∈scope.names\/(x,Ay)∈scope.names:=by
     rcases hx with hx | hx
     . obtain⟨k',e,z | z⟩:=zbG hx
       . subst z;exact .inl (AG e)
       . subst z;exact .inr (AG e)
     . obtain⟨k',e,z | z⟩:=zbG hx
       . subst z;exact .inr (AG e)
       . subst z;exact .inr (AG e)
   refine Option.isSome_iff_exists.mp (zgl (n:=s.heap.objs.size+1) (acc:=clX X scope) ?_)
   rcases q with q | q
   . exact .inl q
   . exact .inr (zd5 (.inl q))
 . have h1:(scope.names.any fun p=>p.1==x&&p.2==AH)=true:=h1;obtain⟨p,hp,e⟩:=List.any_eq_true.mp h1;rw[Ag] at e;have e1:p.1=x:=by simpa using e.1
   have e2:p.2=AH:=by simpa using e.2
   have hm:(x,AH)∈scope.names:=by rw[<-e1,<-e2];exact hp
   exact BB (zgm hm h2)
 . refine⟨AC (hlt b hb),fun x c e z=>?_⟩
   rcases cells x c e with q | ⟨q,_⟩
   . exact (hf b hb).2.2.2.2.1 x c q z
   . have l:=hlt b hb;rw[<-z] at l;exact absurd (Ao l (BB q)) (A0 _)
 . rcases (hf b hb).2.2.2.1 with z | z
   . exact ok.noex b o e z
   . exact absurd (Ao (Aj e) (AD ok.bsz z)) (A0 _)
 . intro hs
   rcases List.mem_cons.mp (I.stkSub b hs) with e | e
   . exact (hf b hb).2.1 e
   . exact (hf b hb).2.2.1 e
 . exact (Heap.Ns.new s.heap (.type "dict")).keeps (Cw _ _)
 . -- a captured name
   have hi:nt<=i:=by
     by_cases hi:i < nt
     . unfold zh6 at h2;rw[Ah (by simpa using hi),BI,if_pos hi] at h2;cases h2
     . omega
   obtain⟨i',rfl⟩:∃ i',i=nt+i':=⟨i - nt,by omega⟩
   unfold zh6 at h2;rw[AK (by simp),BQ,Nat.add_sub_cancel_left,AE] at h2
   cases ej:fr[i']? with
   | none=>rw[ej] at h2;cases h2
   | some j =>
     rw[ej] at h2;have h2:(σ[j]?).join=some v:=As h2;have h2:σ[j]?=some (some v):=by
       cases q:σ[j]? with
       | none=>rw[q] at h2;cases h2
       | some w=>rw[q] at h2;cases w with
         | none=>cases h2
         | some w=>cases h2;rfl
     obtain⟨hN,hfree⟩:=Z.cap i' j x ej h1;obtain⟨c,hc,hcc⟩:=zh7 Z ok hfree;have ho:=Z.out x hfree;obtain⟨m,hn,hl⟩:=I.loc;obtain⟨u,r,l⟩:=hl j x v hN h2 (ho.elim (fun z=>.inr (.inl z)) fun z=>.inr (.inr z));refine⟨u,r,.inr ⟨?_,c,hcc _,?_⟩⟩
     . exact zcm (lookup_mem Z.nd hfree)
     . rcases l with ⟨k,_⟩ | ⟨_,c',e',z⟩
       . rcases ho with q | q
         . rw[k] at q;cases q
         . rw[k] at q;cases q
       . rw[hc] at e';cases e';exact z.keeps kp
 . rcases cells x c e with q | ⟨_,q⟩
   . obtain⟨v,z⟩:=I.cell x c q;exact⟨v,z.keeps kp⟩
   . exact⟨none,q⟩
 . rcases cells x c e with q | ⟨q,_⟩
   . exact I.freeC x c q
   . exact I.hok.fresh (BB q)
 . show _=N'.length;unfold zh6;rw[Z.len,AA,BQ,Aq]
end
noncomputable abbrev FF:Value->Shared->Prop:=fun _ _=>False
theorem zfO{prog:Program}{w:World}{A:Around}{R:Result->Shared->Prop}{s:Shared}{elt target iter:Expr}{ifs:List Expr}{scope:Scope}{pos:Pos}{it acc:Value}{env:Env}(I:Nat->Shared->Prop)
   (turn:∀ n s,I n s->wpAny (model prog w) A (pyNext it) (fun r s1=>match r with
     | none=>R (.ok .next) s1
     | some v=>wpAny (model prog w) A (letOwnedTupleGo target it v) (fun _ s1=>wpAny (model prog w) A (assign target env v) (fun _ s2 =>
         wpAny (model prog w) A (forIn ifs true fun c r=>if r=true then do let ok <-isTrue c env (eval c env);pure (Cy ok) else pure (Cy r)) (fun ok s3 =>
           if ok=true then wpAny (model prog w) A (eval elt env) (fun x s4 =>
             wpAny (model prog w) A (call (.builtin "list.append") [acc,x]) (fun _ s5=>∃ m,m < n/\I m s5) FF s4) FF s3
           else ∃ m,m < n/\I m s3) FF s2) FF s1) FF s1) FF s)
   (n:Nat) (h:I n s) :
   codeAny (model prog w) A (.compLoop (.ListComp elt [⟨target,iter,ifs,0⟩] scope pos) 0 it acc env) R s:=by
 refine codeAny_loop rfl I (fun n s hI=>?_) n h;show wpAny _ A ((compTurn (.ListComp elt [⟨target,iter,ifs,0⟩] scope pos) 0 it acc env).onRaise (fun x=>do noteFrame x env;theTreesLotGoes x)) _ _ s;refine wpAny_noted ?_;rw[compTurn_list];refine Aa (wpAny_standAt (Aa (Bf (turn n s hI) (fun r s₁ h₁=>?_) fun _ _ h'=>False.elim h')))
 cases r with
 | none=>exact Ae h₁
 | some v =>
   refine Aa (Bf h₁ (fun _ s₂ h₂=>?_) fun _ _ h'=>False.elim h');refine Aa (Bf h₂ (fun _ s₂ h₂=>Aa (Bf h₂ (fun ok s₃ h₃=>?_) fun _ _ h'=>False.elim h')) fun _ _ h'=>False.elim h')
   cases ok with
   | false=>exact Ae ⟨rfl,h₃⟩
   | true =>
     exact Aa (Aa (Bf h₃ (fun x s₄ h₄=>Aa (Bf h₄ (fun _ s₅ h₅=>Ae (Ae ⟨rfl,h₅⟩)) fun _ _ h'=>False.elim h')) fun _ _ h'=>False.elim h'))
noncomputable def mCI(W:Wk)(g:MG)(c:MT)(m:ME):List D->Rho->Sto->Option (List D×Sto)
 | [],ρ,st=>if walked W st=true then some ([],st) else none
 | d::ds,ρ,st=>if walked W st=true then (g d ρ st).bind fun (ρ1,s1)=>(c ρ1 s1).bind fun (b,s2) =>
     if b=true then (m ρ1 s2).bind fun (x,s3)=>(mCI W g c m ds ρ1 s3).map fun (xs,s4)=>(x::xs,s4) else mCI W g c m ds ρ1 s2 else none
noncomputable def rho0(ρ:Rho)(nt:Nat)(fr:List Nat):Rho:=Av nt none++fr.map fun (j:Nat)=>(ρ[j]?).join
noncomputable def zcW(mi:MI)(nt:Nat)(fr:List Nat)(g:MG)(c:MT)(m:ME):ME:=fun ρ st=>(mi ρ st).bind fun (W,s1)=>(mCI W g c m W.ds (rho0 ρ nt fr) s1).bind fun (xs,s2) =>
 if fits xs.length=true then some (.ref s2.length,s2++[.lst xs]) else none
noncomputable def zd9:MT:=fun _ st=>some (true,st)
def SC(X:Cx)(ifs:List Expr)(m:MT):Prop:=∀ (pins:List (Addr×Obj)) (s:Shared) (σ:L2.St) (H:Hp) (Q:Bool->Hp->Prop),Inv X pins σ H s->tT X.K m σ H Q ->
 wpAny (model X.prog X.w) X.A (forIn ifs true fun c r=>if r=true then do let ok <-isTrue c X.env (eval c X.env);pure (Cy ok) else pure (Cy r)) (TP X pins σ Q) X.xe s
theorem zeN{X:Cx}:SC X [] zd9:=by
 rintro pins s σ H Q I ⟨ρ,st,io,b,st',E,S,e,k⟩;cases e;rw[Ce];exact Ae ⟨H,I,k H [] Ext.refl S.nil⟩
theorem zi5{X:Cx}{c:Expr}{m:MT}(h:SB X c m):SC X [c] m:=fun pins s σ H Q I q=>PySem.wpAny_tests_one (h pins s σ H Q I q)
section
variable {K:Ab} {H H1:Hp} {io ka:List Addr} {st:Sto} {σ:L2.St} {ρ:Rho}
theorem zjL{nt:Nat}{fr:List Nat}(h:EnvR K H io σ ρ):EnvR K H io (zh6 σ nt fr) (rho0 ρ nt fr):=by
 refine⟨by unfold zh6 rho0;simp,fun i d e=>?_⟩;unfold rho0 at e;unfold zh6
 by_cases hi:i < nt
 . rw[Ah (by simpa using hi),BI,if_pos hi] at e;cases e
 . rw[AK (by simpa using hi),BQ,AE] at e ⊢
   cases ej:fr[i - nt]? with
   | none=>rw[ej] at e;cases e
   | some j =>
     rw[ej] at e;have e:(ρ[j]?).join=some d:=As e;have e:ρ[j]?=some (some d):=by
       cases q:ρ[j]? with
       | none=>rw[q] at e;cases e
       | some w=>rw[q] at e;cases w with
         | none=>cases e
         | some w=>cases e;rfl
     obtain⟨v,hv,r⟩:=h.at_ j d e;exact⟨v,by simp[hv],r⟩
theorem adopt{p:Addr}{xs:List V}{ds:List D}(S:StR K H io st)(hp:H p=some (.lst xs))(np:p ∉ io)(R:Reps K H io xs ds):StR K H (io++[p]) (st++[.lst ds]):=by
 refine⟨by simp[S.len],?_,fun n a ob h1 h2=>?_⟩
 . rw[DV];refine⟨S.nd,by simp,fun a ha b hb=>?_⟩;rw[List.mem_singleton.mp hb];rintro rfl;exact np ha
 . by_cases hn:n < io.length
   . rw[Ah hn] at h1;rw[Ah (by rw[<-S.len];exact hn)] at h2;exact OR.mono ⟨fun _ _ h=>h,fun _ _ _ h=>h⟩ rfl (S.ob n a ob h1 h2)
   . have hl:n < (io++[p]).length:=(List.getElem?_eq_some_iff.mp h1).1;rw[AA,By] at hl;have e:n=io.length:=by omega
     subst e;rw[AK (Af _),Cv] at h1;rw[S.len,AK (Af _),Cv] at h2
     cases (As h1)
     cases (As h2)
     exact⟨xs,hp,Reps.mono ⟨fun _ _ h=>h,fun _ _ _ h=>h⟩ R⟩
end
section
variable {X:Cx} {scope:Scope} {N':List Str} {nt:Nat} {fr:List Nat} {elt tg iter:Expr} {ifs:List Expr} {pos:Pos} {mi:MI} {g:MG} {c:MT} {m:ME}
structure CompEnd(X:Cx)(pins:List (Addr×Obj))(σ:L2.St)(H:Hp)(io:List Addr)(d:D)(st':Sto)(Dd C:Addr)(H5:Hp)(s6:Shared):Prop where
 inv:Inv X pins σ H5 s6
 ns:∃ m,s6.heap.Ns C m
 free:H5 C=none
 ne:C≠X.env.locals
 young:X.s₀.heap.objs.size<=C
 cells:∀ x c,X.env.cells.lookup x=some c->c≠C
 pin:∀ p∈X.pn++pins,p.1≠C
 val:∃ ka,Ext io ka H H5/\StR X.K H5 (io++ka) st'/\Rep X.K H5 (io++ka) (.ref Dd) d
inductive CompI (X Y:Cx) (W:Wk) (tn:Nat->Heap->Prop) (fp io:List Addr) (H1:Hp) (Dd:Addr) (g:MG) (c:MT) (m:ME) (t2:Sto) (xs:List D) (n:Nat) (s5:Shared):Prop
 | mk (i:Nat) (σ5:L2.St) (H5:Hp) (ρ5:Rho) (st5:Sto) (k5:List Addr) (ac rs:List D) (h0:n=W.ds.length - i) (h1:Inv Y [] σ5 H5 s5) (h2:tn i s5.heap) (h3:∀ b∈fp,H5 b=none) (h4:Ext io k5 H1 H5) (h5:Dd ∉ k5) (h6:StR X.K H5 (io++k5) st5) (h7:EnvR X.K H5 (io++k5) σ5 ρ5) (h8:∃ vs,H5 Dd=some (.lst vs)/\Reps X.K H5 (io++k5) vs ac) (h9:mCI W g c m (W.ds.drop i) ρ5 st5=some (rs,t2)) (h10:xs=ac++rs)
theorem zjR(hx:X.xe=FF)(hc:X.calm=true)(Z:CompS X scope N' nt fr)(hi:SI X tg iter mi)
   (hg:∀ C s0 H0 fp,SG (zdv X scope N' (zdx X scope C) C s0 H0 fp) tg g) (ht:∀ C s0 H0 fp,SC (zdv X scope N' (zdx X scope C) C s0 H0 fp) ifs c) (he:∀ C s0 H0 fp,SE (zdv X scope N' (zdx X scope C) C s0 H0 fp) elt m)
   (hs:∀ x,foldedSetIterable iter X.env x=pure x) {pins:List (Addr×Obj)} {s:Shared} {σ:L2.St} {H:Hp} {ρ:Rho} {st st':Sto} {io:List Addr} {d:D} {use:Option (Value->Sem Unit)} {Qf:Value->Shared->Prop} {ps:Pos}
   (I:Inv X pins σ H s) (E:EnvR X.K H io σ ρ) (S:StR X.K H io st) (e:zcW mi nt fr g c m ρ st=some (d,st'))
   (kf:∀ Dd C H5 s6,CompEnd X pins σ H io d st' Dd C H5 s6->compPost (model X.prog X.w) X.A X.xe use Qf (.ref Dd) C (.ok .next) s6) :
   wpAny (model X.prog X.w) X.A (comprehension (.ListComp elt [⟨tg,iter,ifs,0⟩] scope pos) scope X.env ps (newList []) false (eval iter X.env) use) Qf X.xe s:=by
 obtain⟨⟨W,t1⟩,e1,e⟩:=zad e;obtain⟨⟨xs,t2⟩,e2,e⟩:=zad e;obtain⟨hfit,e⟩:=zam e;cases e;refine wpAny_comprehension_free (use:=use) rfl hs (zgV fun n hn=>I.ok.has n (Z.out n hn)) Z.kind (fun x hx hl=>by
   obtain⟨n,k⟩:=x
   cases (show k=.local from hl)
   exact lookup_mem Z.nd hx) ?_
 refine thn (hi pins s σ H (fun J H1=>∃ ka,Ext io ka H H1/\StR X.K H1 (io++ka) t1/\ItOk X.K H1 (io++ka) W J) I ⟨ρ,st,io,W,t1,E,S,e1,fun J H' ka X' S' O'=>⟨ka,X',S',O'⟩⟩) fun v sa ha=>?_;refine thn ha ?_;rintro itv s2 ⟨it,fp,tn,J,H1,eit,I1,T,tn0,fpok,k1,X1,S1,IO⟩;subst eit;refine AJ ?_
 -- the new list
 have hD:H1 s2.heap.objs.size=none:=I1.hok.fresh (Af _);have I3:Inv X pins σ (upd H1 s2.heap.objs.size (.lst [])) { s2 with heap:=s2.heap.push { cls:=.type "list",data:=.seq ([]:List Value).toArray },toks:=s2.toks }:=I1.lnew .nil (A8 _);obtain⟨X2,S2a⟩:=zff (o:=.lst []) S1 hD;rw[Al] at S2a;have S2:StR X.K (upd H1 s2.heap.objs.size (.lst [])) (io++k1) t1:=S2a;clear S2a;generalize hH3:upd H1 s2.heap.objs.size (.lst [])=H3 at I3 X2 S2;have H3D:H3 s2.heap.objs.size=some (.lst []):=by rw[<-hH3];exact zbU
 generalize hD':s2.heap.objs.size=Dd at hD I3 X2 S2 hH3 H3D ⊢;generalize hs3:({ s2 with heap:=s2.heap.push { cls:=.type "list",data:=.seq ([]:List Value).toArray },toks:=s2.toks }:Shared)=s3 at I3;have fplt:∀ b∈fp,b < s3.heap.objs.size:=fun b hb=>by
   obtain⟨o,ho,_⟩:=T.obj 0 _ tn0 b hb;rw[<-hs3];exact Ao (Aj ho) (by show _<=(s2.heap.push _).objs.size;rw[A3];exact CJ _)
 have fpD:∀ b∈fp,b≠Dd:=fun b hb z=>by
   obtain⟨o,ho,_⟩:=T.obj 0 _ tn0 b hb;have:=Aj ho;rw[z,<-hD'] at this;exact A0 _ this
 have fp3:∀ b∈fp,FpOk X pins H3 b:=fun b hb=>⟨by rw[<-hH3,zaW (fpD b hb)];exact (fpok b hb).1,(fpok b hb).2⟩
 have tn3:tn 0 s3.heap:=T.keep 0 _ _ tn0 fun b _ o ho=>by rw[<-hs3];exact Ad _ ho
 refine zjS ?_;have I4:=zjF (fp:=fp) Z I3 fp3 fplt;have tn4:tn 0 (pushCells (s3.heap.push { cls:=.type "dict",data:=.dict #[] }) scope.names):=T.keep 0 _ _ tn3 fun b _ o ho=>Cw _ _ _ _ (Ad _ ho);generalize hs4:({ s3 with heap:=pushCells (s3.heap.push { cls:=.type "dict",data:=.dict #[] }) scope.names }:Shared)=s4 at I4;have tn4:tn 0 s4.heap:=by rw[<-hs4];exact tn4
 show codeAny (model X.prog X.w) X.A (.compStart (.ListComp elt [⟨tg,iter,ifs,0⟩] scope pos) 0 (.ref it) (.ref Dd) (zdv X scope N' (zdx X scope s3.heap.objs.size) s3.heap.objs.size s3 H3 fp).env) _ _;generalize hY:zdv X scope N' (zdx X scope s3.heap.objs.size) s3.heap.objs.size s3 H3 fp=Y at I4;have yP:Y.prog=X.prog:=by rw[<-hY];rfl
 have yW:Y.w=X.w:=by rw[<-hY];rfl
 have yK:Y.K=X.K:=by rw[<-hY];rfl
 have yC:Y.calm=true:=by rw[<-hY];exact hc
 have yA:Y.A=X.A:=by rw[<-hY];rfl
 have yx:Y.xe=FF:=by rw[<-hY];rfl
 have hg:=hg s3.heap.objs.size s3 H3 fp;have ht:=ht s3.heap.objs.size s3 H3 fp;have he:=he s3.heap.objs.size s3 H3 fp;rw[hY] at hg ht he;have yex:Y.ex=fp:=by rw[<-hY];rfl
 have yfs:∀ b∈fp,b ∉ Y.fs:=fun b hb hs=>by
   rw[<-hY] at hs;have hs:b∈frs X.stack:=hs
   rcases List.mem_cons.mp (I3.stkSub b hs) with z | z
   . exact (fp3 b hb).2.1 z
   . exact (fp3 b hb).2.2.1 z
 have yL:Y.env.locals=s3.heap.objs.size:=by rw[<-hY];rfl
 -- the loop
 have hio:Dd ∉ io++k1:=fun hm=>by
   obtain⟨u,hu,_⟩:=S1.mem hm;rw[hD] at hu;cases hu
 have start:∀ {H':Hp} {sx:Shared} {σ':L2.St},Inv Y [] σ' H' sx->(∀ b∈fp,H' b=none)->∀ b∈fp,FpOk Y [] H' b:=fun {H' sx σ'} I' hn b hb=>by
   refine⟨hn b hb,fun z=>?_,yfs b hb,.inl (by rw[yex];exact hb),fun x cc e z=>?_,fun p hp=>absurd hp (by rw[<-hY];simp[zdv])⟩
   . rw[yL] at z;exact absurd (fplt b hb) (by rw[z];exact A0 _)
   . exact (I'.ok.exf b (by rw[yex];exact hb)).2 x cc e z
 have loop:∀ sx:Shared,Inv Y [] (zh6 σ nt fr) H3 sx->tn 0 sx.heap->codeAny (model X.prog X.w) X.A (.compLoop (.ListComp elt [⟨tg,iter,ifs,0⟩] scope pos) 0 (.ref it) (.ref Dd) Y.env) (compPost (model X.prog X.w) X.A X.xe use Qf (.ref Dd) s3.heap.objs.size) sx:=by
   intro sx Ix tnx;refine zfO (CompI X Y W tn fp (io++k1) H1 Dd g c m t2 xs) ?_ (W.ds.length - 0)
     ⟨0,zh6 σ nt fr,H3,rho0 ρ nt fr,t1,[],[],xs,rfl,Ix,tnx,fun b hb=>(fp3 b hb).1,X2,by simp,S2.nil,by rw[Al];exact zjL (by have:=(E.ext S X1).ext S1 X2;rw[Al] at this;exact this),⟨[],H3D,rfl⟩,by rw[Eo];exact e2,rfl⟩
   rintro n s5 ⟨i,σ5,H5,ρ5,st5,k5,ac,rs,rfl,I5,tn5,fr5,X25,nk5,S5,E5,⟨vs,hvs,Rvs⟩,e5,exs⟩;have nD:∀ {kk:List Addr},Dd ∉ kk->Dd ∉ (io++k1)++kk:=fun {kk} hk hm=>(List.mem_append.mp hm).elim hio hk;have nF:∀ {kk jj:List Addr} {Ha Hb:Hp} {vv:List V},Ext jj kk Ha Hb->Ha Dd=some (.lst vv)->Dd ∉ kk:=fun {kk jj Ha Hb vv} Xx hv hm=>by
     have q:=Xx.fresh Dd hm;rw[hv] at q;cases q
   cases hd:W.ds[i]? with
   | none =>
     have hl:W.ds.length<=i:=List.getElem?_eq_none_iff.mp hd;rw[Du hl] at e5;obtain⟨hw,e5⟩:=zam e5;cases e5;have:=T.done Y yP yW yK yC i [] s5 σ5 H5 FF I5 (start I5 fr5) tn5 (IO.stop' H5 k5 _ i hl X25 S5 (zct hw));rw[yA] at this;refine thn this ?_;rintro r s6 ⟨hr,I6⟩;subst hr;obtain⟨mm,hn,_⟩:=id I6.loc;rw[yL] at hn
     -- back in the frame
     have base:Un (frs X.stack) fp H3 H5 s3.heap s6.heap:=by
       have b:=I6.base;rw[<-hY] at b;exact b
     have os:s6.os=s3.os:=by
       have b:=I6.os;rw[<-hY] at b;exact b
     have free:H5 s3.heap.objs.size=none:=by
       have b:=I6.free;rw[yL] at b;exact b
     have hok:HOk X.prog X.w H5 s6.heap:=by
       have b:=I6.hok;rw[yP,yW] at b;exact b
     have I7:Inv X pins σ H5 s6:=Inv.call' (s':=s6) (ch:=fp) I3 os base hok I6.bare fun b hb=>⟨(fp3 b hb).2.2.2.1,(fp3 b hb).2.1,(fp3 b hb).2.2.2.2.1,(fp3 b hb).2.2.2.2.2⟩
     have np:Dd ∉ (io++k1)++k5:=nD nk5;rw[Al] at exs;subst exs;have SA:=adopt S5 hvs np Rvs;have X6:Ext io (k1++k5) H H5:=X1.trans S1 X25;have lt3:X.env.locals < s3.heap.objs.size:=I3.lt;refine kf Dd s3.heap.objs.size H5 s6 ⟨I7,⟨mm,hn⟩,free,Ct lt3,I3.sz,fun x cc e z=>?_,fun p hp z=>?_,?_⟩
     . obtain⟨vv,q⟩:=I3.cell x cc e;have:=q.lt;rw[z] at this;exact A0 _ this
     . have:=Aj (I3.pin p hp).1;rw[z] at this;exact A0 _ this
     refine⟨(k1++k5)++[Dd],⟨fun b o hb nb=>X6.keep b o hb nb,fun b hb=>?_,X6.frz⟩,(by simpa using SA),⟨Dd,rfl,?_⟩⟩
     . rcases List.mem_append.mp hb with hb | hb
       . exact X6.fresh b hb
       . rw[List.mem_singleton.mp hb]
         cases q:H Dd with
         | none=>rfl
         | some o =>
           by_cases hb:Dd∈io
           . exact absurd (Be _ hb) hio
           . have:=X1.keep Dd o q hb;rw[hD] at this;cases this
     . have:=getElem?_len ((io++k1)++k5) Dd;rw[<-S5.len];simpa using this
   | some dd =>
     have hl:i < W.ds.length:=(List.getElem?_eq_some_iff.mp hd).1;have hdr:W.ds.drop i=dd::W.ds.drop (i+1):=by
       rw[C5 hl,(List.getElem?_eq_some_iff.mp hd).2]
     rw[hdr] at e5;obtain⟨hw,e5⟩:=zam e5;obtain⟨⟨ρ6,t6⟩,e6,e5⟩:=zad e5;obtain⟨⟨b7,t7⟩,e7,e5⟩:=zad e5;obtain⟨go,yl⟩:=IO.go i dd H5 k5 st5 hd X25 S5 (zct hw);have hit:=T.item Y yP yW yK yC i [] s5 σ5 H5 FF I5 (start I5 fr5) tn5 go;rw[yA] at hit;refine thn hit ?_;rintro r s6 ⟨u,hr,h6⟩;subst hr;refine thn h6 ?_;rintro _ s7 ⟨x,H7,I7,r7,y7,tn7,fr7⟩;obtain⟨X7,S7,R7⟩:=yl x H7 y7;have X57:Ext (io++k1) k5 H1 H7:=(X25.trans S5 X7).app;have hv7:H7 Dd=some (.lst vs):=X7.keep _ _ hvs (nD nk5);have E7:EnvR X.K H7 ((io++k1)++k5) σ5 ρ5:=by
       have:=E5.ext S5 X7;rw[Al] at this;exact this
     have R7v:Reps X.K H7 ((io++k1)++k5) vs ac:=by
       have:=Rvs.ext S5 X7;rw[Al] at this;exact this
     have I7p:=I7.pinned (start I7 fr7) (T.obj _ _ tn7);rw[<-yA,<-yP,<-yW];rw[<-yx];refine thn (hg _ s7 σ5 H7 x u (fun σ8 H8=>∃ k8,Ext ((io++k1)++k5) k8 H7 H8/\StR X.K H8 (((io++k1)++k5)++k8) t6/\EnvR X.K H8 (((io++k1)++k5)++k8) σ8 ρ6) I7p r7 (by rw[yK];exact⟨dd,ρ5,st5,(io++k1)++k5,ρ6,t6,R7,E7,S7,e6,fun σ8 H8 k8 X8 S8 E8=>⟨k8,X8,S8,E8⟩⟩)) ?_;rintro _ s8 ⟨σ8,H8,I8,k8,X8,S8,E8⟩;have S8':StR X.K H8 ((io++k1)++(k5++k8)) t6:=by rw[<-Ak];exact S8
     have E8':EnvR X.K H8 ((io++k1)++(k5++k8)) σ8 ρ6:=by rw[<-Ak];exact E8
     have X38:Ext (io++k1) (k5++k8) H1 H8:=X57.trans S7 X8;have nk8:Dd ∉ k5++k8:=fun hm=>(List.mem_append.mp hm).elim nk5 (nF X8 hv7);refine thn (ht _ s8 σ8 H8 (fun b H9=>b=b7/\∃ k9,Ext ((io++k1)++(k5++k8)) k9 H8 H9/\StR X.K H9 (((io++k1)++(k5++k8))++k9) t7) I8 (by rw[yK];exact⟨ρ6,t6,(io++k1)++(k5++k8),b7,t7,E8',S8',e7,fun H9 k9 X9 S9=>⟨rfl,k9,X9,S9⟩⟩)) ?_;rintro ok s9 ⟨H9,I9,eb,k9,X9,S9⟩;subst eb;have X39:Ext (io++k1) ((k5++k8)++k9) H1 H9:=X38.trans S8' X9;have S9':StR X.K H9 ((io++k1)++((k5++k8)++k9)) t7:=by rw[<-Ak];exact S9
     have E9:EnvR X.K H9 ((io++k1)++((k5++k8)++k9)) σ8 ρ6:=by
       have:=E8'.ext S8' X9;rw[Ak] at this;exact this
     have hv8:H8 Dd=some (.lst vs):=X8.keep _ _ hv7 (nD nk5);have hv9:H9 Dd=some (.lst vs):=X9.keep _ _ hv8 (nD nk8);have nk9:Dd ∉ (k5++k8)++k9:=fun hm=>(List.mem_append.mp hm).elim nk8 (nF X9 hv8);have R8v:Reps X.K H8 ((io++k1)++(k5++k8)) vs ac:=by
       have:=R7v.ext S7 X8;rw[Ak] at this;exact this
     have R9v:Reps X.K H9 ((io++k1)++((k5++k8)++k9)) vs ac:=by
       have:=R8v.ext S8' X9;rw[Ak] at this;exact this
     have back:∀ {Hx:Hp} {sx:Shared} {σx:L2.St},Inv Y ([]++zgi fp s7.heap) σx Hx sx->Inv Y [] σx Hx sx/\tn (i+1) sx.heap/\∀ b∈fp,Hx b=none:=fun {Hx sx σx} Ix=>by
       refine⟨Ix.unpinned,T.keep _ _ _ tn7 fun b hb o e=>(Ix.pin (b,o) (AN _ (AN _ (zcx hb e)))).1,fun b hb=>?_⟩;obtain⟨o,e,dn⟩:=T.obj _ _ tn7 b hb;exact (Ix.pin (b,o) (AN _ (AN _ (zcx hb e)))).2.1
     cases ok with
     | false =>
       rw[if_neg (by decide)];have e5:mCI W g c m (W.ds.drop (i+1)) ρ6 t7=some (rs,t2):=e5;obtain⟨Ib,tnb,frb⟩:=back I9;exact⟨W.ds.length - (i+1),by omega,i+1,σ8,H9,ρ6,t7,(k5++k8)++k9,ac,rs,rfl,Ib,tnb,frb,X39,nk9,S9',E9,⟨vs,hv9,R9v⟩,e5,exs⟩
     | true =>
       rw[if_pos rfl];have e5:((m ρ6 t7).bind fun (x,s3)=>(mCI W g c m (W.ds.drop (i+1)) ρ6 s3).map fun (xs,s4)=>(x::xs,s4))=some (rs,t2):=e5;obtain⟨⟨x10,t10⟩,e10,e5⟩:=zad e5;obtain⟨⟨rs',t11⟩,e11,e5⟩:=zah e5;cases e5;refine thn (he _ s9 σ8 H9 (fun v H10=>∃ k10,Ext ((io++k1)++((k5++k8)++k9)) k10 H9 H10/\StR X.K H10 (((io++k1)++((k5++k8)++k9))++k10) t10/\Rep X.K H10 (((io++k1)++((k5++k8)++k9))++k10) v x10) I9
         (by rw[yK];exact⟨ρ6,t7,(io++k1)++((k5++k8)++k9),x10,t10,E9,S9',e10,fun v H10 k10 X10 S10 R10=>⟨k10,X10,S10,R10⟩⟩)) fun u10 s10 ⟨v10,H10,I10,r10,k10,X10,S10,R10⟩=>?_
       have X310:Ext (io++k1) (((k5++k8)++k9)++k10) H1 H10:=X39.trans S9' X10;have nk10:Dd ∉ ((k5++k8)++k9)++k10:=fun hm=>(List.mem_append.mp hm).elim nk9 (nF X10 hv9);have S10':StR X.K H10 ((io++k1)++(((k5++k8)++k9)++k10)) t10:=by rw[<-Ak];exact S10
       have hv10:H10 Dd=some (.lst vs):=X10.keep _ _ hv9 (nD nk9);have E10:EnvR X.K H10 ((io++k1)++(((k5++k8)++k9)++k10)) σ8 ρ6:=by
         have:=E9.ext S9' X10;rw[Ak] at this;exact this
       have R10v:Reps X.K H10 ((io++k1)++(((k5++k8)++k9)++k10)) (vs++[v10]) (ac++[x10]):=by
         have a:=R9v.ext S9' X10;rw[Ak] at a;rw[Ak] at R10;exact a.append (Reps.cons R10 Reps.nil)
       have hlen:vs.length < sizeLine:=by
         rw[R9v.length];have:=of_decide_eq_true hfit;rw[exs] at this;simp at this;omega
       refine thn (zfg _ s10 σ8 H10 (.ref Dd) [v10] (.ref Dd) [u10] (fun _ H11=>H11=upd H10 Dd (.lst (vs++[v10]))) I10 rfl (.cons r10 .nil) ⟨Dd,vs,v10,rfl,rfl,hv10,hlen,rfl⟩) ?_;rintro _ s11 ⟨_,H11,I11,_,e11'⟩;subst e11';have nD10:=nD nk10
       -- the new list is written: nothing of the store
       have XU:∀ b o,H10 b=some o->b≠Dd->upd H10 Dd (.lst (vs++[v10])) b=some o:=fun b o hb hn=>by rw[zaW hn];exact hb
       have TU:Kp H10 (upd H10 Dd (.lst (vs++[v10]))):=⟨fun a ys hb=>XU a _ hb (zmz hb hv10 (by simp)),fun a o u hb=>XU a _ hb (zmz hb hv10 (by simp))⟩
       have S11:StR X.K (upd H10 Dd (.lst (vs++[v10]))) ((io++k1)++(((k5++k8)++k9)++k10)) t10:=by
         refine⟨S10'.len,S10'.nd,fun n a ob h1 h2=>?_⟩;have hne:a≠Dd:=fun z=>nD10 (by rw[<-z];exact BC h1);have:=OR.mono (ka:=[]) TU (zaW hne) (S10'.ob n a ob h1 h2);rw[Al] at this;exact this
       have mono0:∀ {v:V} {d:D},Rep X.K H10 ((io++k1)++(((k5++k8)++k9)++k10)) v d->Rep X.K (upd H10 Dd (.lst (vs++[v10]))) ((io++k1)++(((k5++k8)++k9)++k10)) v d:=fun {v d} h=>by
         have:=Rep.mono (ka:=[]) TU h;rw[Al] at this;exact this
       have mono1:∀ {v:List V} {d:List D},Reps X.K H10 ((io++k1)++(((k5++k8)++k9)++k10)) v d->Reps X.K (upd H10 Dd (.lst (vs++[v10]))) ((io++k1)++(((k5++k8)++k9)++k10)) v d:=fun {v d} h=>by
         have:=Reps.mono (ka:=[]) TU h;rw[Al] at this;exact this
       obtain⟨Ib,tnb,frb⟩:=back I11;refine⟨W.ds.length - (i+1),by omega,i+1,σ8,upd H10 Dd (.lst (vs++[v10])),ρ6,t10,((k5++k8)++k9)++k10,ac++[x10],rs',rfl,Ib,tnb,frb,⟨fun b o hb nb=>XU b o (X310.keep b o hb nb) (fun z=>by rw[z,hD] at hb;cases hb),X310.fresh,fun b o u hb=>XU b _ (X310.frz b o u hb) (fun z=>by rw[z,hD] at hb;cases hb)⟩,nk10,S11,⟨E10.len,fun j dj hj=>?_⟩,⟨_,zbU,mono1 R10v⟩,e11,by rw[exs,Ak];rfl⟩;obtain⟨v,q,r⟩:=E10.at_ j dj hj;exact⟨v,q,mono0 r⟩
 have l4:=loop s4 I4 tn4;exact codeAny_compStart_list l4 (T.self _ 0 _ _ _ tn4 l4)
theorem zcj(hx:X.xe=FF)(hc:X.calm=true)(Z:CompS X scope N' nt fr)(hi:SI X tg iter mi)
   (hg:∀ C s0 H0 fp,SG (zdv X scope N' (zdx X scope C) C s0 H0 fp) tg g) (ht:∀ C s0 H0 fp,SC (zdv X scope N' (zdx X scope C) C s0 H0 fp) ifs c) (he:∀ C s0 H0 fp,SE (zdv X scope N' (zdx X scope C) C s0 H0 fp) elt m)
   (hs:∀ x,foldedSetIterable iter X.env x=pure x:=by intro _;rfl):SE X (.ListComp elt [⟨tg,iter,ifs,0⟩] scope pos) (zcW mi nt fr g c m):=by
 rintro pins s σ H Q I ⟨ρ,st,io,d,st',E,S,e,k⟩;rw[eval_ListComp];refine zjR (use:=none) hx hc Z hi hg ht he hs I E S e fun Dd C H5 s6 R=>?_;obtain⟨m5,hn⟩:=R.ns;refine⟨m5,hn,fun h' hsb=>?_⟩;obtain⟨ka,X5,S5,R5⟩:=R.val;exact⟨.ref Dd,H5,R.inv.turned (t':=s6.toks) (it:=C) (fun b o hb q=>(hsb.2 b hb).trans q) R.free R.ne (.inr R.young) R.cells R.pin,rfl,k _ _ ka X5 S5 R5⟩
end
section
variable {X:Cx} {e a b c:Expr} {es:List Expr} {pos:Pos} {m ma mb mc:ME} {mm:MA}
variable {K:Ab} {H:Hp} {io ka:List Addr} {st st':Sto}
noncomputable def addD:G2
 | .int i,.int j,st=>some (.int (i+j),st)
 | .str a,.str b,st=>if fits (a.length+b.length)=true then some (.str (a++b),st) else none
 | .tup a,.tup b,st=>if (!a.isEmpty&&fits (a.length+b.length))=true then some (.tup (a++b),st) else none
 | .ref a,.ref b,st=>match st[a]?,st[b]? with
   | some (.lst x),some (.lst y)=>if fits (x.length+y.length)=true then some (.ref st.length,st++[.lst (x++y)]) else none
   | _,_=>none
 | _,_,_=>none
theorem za3:OpM X (binaryOp .Add) addD:=by
 rintro pins s σ H x y v u Q I rx ry ⟨dx,dy,st,io,d,st',Rx,Ry,S,e,k⟩
 cases dx with
 | int i =>
   cases dy with
   | int j=>cases e;exact zmw pins s σ H x y v u Q I rx ry ⟨i,j,Rx,Ry,k.now S rfl⟩
   | _=>cases e
 | str i =>
   cases dy with
   | str j =>
     obtain⟨hf,e⟩:=zam e
     cases e;exact zgq pins s σ H x y v u Q I rx ry ⟨i,j,Rx,Ry,of_decide_eq_true hf,k.now S rfl⟩
   | _=>cases e
 | tup i =>
   cases dy with
   | tup j =>
     obtain⟨hf,e⟩:=zam e;cases e;rw[Ag] at hf;obtain⟨p,xs,ex,hp,r1⟩:=Rx;obtain⟨q,ys,ey,hq,r2⟩:=Ry;refine zk3 pins s σ H x y v u Q I rx ry ⟨p,q,xs,ys,ex,ey,SqT.of hp,SqT.of hq,fun z=>?_,by rw[r1.length,r2.length];exact of_decide_eq_true hf.2,fun z=>?_,fun z p hp=>k.tup S (r1.append r2) hp⟩
     . have:=r1.length;rw[z] at this;have:i=[]:=Bk this.symm;rw[this] at hf;exact absurd hf.1 (by decide)
     . have:=r2.length;rw[z] at this;have:j=[]:=Bk this.symm;subst this;rw[Al] at k;exact k.now S ⟨p,xs,rfl,hp,r1⟩
   | _=>cases e
 | ref i =>
   cases dy with
   | ref j =>
     unfold addD at e;dsimp only at e
     split at e
     . rename_i l1 l2 e1 e2;obtain⟨hf,e⟩:=zam e;cases e;obtain⟨p,ex,hp⟩:=Rx;obtain⟨q,ey,hq⟩:=Ry;obtain⟨xs,h1,r1⟩:=S.ob i p _ hp e1;obtain⟨ys,h2,r2⟩:=S.ob j q _ hq e2;exact zmv pins s σ H x y v u Q I rx ry ⟨p,q,xs,ys,ex,ey,h1,h2,by rw[r1.length,r2.length];exact of_decide_eq_true hf,fun p hp=>k.lst S (r1.append r2) hp⟩
     . cases e
   | _=>cases e
 | _=>cases e
noncomputable def intD(c:Int->Int->Bool)(g:Int->Int->D):G2
 | .int i,.int j,st=>if c i j=true then some (g i j,st) else none
 | _,_,_=>none
theorem zen{f:Value->Value->Sem Value}{C:Int->Int->Prop}{c:Int->Int->Bool}{g:Int->Int->Int}(h:OpR X f (rI C fun i j=>.int (g i j)))(hc:∀ i j,c i j=true->C i j):OpM X f (intD c fun i j=>.int (g i j)):=by
 rintro pins s σ H x y v u Q I rx ry ⟨dx,dy,st,io,d,st',Rx,Ry,S,e,k⟩
 cases dx with
 | int i =>
   cases dy with
   | int j =>
     obtain⟨hf,e⟩:=zam e
     cases e;exact h pins s σ H x y v u Q I rx ry ⟨i,j,Rx,Ry,hc i j hf,k.now S rfl⟩
   | _=>cases e
 | _=>cases e
noncomputable def tt2:Int->Int->Bool:=fun _ _=>true
noncomputable def subD:G2:=intD tt2 fun i j=>.int (i - j)
theorem zfc:OpM X (binaryOp .Sub) subD:=zen (C:=fun _ _=>True) (fun pins s σ H x y v u Q I rx ry ⟨i,j,h1,h2,_,q⟩=>zmp pins s σ H x y v u Q I rx ry ⟨i,j,h1,h2,q⟩) fun _ _ _=>trivial
noncomputable def in64(i:Int):Bool:=decide (-(2 ^ 64) < i)&&decide (i < 2 ^ 64)
noncomputable def mulD:G2:=intD (fun i j=>in64 i || in64 j) fun i j=>.int (i*j)
theorem zkZ:OpM X (binaryOp .Mult) mulD:=zen zmq fun i j h=>by
 rw[Dm] at h;unfold in64 at h;rw[Ag,Ag] at h
 rcases h with h | h
 . exact .inl ⟨of_decide_eq_true h.1,of_decide_eq_true h.2⟩
 . exact .inr ⟨of_decide_eq_true h.1,of_decide_eq_true h.2⟩
noncomputable def modD:G2:=intD (fun _ j=>decide (0 < j)) fun i j=>.int (i % j)
theorem zdq:OpM X (binaryOp .Mod) modD:=zen zmr fun i j h=>of_decide_eq_true h
noncomputable def cmpD(g:Int->Int->Bool):G2
 | .int i,.int j,st=>some (.bl (g i j),st)
 | _,_,_=>none
theorem zfd{f:Value->Value->Sem Value}{g:Int->Int->Bool}(h:OpR X f (rI0 fun i j=>.bl (g i j))):OpM X f (cmpD g):=by
 rintro pins s σ H x y v u Q I rx ry ⟨dx,dy,st,io,d,st',Rx,Ry,S,e,k⟩
 cases dx with
 | int i =>
   cases dy with
   | int j=>cases e;exact h pins s σ H x y v u Q I rx ry ⟨i,j,Rx,Ry,k.now S rfl⟩
   | _=>cases e
 | _=>cases e
noncomputable def ltD:G2:=cmpD fun i j=>decide (i < j)
noncomputable def leD:G2:=cmpD fun i j=>decide (i<=j)
noncomputable def gtD:G2:=cmpD fun i j=>decide (j < i)
noncomputable def geD:G2:=cmpD fun i j=>decide (j<=i)
theorem zms:OpM X (compareOp .Lt) ltD:=zfd znv
theorem zfC:OpM X (compareOp .LtE) leD:=zfd znw
theorem zjl:OpM X (compareOp .Gt) gtD:=zfd znx
theorem zk2:OpM X (compareOp .GtE) geD:=zfd zny
noncomputable def zmO:D->Bool
 | .non=>true
 | _=>false
noncomputable def isND:G2:=fun x y st=>match y with
 | .non=>some (.bl (zmO x),st)
 | _=>none
noncomputable def zm1:G2:=fun x y st=>match y with
 | .non=>some (.bl !zmO x,st)
 | _=>none
theorem zin{v:V}{d:D}(h:Rep K H io v d):decide (v=.non)=zmO d:=by
 cases d with
 | non=>cases (show v=.non from h);rfl
 | bl b=>cases (show v=.bl b from h);rfl
 | int b=>cases (show v=.int b from h);rfl
 | str b=>cases (show v=.str b from h);rfl
 | tup b=>obtain⟨a,xs,rfl,_⟩:=h;rfl
 | ref b=>obtain⟨a,rfl,_⟩:=h;rfl
 | kl b=>obtain⟨a,xs,rfl,_⟩:=h;rfl
theorem zk0:OpM X (compareOp .Is) isND:=by
 rintro pins s σ H x y v u Q I rx ry ⟨dx,dy,st,io,d,st',Rx,Ry,S,e,k⟩
 cases dy with
 | non =>
   cases e;refine zmt pins s σ H x y v u Q I rx ry ⟨Ry,?_⟩;rw[zin Rx];exact k.now S rfl
 | _=>cases e
theorem zjh:OpM X (compareOp .IsNot) zm1:=by
 rintro pins s σ H x y v u Q I rx ry ⟨dx,dy,st,io,d,st',Rx,Ry,S,e,k⟩
 cases dy with
 | non =>
   cases e;refine zkY pins s σ H x y v u Q I rx ry ⟨Ry,?_⟩;rw[zin Rx];exact k.now S rfl
 | _=>cases e
noncomputable def negD:D->Sto->Option (D×Sto)
 | .int i,st=>some (.int (-i),st)
 | _,_=>none
noncomputable def mNeg(m:ME):ME:=fun ρ st=>(m ρ st).bind fun (x,s)=>negD x s
theorem zhu(ha:SE X a ma):SE X (.UnaryOp .USub a pos) (mNeg ma):=PE.imp (znq zlG ha) <| by
 rintro σ H Q ⟨ρ,st,io,d,st',E,S,e,k⟩;obtain⟨⟨x,s1⟩,e1,e⟩:=zad e
 cases x with
 | int i =>
   cases e;exact⟨ρ,st,io,.int i,_,E,S,e1,fun v H1 k1 X1 S1 R1=>⟨i,R1,k _ H1 k1 X1 S1 rfl⟩⟩
 | _=>cases e
noncomputable def idxD:G2
 | .tup ds,.int i,st=>(atI ds i).map fun d=>(d,st)
 | .ref n,.int i,st=>(zcd st n).bind fun ds=>(atI ds i).map fun d=>(d,st)
 | .kl ds,.int i,st=>(atI ds i).map fun d=>(d,st)
 | .str z,.int i,st=>if fits z.length=true then (atI z.cps.toList i).map fun c=>(.str ⟨#[c]⟩,st) else none
 | _,_,_=>none
theorem zg6{xs:List V}{ds:List D}{i:Int}{d:D}(r:Reps K H io xs ds)(h:atI ds i=some d):∃ v,atI xs i=some v/\Rep K H io v d:=by
 unfold atI at h ⊢;rw[r.length];obtain⟨j,hj,h⟩:=zad h;obtain⟨v,hv,rv⟩:=r.get h;exact⟨v,by rw[hj];exact hv,rv⟩
theorem ix_M:IxR X (r2M X.K idxD):=by
 rintro value slice pins s σ H x y v u Q I rx ry ⟨dx,dy,st,io,d,st',Rx,Ry,S,e,k⟩ hs
 cases dy with
 | int i =>
   cases dx with
   | tup ds =>
     obtain⟨d',e1,e⟩:=zah e;cases e;obtain⟨p,xs,ex,hp,r⟩:=Rx;obtain⟨w,hw,rw'⟩:=zg6 r e1;exact zcX value slice pins s σ H x y v u Q I rx ry ⟨p,xs,i,w,ex,Ry,SqT.of hp,hw,k.now S rw'⟩ hs
   | ref n =>
     obtain⟨ds,e0,e⟩:=zad e;obtain⟨d',e1,e⟩:=zah e;cases e;obtain⟨p,ex,hp⟩:=Rx;obtain⟨xs,hx,r⟩:=zbl S hp e0;obtain⟨w,hw,rw'⟩:=zg6 r e1;exact zix value slice pins s σ H x y v u Q I rx ry ⟨p,xs,i,w,ex,Ry,hx,hw,k.now S rw'⟩ hs
   | kl ds =>
     obtain⟨d',e1,e⟩:=zah e;cases e;obtain⟨p,xs,ex,hx,r⟩:=Rx;obtain⟨w,hw,rw'⟩:=zg6 r e1;exact zix value slice pins s σ H x y v u Q I rx ry ⟨p,xs,i,w,ex,Ry,hx.sq,hw,k.now S rw'⟩ hs
   | str z =>
     obtain⟨hf,e⟩:=zam e;obtain⟨d',e1,e⟩:=zah e;cases e;exact zjC value slice pins s σ H x y v u Q I rx ry ⟨z,i,d',Rx,Ry,of_decide_eq_true hf,e1,k.now S rfl⟩ hs
   | _=>cases e
 | _=>cases dx <;> cases e
theorem znk(ha:SE X a ma)(hb:SE X b mb)(hs:zhb b:=by intro _ _;rfl):SE X (.Subscript a b pos) (mBin idxD ma mb):=PE.imp (zns ix_M ha hb hs) fun _ _ _ h=>zdl h
noncomputable def lenD:GN
 | [.tup ds],st=>some (.int ds.length,st)
 | [.ref n],st=>(zcd st n).map fun ds=>(.int ds.length,st)
 | [.kl ds],st=>some (.int ds.length,st)
 | [.str z],st=>if fits z.length=true then some (.int z.length,st) else none
 | _,_=>none
theorem zau:zdN X (.builtin "len") lenD:=by
 rintro pins s σ H xs us Q I r ⟨ds,st,io,d,st',R,S,e,k⟩
 cases ds with
 | nil=>cases e
 | cons d0 r0 =>
 cases r0 with
 | cons d1 r1=>cases d0 <;> cases e
 | nil =>
 cases d0 with
 | tup ts =>
   cases e;obtain⟨v,rfl,p,ys,rfl,hp,r1⟩:=R.one;refine zco pins s σ H _ us Q I r ⟨p,ys,rfl,.inr (SqT.of hp),?_⟩;rw[r1.length];exact k.now S rfl
 | ref n =>
   obtain⟨ts,e0,e⟩:=zah e;cases e;obtain⟨v,rfl,p,rfl,hp⟩:=R.one;obtain⟨ys,hx,r1⟩:=zbl S hp e0;refine zco pins s σ H _ us Q I r ⟨p,ys,rfl,.inl hx,?_⟩;rw[r1.length];exact k.now S rfl
 | kl ts =>
   cases e;obtain⟨v,rfl,p,ys,rfl,hx,r1⟩:=R.one;refine zco pins s σ H _ us Q I r ⟨p,ys,rfl,.inl hx.sq,?_⟩;rw[r1.length];exact k.now S rfl
 | str z =>
   obtain⟨hf,e⟩:=zam e;cases e;obtain⟨v,rfl,rfl⟩:=R.one;exact zeZ pins s σ H _ us Q I r ⟨z,rfl,of_decide_eq_true hf,k.now S rfl⟩
 | _=>cases e
noncomputable def intC:GN
 | [.int i],st=>some (.int i,st)
 | [.bl b],st=>some (.int (if b then 1 else 0),st)
 | _,_=>none
noncomputable def absC:GN
 | [.int i],st=>some (.int (if i < 0 then -i else i),st)
 | _,_=>none
theorem zfq:zdN X (.builtin "abs") absC:=by
 rintro pins s σ H xs us Q I r ⟨ds,st,io,d,st',R,S,e,k⟩
 cases ds with
 | nil=>cases e
 | cons d0 r0 =>
 cases r0 with
 | cons d1 r1=>cases d0 <;> cases e
 | nil =>
 cases d0 with
 | int i =>
   cases e;obtain⟨v,rfl,rfl⟩:=R.one;exact zjV pins s σ H _ us Q I r ⟨i,rfl,k.now S rfl⟩
 | _=>cases e
noncomputable def zla:GN
 | [.tup ds],st=>if fits ds.length=true then some (.ref st.length,st++[.lst ds]) else none
 | [.ref n],st=>(zcd st n).bind fun ds=>if fits ds.length=true then some (.ref st.length,st++[.lst ds]) else none
 | [.kl ds],st=>if fits ds.length=true then some (.ref st.length,st++[.lst ds]) else none
 | _,_=>none
theorem zgZ:zdN X (.type "list") zla:=by
 rintro pins s σ H xs us Q I r ⟨ds,st,io,d,st',R,S,e,k⟩
 cases ds with
 | nil=>cases e
 | cons d0 r0 =>
 cases r0 with
 | cons d1 r1=>cases d0 <;> cases e
 | nil =>
 cases d0 with
 | tup ts =>
   obtain⟨hf,e⟩:=zam e;cases e;obtain⟨v,rfl,p,ys,rfl,hp,r1⟩:=R.one;exact zcn pins s σ H _ us Q I r ⟨p,ys,rfl,.inr (SqT.of hp),fun l hl=>k.lst S r1 hl⟩
 | ref n =>
   obtain⟨ts,e0,e⟩:=zad e;obtain⟨hf,e⟩:=zam e;cases e;obtain⟨v,rfl,p,rfl,hp⟩:=R.one;obtain⟨ys,hx,r1⟩:=zbl S hp e0;exact zcn pins s σ H _ us Q I r ⟨p,ys,rfl,.inl hx,fun l hl=>k.lst S r1 hl⟩
 | kl ts =>
   obtain⟨hf,e⟩:=zam e;cases e;obtain⟨v,rfl,p,ys,rfl,hx,r1⟩:=R.one;exact zcn pins s σ H _ us Q I r ⟨p,ys,rfl,.inl hx.sq,fun l hl=>k.lst S r1 hl⟩
 | _=>cases e
noncomputable def zec:GN
 | [.tup ds],st=>some (.tup ds,st)
 | [.ref n],st=>(zcd st n).map fun ds=>(.tup ds,st)
 | _,_=>none
theorem zcM:zdN X (.type "tuple") zec:=by
 rintro pins s σ H xs us Q I r ⟨ds,st,io,d,st',R,S,e,k⟩
 cases ds with
 | nil=>cases e
 | cons d0 r0 =>
 cases r0 with
 | cons d1 r1=>cases d0 <;> cases e
 | nil =>
 cases d0 with
 | tup ts =>
   cases e;obtain⟨v,rfl,p,ys,rfl,hp,r1⟩:=R.one;exact zcP pins s σ H _ us Q I r ⟨p,ys,rfl,.inr ⟨SqT.of hp,k.now S ⟨p,ys,rfl,hp,r1⟩⟩⟩
 | ref n =>
   obtain⟨ts,e0,e⟩:=zah e;cases e;obtain⟨v,rfl,p,rfl,hp⟩:=R.one;obtain⟨ys,hx,r1⟩:=zbl S hp e0;exact zcP pins s σ H _ us Q I r ⟨p,ys,rfl,.inl ⟨hx,fun l hl=>k.tup S r1 hl⟩⟩
 | _=>cases e
end
noncomputable def toPs(f:D->Option PyData):List D->Option (List PyData)
 | []=>some []
 | d::ds=>(f d).bind fun p=>(toPs f ds).map fun ps=>p::ps
noncomputable def toP:Nat->Sto->D->Option PyData
 | 0,_,_=>none
 | n+1,st,d=>match d with
   | .non=>some .none
   | .bl b=>some (.bool b)
   | .int i=>some (.int i)
   | .str x=>if BR x=true then some (.str x) else none
   | .tup ds=>(toPs (toP n st) ds).map .tuple
   | .ref k=>(zcd st k).bind fun ds=>(toPs (toP n st) ds).map .list
   | .kl _=>none
theorem zcK{n:Nat}:∀ {ps:List PyData},(∀ p∈ps,p.depth<=n)->Dn ps<=n
 | [],_=>by rw[Dn];exact A8 _
 | p::ps,h=>by
   rw[Dn];exact Nat.max_le.mpr ⟨h p Au,zcK fun q hq=>h q (Am _ hq)⟩
theorem zdz{ps:List PyData}:(∀ p∈ps,p.canLay0=true)->BN ps=true:=by
 induction ps with
 | nil=>intro _;simp only[BN]
 | cons p ps ih =>
   intro h;simp only[BN];rw[h p Au,ih fun q hq=>h q (Am _ hq)];rfl
theorem zeG{f:D->Option PyData}:∀ {ds:List D} {ps:List PyData},toPs f ds=some ps->∀ p∈ps,∃ d,f d=some p
 | [],ps,h,p,hp=>by cases h;exact absurd hp (by simp)
 | d::ds,ps,h,p,hp=>by
   obtain⟨q,e1,h⟩:=zad h;obtain⟨qs,e2,h⟩:=zah h;subst h
   rcases List.mem_cons.mp hp with rfl | hp
   . exact⟨d,e1⟩
   . exact zeG e2 p hp
theorem zdC:∀ {n:Nat} {st:Sto} {d:D} {p:PyData},toP n st d=some p->p.canLay0=true/\p.depth<=n
 | 0,_,_,_,h=>by cases h
 | n+1,st,d,p,h=>by
   cases d with
   | non=>cases h;exact⟨by simp only[Br],by simp only[B8];exact A8 _⟩
   | bl b=>cases h;exact⟨by simp only[Br],by simp only[B8];exact A8 _⟩
   | int b=>cases h;exact⟨by simp only[Br],by simp only[B8];exact A8 _⟩
   | str b =>
     obtain⟨hs,h⟩:=zam h
     cases h;exact⟨by simp only[Br];exact hs,by simp only[B8];exact A8 _⟩
   | tup ds =>
     obtain⟨ps,e,h⟩:=zah h;subst h;have q:∀ p∈ps,p.canLay0=true/\p.depth<=n:=fun p hp=>let ⟨d,hd⟩:=zeG e p hp;zdC hd
     exact⟨by simp only[Br];exact zdz fun p hp=>(q p hp).1,by simp only[B8];exact BU (zcK fun p hp=>(q p hp).2)⟩
   | kl ds=>cases h
   | ref k =>
     obtain⟨ds,e0,h⟩:=zad h;obtain⟨ps,e,h⟩:=zah h;subst h;have q:∀ p∈ps,p.canLay0=true/\p.depth<=n:=fun p hp=>let ⟨d,hd⟩:=zeG e p hp;zdC hd
     exact⟨by simp only[Br];exact zdz fun p hp=>(q p hp).1,by simp only[B8];exact BU (zcK fun p hp=>(q p hp).2)⟩
section
variable {X:Cx} {a b:Expr} {pos:Pos} {ma mb:ME} {pins:List (Addr×Obj)} {σ:L2.St} {H:Hp} {s:Shared} {io:List Addr} {st:Sto}
theorem zcF{f:D->Option PyData}(hf:∀ {v:V} {u:Value} {d:D} {p:PyData},Rep X.K H io v d->RelV v u->f d=some p->∃ as,Reads s.heap u p as) :
   ∀ {xs:List V} {us:List Value} {ds:List D} {ps:List PyData},Reps X.K H io xs ds->Vals xs us->toPs f ds=some ps->∃ as,ReadsAll s.heap us ps as
 | _,_,[],ps,h,r,e=>by
   cases (show _=[] from h)
   cases r;cases e;exact⟨_,.nil⟩
 | _,_,d::ds,ps,h,r,e=>by
   obtain⟨y,ys,rfl,h1,h2⟩:=h
   cases r with
   | cons r1 r2 =>
     obtain⟨q,e1,e⟩:=zad e;obtain⟨qs,e2,e⟩:=zah e;subst e;obtain⟨as,ra⟩:=hf h1 r1 e1;obtain⟨bs,rb⟩:=zcF hf h2 r2 e2;exact⟨_,.cons ra rb⟩
theorem zbX(I:Inv X pins σ H s)(S:StR X.K H io st):∀ {n:Nat} {v:V} {u:Value} {d:D} {p:PyData},Rep X.K H io v d->RelV v u->toP n st d=some p->∃ as,Reads s.heap u p as
 | 0,_,_,_,_,_,_,h=>by cases h
 | n+1,v,u,d,p,h,r,e=>by
   cases d with
   | non=>cases e;cases (show v=.non from h);cases r;exact⟨_,.none⟩
   | bl b=>cases e;cases (show v=.bl b from h);cases r;exact⟨_,.bool _⟩
   | int b=>cases e;cases (show v=.int b from h);obtain⟨t,rfl⟩:=r;exact⟨_,.int _ _⟩
   | str b =>
     obtain⟨hs,e⟩:=zam e
     cases e;cases (show v=.str b from h);obtain⟨t,rfl⟩:=r;exact⟨_,.str _ _⟩
   | tup ds =>
     obtain⟨ps,e',q⟩:=zah e;subst q;obtain⟨a,xs,rfl,ha,rs⟩:=h;cases r;obtain⟨its,rv,⟨o,ho,hc,k,hd⟩,hz⟩:=I.tuple (SqT.of ha);obtain⟨as,ra⟩:=zcF (f:=toP n st) (fun h r e=>zbX I S h r e) rs rv e';exact⟨_,.tuple ho hc hd (by simpa using ra)⟩
   | kl ds=>cases e
   | ref k =>
     obtain⟨ds,e0,e⟩:=zad e;obtain⟨ps,e',q⟩:=zah e;subst q;obtain⟨a,rfl,ha⟩:=h;cases r;obtain⟨xs,hx,rs⟩:=zbl S ha e0;obtain⟨its,rv,⟨o,k,ho,hc,_,hd⟩,hz⟩:=I.list hx;obtain⟨as,ra⟩:=zcF (f:=toP n st) (fun h r e=>zbX I S h r e) rs rv e';exact⟨_,.list ho hc hd (by simpa using ra)⟩
noncomputable def eqD:G2:=fun x y st=>(toP 100 st x).bind fun p=>(toP 100 st y).map fun q=>(.bl (C6 p q),st)
noncomputable def neD:G2:=fun x y st=>(toP 100 st x).bind fun p=>(toP 100 st y).map fun q=>(.bl !PyData.eqv p q,st)
theorem zdF(hu:X.A.units+100 < cLine):OpM X (compareOp .Eq) eqD:=by
 rintro pins s σ H x y v u Q I rx ry ⟨dx,dy,st,io,d,st',Rx,Ry,S,e,k⟩;obtain⟨p,e1,e⟩:=zad e;obtain⟨q,e2,e⟩:=zah e;cases e;obtain⟨as,ra⟩:=zbX I S Rx rx e1;obtain⟨bs,rb⟩:=zbX I S Ry ry e2;have h1:=zdC e1;have h2:=zdC e2;exact PySem.SeqAt.compareEq_reads ra rb h1.1 h2.1 (B7 (CD (AD (Ei _ _) h1.2) _) hu) ⟨.bl _,H,I,rfl,k.now S rfl⟩
theorem zel(hu:X.A.units+100 < cLine):OpM X (compareOp .NotEq) neD:=by
 rintro pins s σ H x y v u Q I rx ry ⟨dx,dy,st,io,d,st',Rx,Ry,S,e,k⟩;obtain⟨p,e1,e⟩:=zad e;obtain⟨q,e2,e⟩:=zah e;cases e;obtain⟨as,ra⟩:=zbX I S Rx rx e1;obtain⟨bs,rb⟩:=zbX I S Ry ry e2;have h1:=zdC e1;have h2:=zdC e2;exact PySem.SeqAt.compareNe_reads ra rb h1.1 h2.1 (B7 (CD (AD (Ei _ _) h1.2) _) hu) ⟨.bl _,H,I,rfl,k.now S rfl⟩
theorem zbe{k:Nat}{A:Around}(hr:Room k A):A.units+100 < cLine:=by have:=hr.un;omega
end
section
variable {X:Cx} {pins:List (Addr×Obj)} {σ:L2.St} {H:Hp} {s:Shared} {h':Heap}
theorem Inv.turnNew{t':Nat}{fp:List Addr}{p:Addr}{o:HO}(I:Inv X pins σ H s)(hf:∀ b∈fp,FpOk X pins H b)(k:∀ b ob,b ∉ fp->s.heap.get? b=some ob->h'.get? b=some ob)(hp:s.heap.objs.size<=p)
   (hfp:∀ b∈fp,∀ ob,s.heap.get? b=some ob->∃ ob',h'.get? b=some ob') (new:zde X.prog X.w (upd H p o) h' p o):Inv X pins σ (upd H p o) { s with heap:=h',toks:=t' }:=by
 have hpn:=I.hok.fresh hp;have nlt:∀ b ob,s.heap.get? b=some ob->b≠p:=fun b ob e=>AC (Ao (Aj e) hp);refine Inv.step (ch:=fp) (g':=s.gens) (d':=s.drawn) I (fun b hb=>⟨(hf b hb).2.2.2.1,(hf b hb).2.1,(hf b hb).2.2.2.2.1,(hf b hb).2.2.2.2.2⟩) (fun b ob _ _ hc e _=>k b ob hc e) (fun b ob _ _ hc e _=>⟨ob.slots,k b ob hc e⟩)
   (fun b ob hc e n=>by rw[zaW (nlt b ob e)];exact n) (fun b ob hc e=>⟨ob,k b ob hc e⟩) (fun b xs e=>by rw[zaW (zax e hpn)];exact e) (fun b ob u e=>by rw[zaW (zax e hpn)];exact e)
   (fun b ps e=>⟨#[],by rw[zaW (zax e hpn),e];simp⟩) (fun m hm=>?_) (fun b u e=>?_) I.bare
 . obtain⟨ob,es,ep,ho,r⟩:=hm;exact⟨ob,es,ep,k _ ob (fun z=>(hf _ z).2.1 rfl) ho,r⟩
 . by_cases hb:b=p
   . subst hb;rw[zbU] at e;cases e;exact new
   . rw[zaW hb] at e;refine (I.hok b u e).stay (fun c v hc q=>k c v (fun z=>?_) q) (fun c q=>by rw[zaW (zax q hpn)];exact q) fun c xs q=>by rw[zaW (zax q hpn)];exact q
     have hz:=(hf c z).1
     rcases hc with rfl | hc
     . rw[hz] at e;cases e
     . rw[hz] at hc;cases hc
theorem Inv.turnAll{t':Nat}{fp:List Addr}(I:Inv X pins σ H s)(hf:∀ b∈fp,FpOk X pins H b)(k:∀ b ob,b ∉ fp->s.heap.get? b=some ob->h'.get? b=some ob):Inv X pins σ H { s with heap:=h',toks:=t' }:=by
 refine Inv.step (ch:=fp) (g':=s.gens) (d':=s.drawn) I (fun b hb=>⟨(hf b hb).2.2.2.1,(hf b hb).2.1,(hf b hb).2.2.2.2.1,(hf b hb).2.2.2.2.2⟩) (fun b ob _ _ hc e _=>k b ob hc e) (fun b ob _ _ hc e _=>⟨ob.slots,k b ob hc e⟩)
   (fun b ob hc e n=>n) (fun b ob hc e=>⟨ob,k b ob hc e⟩) (fun b xs e=>e) (fun b ob u e=>e)
   (fun b ps e=>⟨#[],by rw[e];simp⟩) (fun m hm=>?_) (fun b u e=>?_) I.bare
 . obtain⟨ob,es,ep,ho,r⟩:=hm;exact⟨ob,es,ep,k _ ob (fun z=>(hf _ z).2.1 rfl) ho,r⟩
 . refine (I.hok b u e).stay (fun c v hc q=>k c v (fun z=>?_) q) (fun c q=>q) fun c xs q=>q;have hz:=(hf c z).1
   rcases hc with rfl | hc
   . rw[hz] at e;cases e
   . rw[hz] at hc;cases hc
end
section
variable {X:Cx} {m:ME}
theorem boot_enumerate:bootBuiltins "enumerate"=some (.type "enumerate"):=by decide +kernel
noncomputable def pairs(ds:List D):List D:=(ds.zipIdx).map fun (d,k)=>.tup [.int (k:Nat),d]
theorem zfb{ds:List D}{i:Nat}{d:D}(h:(pairs ds)[i]?=some d):∃ e,ds[i]?=some e/\d=.tup [.int (i:Nat),e]:=by
 unfold pairs at h;rw[AE,List.getElem?_zipIdx] at h
 cases e:ds[i]? with
 | none=>rw[e] at h;cases h
 | some x =>
   rw[e] at h;simp at h;exact⟨x,rfl,h.symm⟩
theorem pairs_len(ds:List D):(pairs ds).length=ds.length:=by unfold pairs;simp
end
section
variable {κ:Type} [DecidableEq κ] {K:Ab} {H:Hp} {io:List Addr}
noncomputable def valD(kvs:List (κ×D))(k:κ):Option D:=(kvs.find? fun kv=>decide (kv.1=k)).map (·.2)
noncomputable def putD(kvs:List (κ×D))(k:κ)(d:D):List (κ×D) :=
 if (kvs.any fun kv=>decide (kv.1=k))=true then kvs.map (fun kv=>if kv.1=k then (kv.1,d) else kv) else kvs++[(k,d)]
theorem KR.any{ps:List (κ×V)}{kvs:List (κ×D)}(r:KR κ K H io ps kvs)(k:κ):(ps.any fun kv=>decide (kv.1=k))=(kvs.any fun kv=>decide (kv.1=k)):=by
 induction r with
 | nil=>rfl
 | cons z t ih=>rw[Cm,Cm,ih,z.1]
theorem KR.length{ps:List (κ×V)}{kvs:List (κ×D)}(r:KR κ K H io ps kvs):ps.length=kvs.length:=BV r
theorem KR.val{ps:List (κ×V)}{kvs:List (κ×D)}(r:KR κ K H io ps kvs)(k:κ):(valD kvs k=none/\valV ps k=none)\/∃ d v,valD kvs k=some d/\valV ps k=some v/\Rep K H io v d:=by
 induction r with
 | nil=>exact .inl ⟨rfl,rfl⟩
 | @cons p q l1 l2 z t ih =>
   unfold valD valV at *;rw[Bg,Bg,z.1]
   by_cases e:q.1=k
   . rw[decide_eq_true e];exact .inr ⟨q.2,p.2,rfl,rfl,z.2⟩
   . rw[decide_eq_false e];exact ih
theorem KR.append{ps qs:List (κ×V)}{kvs lvs:List (κ×D)}(r:KR κ K H io ps kvs)(r':KR κ K H io qs lvs):KR κ K H io (ps++qs) (kvs++lvs):=by
 induction r with
 | nil=>exact r'
 | cons z t ih=>exact .cons z ih
theorem KR.put{ps:List (κ×V)}{kvs:List (κ×D)}(r:KR κ K H io ps kvs)(k:κ){v:V}{d:D}(rv:Rep K H io v d):KR κ K H io (putK ps k v) (putD kvs k d):=by
 unfold putK putD;rw[KR.any r k]
 by_cases e:(kvs.any fun kv=>decide (kv.1=k))=true
 . rw[if_pos e,if_pos e]
   induction r with
   | nil=>exact .nil
   | @cons p q l1 l2 z t ih =>
     rw[Az,Az];have hrest:KR κ K H io (l1.map fun kv=>if kv.1=k then (kv.1,v) else kv) (l2.map fun kv=>if kv.1=k then (kv.1,d) else kv):=by
       clear ih e
       induction t with
       | nil=>exact .nil
       | @cons p q l1 l2 z t ih =>
         rw[Az,Az];refine .cons ?_ ih;rw[z.1]
         by_cases e:q.1=k
         . rw[if_pos e,if_pos e];exact⟨rfl,rv⟩
         . rw[if_neg e,if_neg e];exact z
     refine .cons ?_ hrest;rw[z.1]
     by_cases e:q.1=k
     . rw[if_pos e,if_pos e];exact⟨rfl,rv⟩
     . rw[if_neg e,if_neg e];exact z
 . rw[if_neg e,if_neg e];exact KR.append r (.cons ⟨rfl,rv⟩ .nil)
end
noncomputable def keyOf:D->Option Key
 | .int i=>some (.inl i)
 | .str x=>some (.inr x)
 | _=>none
noncomputable def keysOf:List D->Option (List Key)
 | []=>some []
 | d::ds=>(keyOf d).bind fun k=>(keysOf ds).map fun ks=>k::ks
section
variable {X:Cx} {K:Ab} {H:Hp} {io:List Addr} {st st':Sto} {a b e:Expr} {es:List Expr} {ma mb m:ME} {mm:MA} {pos:Pos}
theorem zd3{v:V}{d:D}{k:Key}(h:Rep K H io v d)(e:keyOf d=some k):v=kV k:=by
 cases d with
 | int i=>cases e;exact h
 | str i=>cases e;exact h
 | _=>cases e
theorem zdt:∀ {xs:List V} {ds:List D} {ks:List Key},Reps K H io xs ds->keysOf ds=some ks->xs=ks.map kV
 | _,[],ks,h,e=>by cases e;exact h
 | _,d::ds,ks,h,e=>by
   obtain⟨y,ys,rfl,h1,h2⟩:=h;obtain⟨k,e1,e⟩:=zad e;obtain⟨ks',e2,e⟩:=zah e;subst e;rw[zd3 h1 e1,zdt h2 e2];rfl
noncomputable def look(st:Sto)(n:Nat)(k:D):Option (Option D):=match st[n]? with
 | some (.dk kvs)=>(keyOf k).map fun q=>valD kvs q
 | some (.dt kvs)=>match k with
   | .tup ds=>(keysOf ds).map fun q=>valD kvs q
   | _=>none
 | _=>none
theorem zgF{n:Nat}{p:Addr}{k:D}{y:V}{r:Option D}(S:StR K H io st)(hp:io[n]?=some p)(ry:Rep K H io y k)(h:look st n k=some r):∃ o,DGet H p y o/\((r=none/\o=none)\/∃ d v,r=some d/\o=some v/\Rep K H io v d):=by
 unfold look at h
 split at h
 . rename_i kvs e;obtain⟨q,e1,h⟩:=zah h;subst h;obtain⟨ps,hH,r⟩:=S.ob n p _ hp e;have ey:=zd3 ry e1;subst ey;refine⟨_,DGet.k hH,?_⟩
   rcases KR.val r q with ⟨h1,h2⟩ | ⟨d,v,h1,h2,h3⟩
   . exact .inl ⟨h1,h2⟩
   . exact .inr ⟨d,v,h1,h2,h3⟩
 . rename_i kvs e
   split at h
   . rename_i ds;obtain⟨q,e1,h⟩:=zah h;subst h;obtain⟨ps,hH,r⟩:=S.ob n p _ hp e;obtain⟨b,xs,rfl,hb,rs⟩:=ry;have ex:=zdt rs e1;subst ex;refine⟨_,DGet.t hH hb,?_⟩
     rcases KR.val r q with ⟨h1,h2⟩ | ⟨d,v,h1,h2,h3⟩
     . exact .inl ⟨h1,h2⟩
     . exact .inr ⟨d,v,h1,h2,h3⟩
   . cases h
 . cases h
noncomputable def zm3(md mk:ME):ME:=fun ρ st=>(md ρ st).bind fun (d,s1)=>(mk ρ s1).bind fun (k,s2)=>match d with
 | .ref n=>(look s2 n k).bind fun r=>r.map fun v=>(v,s2)
 | _=>none
theorem zkE{o i:Expr}{md mk:ME}(hu:X.A.units+1 < cLine)(ho:SE X o md)(hi:SE X i mk)(hs:NoSl i:=by intro _ _;rfl):SE X (.Subscript o i pos) (zm3 md mk):=PE.imp (zkT hu ho hi hs) <| by
 rintro σ H Q ⟨ρ,st,io,d,st',E,S,e,k⟩;obtain⟨⟨x,s1⟩,e1,e⟩:=zad e;obtain⟨⟨y,s2⟩,e2,e⟩:=zad e
 cases x with
 | ref n =>
   obtain⟨r,e3,e⟩:=zad e;obtain⟨w,e4,e⟩:=zah e;cases e;subst e4;refine⟨ρ,st,io,_,s1,E,S,e1,fun v1 H1 k1 X1 S1 R1=>⟨ρ,s1,io++k1,y,_,E.ext S X1,S1,e2,fun v2 H2 k2 X2 S2 R2=>?_⟩⟩;obtain⟨p,rfl,hp⟩:=R1;obtain⟨o,g,⟨z,_⟩ | ⟨d',v,hd,hv,rv⟩⟩:=zgF S2 (zbM hp) R2 e3
   . cases z
   . cases hd;subst hv;exact⟨p,v,rfl,g,((k.on S1 X1).on S2 X2).now S2 rv⟩
 | _=>cases e
noncomputable def mDIn(neg:Bool)(mk md:ME):ME:=fun ρ st=>(mk ρ st).bind fun (k,s1)=>(md ρ s1).bind fun (d,s2)=>match d with
 | .ref n=>(look s2 n k).map fun r=>(.bl (if neg then !r.isSome else r.isSome),s2)
 | _=>none
theorem zfm{neg:Bool}{mk md:ME}{σ:L2.St}{Q:VK}(h:tE K (mDIn neg mk md) σ H Q):tE K mk σ H fun y H1=>tE K md σ H1 fun x H2=>∃ a o,x=.ref a/\DGet H2 a y o/\Q (.bl (if neg then !o.isSome else o.isSome)) H2:=by
 obtain⟨ρ,st,io,d,st',E,S,e,k⟩:=h;obtain⟨⟨y,s1⟩,e1,e⟩:=zad e;obtain⟨⟨x,s2⟩,e2,e⟩:=zad e
 cases x with
 | ref n =>
   obtain⟨r,e3,e⟩:=zah e;cases e;refine⟨ρ,st,io,y,s1,E,S,e1,fun v1 H1 k1 X1 S1 R1=>⟨ρ,s1,io++k1,_,_,E.ext S X1,S1,e2,fun v2 H2 k2 X2 S2 R2=>?_⟩⟩;obtain⟨p,rfl,hp⟩:=R2;obtain⟨o,g,z⟩:=zgF S2 hp (R1.ext S1 X2) e3;have:o.isSome=r.isSome:=by
     rcases z with ⟨a,b⟩ | ⟨d',v,a,b,_⟩
     . rw[a,b];rfl
     . rw[a,b];rfl
   exact⟨p,o,rfl,g,by rw[this];exact ((k.on S1 X1).on S2 X2).now S2 rfl⟩
 | _=>cases e
theorem zlW{o i:Expr}{md mk:ME}(hu:X.A.units+1 < cLine)(hi:SE X i mk)(ho:SE X o md)(hm:behindInMarks .In o=false:=by rfl):SE X (.Compare i [.In] [o] pos) (mDIn false mk md):=PE.imp (zmm (zmo hu hi ho) hm) fun σ H Q h=>zfm h
end
section
variable {X:Cx} {K:Ab} {H:Hp} {io:List Addr} {st st':Sto} {a b c e:Expr} {es:List Expr} {ma mb mc m:ME} {mm:MA} {pos:Pos}
theorem zhz{o i:Expr}{md mk:ME}(hu:X.A.units+1 < cLine)(hi:SE X i mk)(ho:SE X o md)(hm:behindInMarks .NotIn o=false:=by rfl):SB X (.Compare i [.NotIn] [o] pos) (mTst (mDIn true mk md)) :=
 PT.imp (zl5 (zhD hu hi ho) hm) fun σ H Q h=>zfm (zdg h)
noncomputable def dput(st:Sto)(n:Nat)(k d:D):Option Sto:=match st[n]? with
 | some (.dk kvs)=>(keyOf k).bind fun q=>if decide (kvs.length < sizeLine)=true then some (st.set n (.dk (putD kvs q d))) else none
 | some (.dt kvs)=>match k with
   | .tup ds=>(keysOf ds).bind fun q=>if decide (kvs.length < sizeLine)=true then some (st.set n (.dt (putD kvs q d))) else none
   | _=>none
 | _=>none
theorem zjM{n:Nat}{p:Addr}{k d:D}{y v:V}(S:StR K H io st)(hp:io[n]?=some p)(ry:Rep K H io y k)(rv:Rep K H io v d)(h:dput st n k d=some st'):∃ H',DPut H p y v H'/\Ext io [] H H'/\StR K H' (io++[]) st':=by
 unfold dput at h
 split at h
 . rename_i kvs e;obtain⟨q,e1,h⟩:=zad h;obtain⟨hl,h⟩:=zam h;cases h;obtain⟨ps,hH,r⟩:=S.ob n p _ hp e;have ey:=zd3 ry e1;subst ey;have:=KR.length r;refine⟨_,DPut.k hH (by rw[this];exact of_decide_eq_true hl),?_⟩;exact zgg S hp e (fun o u z=>by rw[hH] at z;cases z) fun H' T e'=>⟨_,e',KR.put (KR.mono T r) q (Rep.mono T rv)⟩
 . rename_i kvs e
   split at h
   . rename_i ds;obtain⟨q,e1,h⟩:=zad h;obtain⟨hl,h⟩:=zam h;cases h;obtain⟨ps,hH,r⟩:=S.ob n p _ hp e;obtain⟨b,xs,rfl,hb,rs⟩:=ry;have ex:=zdt rs e1;subst ex;have:=KR.length r;refine⟨_,DPut.t hH hb (by rw[this];exact of_decide_eq_true hl),?_⟩;exact zgg S hp e (fun o u z=>by rw[hH] at z;cases z) fun H' T e'=>⟨_,e',KR.put (KR.mono T r) q (Rep.mono T rv)⟩
   . cases h
 . cases h
noncomputable def zmD(md mk mv:ME):MS:=fun ρ st=>(mv ρ st).bind fun (v,s1)=>(md ρ s1).bind fun (d,s2)=>(mk ρ s2).bind fun (k,s3)=>match d with
 | .ref n=>(dput s3 n k v).map fun s4=>(.nx ρ,s4)
 | _=>none
theorem zkn{o i value:Expr}{md mk mv:ME}{pos':Pos}(hu:X.A.units+1 < cLine)(ho:SE X o md)(hi:SE X i mk)(hv:SE X value mv)(hs:swapsWith value (some (.Subscript o i pos')) pos.line X.env=pure false:=by rfl) :
   SS X (.Assign [.Subscript o i pos'] value pos) (zmD md mk mv):=PS.imp (zkM hu ho hi hv hs) fun N σ H h=>by
 obtain⟨ρ,st,io,f,st',E,S,e,w⟩:=zcU.mp h;obtain⟨⟨v,s1⟩,e1,e⟩:=zad e;obtain⟨⟨d,s2⟩,e2,e⟩:=zad e;obtain⟨⟨k,s3⟩,e3,e⟩:=zad e
 cases d with
 | ref n =>
   obtain⟨s4,e4,e⟩:=zah e;cases e;refine⟨ρ,st,io,v,s1,E,S,e1,fun v1 H1 k1 X1 S1 R1=>⟨ρ,s1,io++k1,_,s2,E.ext S X1,S1,e2,fun v2 H2 k2 X2 S2 R2=>⟨ρ,s2,(io++k1)++k2,k,s3,(E.ext S X1).ext S1 X2,S2,e3,fun v3 H3 k3 X3 S3 R3=>?_⟩⟩⟩;obtain⟨p,rfl,hp⟩:=R2;obtain⟨H4,g,X4,S4⟩:=zjM S3 (zbM hp) R3 ((R1.ext S1 X2).ext S2 X3) e4;refine⟨p,H4,rfl,g,?_⟩;have w3:∀ σ' H' kb,Ext (((io++k1)++k2)++k3) kb H3 H'->_:=zeo (zeo (zeo w X1 S1) X2 S2) X3 S3;exact w3 σ H4 [] X4 S4 ((((E.ext S X1).ext S1 X2).ext S2 X3).ext S3 X4)
 | _=>cases e
noncomputable def zj8(t:Bool):ME:=fun _ st=>some (.ref st.length,st++[if t then .dt [] else .dk []])
theorem zi3:SE X (.Dict [] [] pos) (zj8 false):=PE.imp zje <| by
 rintro σ H Q ⟨ρ,st,io,d,st',E,S,e,k⟩;cases e;intro p hp;obtain⟨E',S'⟩:=zjq (o:=.dK []) (ob:=.dk []) S hp fun H' T e=>⟨[],e,.nil⟩
 exact k _ _ [p] E' S' ⟨p,rfl,by rw[<-S.len];exact getElem?_len io p⟩
inductive mtM (K:Ab) (g:D->List D->Sto->Option (D×Sto)) (x:V) (xs:List V) (H:Hp) (Q:VK):Prop
 | mk (dx:D) (ds:List D) (st:Sto) (io:List Addr) (d:D) (st':Sto) (h0:Rep K H io x dx) (h1:Reps K H io xs ds) (h2:StR K H io st) (h3:g dx ds st=some (d,st')) (h4:Bh K io H st' d Q)
noncomputable def zcQ:D->List D->Sto->Option (D×Sto):=fun x xs st=>match x,xs with
 | .ref n,[d]=>match st[n]? with
   | some (.lst ds)=>if decide (ds.length < sizeLine)=true then some (.non,st.set n (.lst (ds++[d]))) else none
   | _=>none
 | _,_=>none
theorem append_in{n:Nat}{d:D}{ds:List D}{xs:List D}(h:zcQ (.ref n) xs st=some (d,st')):∃ ds x,st[n]?=some (.lst ds)/\xs=[x]/\ds.length < sizeLine/\d=.non/\st'=st.set n (.lst (ds++[x])):=by
 unfold zcQ at h
 match xs,h with
 | [x],h =>
   dsimp only at h
   split at h
   . rename_i ds e;obtain⟨hl,h⟩:=zam h;cases h;exact⟨ds,x,e,rfl,of_decide_eq_true hl,rfl,rfl⟩
   . cases h
 | [],h=>cases h
 | _::_::_,h=>cases h
theorem zgz:MtR X "list.append" (mtM X.K zcQ):=by
 rintro pins s σ H x xs v us Q I rx rs ⟨dx,ds,st,io,d,st',Rx,Rs,S,e,k⟩
 cases dx with
 | ref n =>
   obtain⟨l,y,e1,rfl,hl,rfl,rfl⟩:=append_in (ds:=[]) e;obtain⟨p,rfl,hp⟩:=Rx;obtain⟨w,rfl,Rw⟩:=Rs.one;obtain⟨ys,hH,r⟩:=S.ob n p _ hp e1;refine zfg pins s σ H _ _ v us Q I rx rs ⟨p,ys,w,rfl,rfl,hH,by rw[r.length];exact hl,?_⟩;obtain⟨E',S'⟩:=zgg (o:=.lst (ys++[w])) (ob:=.lst (l++[y])) S hp e1 (fun o u z=>by rw[hH] at z;cases z) fun H' T e'=>⟨_,e',(Reps.mono T r).append (Reps.cons (Rep.mono T Rw) Reps.nil)⟩
   exact k _ _ [] E' S' rfl
 | _=>unfold zcQ at e;cases ds <;> cases e
theorem zfZ{n:Nat}{v:V}{l:List D}(R:Rep K H io v (.ref n))(S:StR K H io st)(h:zcd st n=some l):tyV K "list" v H:=by
 obtain⟨p,rfl,hp⟩:=R;obtain⟨xs,hx,_⟩:=zbl S hp h;exact .inl ⟨rfl,xs,hx⟩
noncomputable def mApp(m:ME)(mm:MA):ME:=fun ρ st=>(m ρ st).bind fun (x,s1)=>match x with
 | .ref n=>(zcd s1 n).bind fun _=>(mm ρ s1).bind fun (xs,s2)=>zcQ x xs s2
 | _=>none
theorem zhv{o:Expr}{apos cpos:Pos}(ho:SE X o m)(ha:SA X (e::es) mm)
   (hbase:attributeBase o "append" X.env (eval o X.env)=eval o X.env:=by rfl)
   (hfew:((backTo cpos (starEach (e::es) X.env)).all (fun x=>!x.1)&&(backToKw cpos (keywordEach [] X.env)).all (fun x=>x.1.isSome)
    &&decide ((e::es).length+([]:List Keyword).length+(if ([]:List Keyword).isEmpty then 0 else 1) < 30))=true:=by rfl)
   (hline:(apos.endLine==cpos.line)=true:=by rfl) (hs:starEach (e::es) X.env=(false,eval e X.env)::starEach es X.env:=by rfl) (hplain:(backTo cpos (starEach es X.env)).any (·.1)=false:=by rfl) :
   SE X (.Call (.Attribute o "append" apos) (e::es) [] cpos) (mApp m mm) :=
 PE.imp (zlv Di PySem.F.slot_list_append PySem.F.type_list_append zgz ho ha hbase hfew hline hs hplain) <| by
   rintro σ H Q ⟨ρ,st,io,d,st',E,S,e,k⟩;obtain⟨⟨x,s1⟩,e1,e⟩:=zad e
   cases x with
   | ref n =>
     obtain⟨l,e0,e⟩:=zad e;obtain⟨⟨xs,s2⟩,e2,e⟩:=zad e;refine⟨ρ,st,io,_,s1,E,S,e1,fun v1 H1 k1 X1 S1 R1=>⟨zfZ R1 S1 e0,ρ,s1,io++k1,xs,s2,E.ext S X1,S1,e2,fun vs H2 k2 X2 S2 R2=>?_⟩⟩;exact⟨_,xs,s2,(io++k1)++k2,d,st',R1.ext S1 X2,R2,S2,e,(k.on S1 X1).on S2 X2⟩
   | _=>cases e
noncomputable abbrev MO:=Rho->Sto->Option (Option Int×Sto)
inductive tOm (K:Ab) (m:MO) (σ:L2.St) (H:Hp) (Q:Option Int->Hp->Prop):Prop
 | mk (ρ:Rho) (st:Sto) (io:List Addr) (d:Option Int) (st':Sto) (h1:EnvR K H io σ ρ) (h2:StR K H io st) (h3:m ρ st=some (d,st')) (h4:∀ H' ka,Ext io ka H H'->StR K H' (io++ka) st'->Q d H')
def SO(X:Cx)(e:Option Expr)(m:MO):Prop:=PO X e (tOm X.K m)
noncomputable def zcw:MO:=fun _ st=>some (none,st)
noncomputable def zcv(m:ME):MO:=fun ρ st=>(m ρ st).bind fun (d,s)=>match d with
 | .int i=>some (some i,s)
 | _=>none
theorem zb6:SO X none zcw:=fun pins s σ H Q I ⟨ρ,st,io,d,st',E,S,e,k⟩=>zkN pins s σ H Q I (by cases e;exact k H [] Ext.refl S.nil)
theorem zb5(h:SE X e m):SO X (some e) (zcv m):=fun pins s σ H Q I ⟨ρ,st,io,d,st',E,S,e,k⟩=>zio h pins s σ H Q I (by
 obtain⟨⟨x,s1⟩,e1,e⟩:=zad e
 cases x with
 | int i =>
   cases e;exact⟨ρ,st,io,_,_,E,S,e1,fun v1 H1 k1 X1 S1 R1=>⟨i,R1,k H1 k1 X1 S1⟩⟩
 | _=>cases e)
noncomputable def cutD(xs:List D)(lo hi:Option Int):List D:=(xs.drop (HT.sIx xs.length 0 lo)).take (HT.sIx xs.length xs.length hi - HT.sIx xs.length 0 lo)
theorem zgU{xs:List V}{ds:List D}(r:Reps K H io xs ds)(lo hi:Option Int):Reps K H io (cutV xs lo hi) (cutD ds lo hi):=by
 unfold cutV cutD;rw[r.length];exact (r.drop _).take _
noncomputable def slD:D->Option Int->Option Int->Sto->Option (D×Sto):=fun x lo hi st=>match x with
 | .tup ds=>if (decide (HT.sIx ds.length 0 lo=0)&&decide (HT.sIx ds.length ds.length hi=ds.length))=true then none else some (.tup (cutD ds lo hi),st)
 | .ref n=>(zcd st n).map fun ds=>(.ref st.length,st++[.lst (cutD ds lo hi)])
 | _=>none
noncomputable def mSl(m:ME)(l h:MO):ME:=fun ρ st=>(m ρ st).bind fun (x,s1)=>(l ρ s1).bind fun (lo,s2)=>(h ρ s2).bind fun (hi,s3)=>slD x lo hi s3
noncomputable def rSlM(K:Ab):V->Option Int->Option Int->Hp->VK->Prop:=fun x lo hi H Q=>rSlT K x lo hi H Q\/rSlL K x lo hi H Q
theorem sl_M:SlR X (rSlM X.K):=by
 intro pins s σ H x v vl vu lo hi sl Q I rx hs pl pu h
 rcases h with h | h
 . exact zlO pins s σ H x v vl vu lo hi sl Q I rx hs pl pu h
 . exact zij pins s σ H x v vl vu lo hi sl Q I rx hs pl pu h
theorem zi2{lo hi:Option Expr}{ml mh:MO}{p2:Pos}(he:SE X e m)(hl:SO X lo ml)(hu:SO X hi mh):SE X (.Subscript e (.Slice lo hi none p2) pos) (mSl m ml mh):=PE.imp (zdV sl_M he hl hu) <| by
 rintro σ H Q ⟨ρ,st,io,d,st',E,S,e,k⟩;obtain⟨⟨x,s1⟩,e1,e⟩:=zad e;obtain⟨⟨lo',s2⟩,e2,e⟩:=zad e;obtain⟨⟨hi',s3⟩,e3,e⟩:=zad e;refine⟨ρ,st,io,x,s1,E,S,e1,fun v1 H1 k1 X1 S1 R1=>⟨ρ,s1,io++k1,lo',s2,E.ext S X1,S1,e2,fun H2 k2 X2 S2=>⟨ρ,s2,(io++k1)++k2,hi',s3,(E.ext S X1).ext S1 X2,S2,e3,fun H3 k3 X3 S3=>?_⟩⟩⟩;have R3:=(R1.ext S1 X2).ext S2 X3;have k':=((k.on S1 X1).on S2 X2).on S3 X3
 cases x with
 | tup ds =>
   have e:(if (decide (HT.sIx ds.length 0 lo'=0)&&decide (HT.sIx ds.length ds.length hi'=ds.length))=true then none else some (D.tup (cutD ds lo' hi'),s3))=some (d,st'):=e
   by_cases hw:(decide (HT.sIx ds.length 0 lo'=0)&&decide (HT.sIx ds.length ds.length hi'=ds.length))=true
   . rw[if_pos hw] at e;cases e
   . rw[if_neg hw] at e;cases e;obtain⟨p,xs,rfl,hp,r⟩:=R3;refine .inl ⟨p,xs,rfl,SqT.of hp,fun z=>hw ?_,fun q hq=>k'.tup S3 (zgU r _ _) hq⟩;rw[r.length] at z;rw[Ag];exact⟨decide_eq_true z.1,decide_eq_true z.2⟩
 | ref n =>
   obtain⟨ds,e0,e⟩:=zah e;cases e;obtain⟨p,rfl,hp⟩:=R3;obtain⟨xs,hx,r⟩:=zbl S3 hp e0;exact .inr ⟨p,xs,rfl,hx,fun q hq=>k'.lst S3 (zgU r _ _) hq⟩
 | _=>cases e
noncomputable def zjK:G2:=intD (fun _ j=>decide (0 < j)&&decide (j < 2 ^ 128)) fun i j=>.int (i / j)
theorem zgp:OpM X (binaryOp .FloorDiv) zjK:=zen (C:=fun i j=>0 < j/\j < 2 ^ 128) (opI fun i j _ _ _ _ _ hc q=>by
 refine floordiv_int (by omega) (by rw[Int.fdiv_eq_ediv_of_nonneg i (by omega)];exact q) (.inl (PyProof.noPylong_of_log2 ?_));have h0:j.natAbs≠0:=by omega
 have h1:j.natAbs < 2 ^ 128:=by omega
 exact Nat.lt_trans ((Nat.log2_lt h0).mpr h1) (by decide)) fun i j h=>by
   rw[Ag] at h;exact⟨of_decide_eq_true h.1,of_decide_eq_true h.2⟩
noncomputable def powB:G2:=intD (fun i j=>decide (0<=j)&&decide ((DK i:Int)*j<=2 ^ 27)) fun i j=>.int (i ^ j.toNat)
theorem ziq:OpM X (binaryOp .Pow) powB:=zen (C:=fun i j=>0<=j/\(DK i:Int)*j<=2 ^ 27) (opI fun i j _ _ _ _ _ hc q=>pow_int hc.1 hc.2 q) fun i j h=>by
   rw[Ag] at h;exact⟨of_decide_eq_true h.1,of_decide_eq_true h.2⟩
end
noncomputable def subT(t T:String):Bool:=t==T || (t=="bool"&&T=="int")
noncomputable def sorts:List String:=["NoneType","bool","int","str","tuple","list","dict"]
noncomputable def kinds:List String:=["bool","int","str","tuple","list","dict"]
theorem zlc{K:Ab}{t T:String}(ht:t∈sorts)(hT:T∈kinds):Ep K (.type t) (.type T)=some (subT t T):=by
 have all:∀ t∈sorts,∀ T∈kinds,Ep K (.type t) (.type T)=some (subT t T):=by
   intro t ht T hT;simp only[sorts,kinds,AQ,AI,or_false] at ht hT
   rcases ht with rfl | rfl | rfl | rfl | rfl | rfl | rfl <;> rcases hT with rfl | rfl | rfl | rfl | rfl | rfl <;> rfl
 exact all t ht T hT
noncomputable def tyName(st:Sto):D->Option String
 | .non=>some "NoneType"
 | .bl _=>some "bool"
 | .int _=>some "int"
 | .str _=>some "str"
 | .tup _=>some "tuple"
 | .ref n=>match st[n]? with
   | some (.lst _)=>some "list"
   | some (.fz _)=>some "list"
   | some (.dk _)=>some "dict"
   | some (.dt _)=>some "dict"
   | _=>none
 | .kl _=>none
section
variable {X:Cx} {K:Ab} {H:Hp} {io:List Addr} {st st':Sto} {a:Expr} {m:ME} {pos:Pos} {pins:List (Addr×Obj)} {σ:L2.St} {s:Shared}
theorem zgI{xs:List V}{p:Addr}(I:Inv X pins σ H s)(h:SqL X.K H p xs):DH p "list" s.heap:=by
 obtain⟨its,_,⟨o,n,e,c,_,_⟩,_⟩:=I.list h;exact⟨o,e,c⟩
theorem zhR{ps:List (Key×V)}{p:Addr}(I:Inv X pins σ H s)(h:H p=some (.dK ps)):DH p "dict" s.heap:=by
 obtain⟨_,_,_,_,o,_,_,e,ex,_⟩:=I.hok p _ h;exact⟨o,e,ex.1⟩
theorem zhQ{ps:List (List Key×V)}{p:Addr}(I:Inv X pins σ H s)(h:H p=some (.dT ps)):DH p "dict" s.heap:=by
 obtain⟨_,_,_,_,o,_,_,e,ex,_⟩:=I.hok p _ h;exact⟨o,e,ex.1⟩
theorem zlg{d:D}{v:V}{u:Value}{t T:String}{Q:Value->Shared->Prop}{E:Value->Shared->Prop}(I:Inv X pins σ H s)(S:StR X.K H io st)(R:Rep X.K H io v d)(r:RelV v u)(ht:tyName st d=some t)(hT:T∈kinds)
   (q:∀ tk,Q (.bool (subT t T)) { s with toks:=tk }):wpAny (model X.prog X.w) X.A (call (.builtin "isinstance") [u,.type T]) Q E s:=by
 have k:=fun {x:Value} {HH:Heap->Prop} (hs:t∈sorts) (Z:PySem.W.KitX X.K x (.type t) HH) (p:HH s.heap) (hx:x≠.builtin "__main__.__loader__#opaque")=>PySem.W.kia_one (prog:=X.prog) (w:=X.w) (A:=X.A) (E:=E) Z I.kIn p (zlc hs hT) hx q
 cases d with
 | non=>cases ht;cases (show v=.non from R);cases r;exact k (by decide) PySem.W.kitx_none trivial (by intro e;cases e)
 | bl b=>cases ht;cases (show v=.bl b from R);cases r;exact k (by decide) PySem.W.kitx_bool trivial (by intro e;cases e)
 | int b=>cases ht;cases (show v=.int b from R);obtain⟨t,rfl⟩:=r;exact k (by decide) PySem.W.kitx_int trivial (by intro e;cases e)
 | str b=>cases ht;cases (show v=.str b from R);obtain⟨t,rfl⟩:=r;exact k (by decide) PySem.W.kitx_str trivial (by intro e;cases e)
 | tup ds =>
   cases ht;obtain⟨p,xs,rfl,hp,_⟩:=R;cases r;obtain⟨its,_,⟨o,e,c,_⟩,_⟩:=I.tuple (SqT.of hp);exact k (by decide) PySem.W.kitx_tuple ⟨o,e,c⟩ (by intro e;cases e)
 | ref n =>
   obtain⟨p,rfl,hp⟩:=R;cases r;unfold tyName at ht;dsimp only at ht
   split at ht
   . rename_i o e;cases ht;obtain⟨xs,hH,_⟩:=S.ob n p _ hp e;exact k (by decide) DW (zgI I (SqL.of hH)) (by intro e;cases e)
   . rename_i o e;cases ht;obtain⟨ob,xs,hH,_⟩:=S.ob n p _ hp e;exact k (by decide) DW (zgI I (.inl (.inr ⟨ob,hH⟩))) (by intro e;cases e)
   . rename_i o e;cases ht;obtain⟨xs,hH,_⟩:=S.ob n p _ hp e;exact k (by decide) DX (zhR I hH) (by intro e;cases e)
   . rename_i o e;cases ht;obtain⟨xs,hH,_⟩:=S.ob n p _ hp e;exact k (by decide) DX (zhQ I hH) (by intro e;cases e)
   . cases ht
 | kl ds=>cases ht
noncomputable def rIsi(K:Ab)(T:String):List V->Hp->VK->Prop:=fun xs H Q=>∃ x d st io t,xs=[x,.ty T]/\Rep K H io x d/\StR K H io st/\tyName st d=some t/\Q (.bl (subT t T)) H
theorem zjU{T:String}(hT:T∈kinds):zhe X (.builtin "isinstance") (rIsi X.K T):=by
 rintro pins s σ H xs us Q I r ⟨x,d,st,io,t,e,R,S,ht,q⟩;subst e;obtain⟨u,w,rfl,ru,rw'⟩:=r.two;cases rw';exact zlg I S R ru ht hT fun tk=>⟨.bl _,H,I.tok tk,rfl,q⟩
noncomputable def mIsi(T:String)(m:ME):ME:=fun ρ st=>(m ρ st).bind fun (x,s)=>(tyName s x).map fun t=>(.bl (subT t T),s)
theorem zcb{T:String}{x y:Str}{p p2:Pos}(hT:T∈kinds)(hg:Gl X "isinstance")(hm:X.mg "isinstance"=none)(ha:SE X a m)(hgy:Gl X y)(hmy:X.mg y=none)(hvy:bootBuiltins y=some (.type T))(hny:y≠"__name__":=by decide)(hdy:(y==("__debug__":Str))=false:=by decide)
   (hs:starEach [a,.Name y p2] X.env=(false,eval a X.env)::starEach [.Name y p2] X.env:=by rfl) (hs2:starEach [.Name y p2] X.env=[(false,eval (.Name y p2) X.env)]:=by rfl) (hpl:(backTo pos (starEach [.Name y p2] X.env)).any (·.1)=false:=by rfl) :
   SE X (.Call (.Name "isinstance" p) [a,.Name y p2] [] pos) (mIsi T m) :=
 PE.imp (zgj (zjU hT) hg hm (by decide +kernel) (zgk ha (zgk (zkW (v:=.ty T) hgy hmy hvy rfl hny hdy) zkX hs2) hs) (by decide) (by decide) hs hpl) <| by
   rintro σ H Q ⟨ρ,st,io,d,st',E,S,e,k⟩;obtain⟨⟨x,s1⟩,e1,e⟩:=zad e;obtain⟨t,e2,e⟩:=zah e;cases e;exact⟨ρ,st,io,x,_,E,S,e1,fun v1 H1 k1 X1 S1 R1=>⟨v1,x,_,io++k1,t,rfl,R1,S1,e2,k _ H1 k1 X1 S1 rfl⟩⟩
end
section
variable {X:Cx} {K:Ab} {H:Hp} {io:List Addr} {st st':Sto} {a b c e:Expr} {es:List Expr} {ma mb mc m:ME} {mm:MA} {pos:Pos} {pins:List (Addr×Obj)} {σ:L2.St} {s:Shared}
noncomputable def strsOf:List D->Option (List Str)
 | []=>some []
 | .str x::r=>(strsOf r).map fun xs=>x::xs
 | _=>none
theorem zfx{d:D}{r:List D}{ss:List Str}(h:strsOf (d::r)=some ss):∃ x xs,d=.str x/\strsOf r=some xs/\ss=x::xs:=by
 cases d with
 | str x =>
   obtain⟨xs,e,h⟩:=zah h;exact⟨x,xs,rfl,e,h.symm⟩
 | _=>cases h
theorem zf6(ss:List Str):strsOf (ss.map D.str)=some ss:=by
 induction ss with
 | nil=>rfl
 | cons x r ih=>show (strsOf (r.map D.str)).map _=_;rw[ih];rfl
theorem zf5:∀ {xs:List V} {us:List Value} {ds:List D} {ss:List Str},Reps K H io xs ds->Vals xs us->strsOf ds=some ss->StrsAre us ss
 | _,_,[],ss,h,r,e=>by
   cases (show _=[] from h);cases r;cases e;exact .nil
 | _,_,d::ds,ss,h,r,e=>by
   obtain⟨y,ys,rfl,h1,h2⟩:=h;obtain⟨x,rest,rfl,e2,rfl⟩:=zfx e
   cases r with
   | cons r1 r2 =>
     cases (show y=.str x from h1)
     obtain⟨t,rfl⟩:=r1;exact .cons x t (zf5 h2 r2 e2)
noncomputable def zka:D->List D->Sto->Option (D×Sto):=fun x xs st=>match x,xs with
 | .str z,[.ref n]=>(zcd st n).bind fun ds=>(strsOf ds).bind fun ss=>if decide ((ss.map (·.length)).sum+ss.length*z.length<=16777216)=true then some (.str (Txt.join z ss),st) else none
 | _,_=>none
theorem zjt:MtR X "str.join" (mtM X.K zka):=by
 rintro pins s σ H x xs v us Q I rx rs ⟨dx,ds,st,io,d,st',Rx,Rs,S,e,k⟩;unfold zka at e
 split at e
 . rename_i z n;obtain⟨ts,e0,e⟩:=zad e;obtain⟨ss,e1,e⟩:=zad e;obtain⟨hl,e⟩:=zam e;cases e
   cases (show x=.str z from Rx)
   obtain⟨t,rfl⟩:=rx;obtain⟨w,rfl,p,rfl,hp⟩:=Rs.one;obtain⟨u,rfl,ru⟩:=rs.one;cases ru;obtain⟨ys,hx,r1⟩:=zbl S hp e0;obtain⟨its,rv,pl,hz⟩:=I.list hx;exact join_list pl.isList (zf5 r1 rv e1) (of_decide_eq_true hl) fun t' k'=>⟨.str _,H,I.tok k',⟨t',rfl⟩,k.now S rfl⟩
 . cases e
noncomputable def zmC(m:ME)(mm:MA):ME:=fun ρ st=>(m ρ st).bind fun (x,s1)=>match x with
 | .str _=>(mm ρ s1).bind fun (xs,s2)=>zka x xs s2
 | _=>none
theorem zkC{o:Expr}{apos cpos:Pos}(ho:SE X o m)(ha:SA X (e::es) mm)
   (hbase:attributeBase o "join" X.env (eval o X.env)=eval o X.env:=by rfl)
   (hfew:((backTo cpos (starEach (e::es) X.env)).all (fun x=>!x.1)&&(backToKw cpos (keywordEach [] X.env)).all (fun x=>x.1.isSome)
    &&decide ((e::es).length+([]:List Keyword).length+(if ([]:List Keyword).isEmpty then 0 else 1) < 30))=true:=by rfl)
   (hline:(apos.endLine==cpos.line)=true:=by rfl) (hs:starEach (e::es) X.env=(false,eval e X.env)::starEach es X.env:=by rfl) (hplain:(backTo cpos (starEach es X.env)).any (·.1)=false:=by rfl) :
   SE X (.Call (.Attribute o "join" apos) (e::es) [] cpos) (zmC m mm) :=
 PE.imp (zlv Dv PySem.F.slot_str_join PySem.F.type_str_join zjt ho ha hbase hfew hline hs hplain) <| by
   rintro σ H Q ⟨ρ,st,io,d,st',E,S,e,k⟩;obtain⟨⟨x,s1⟩,e1,e⟩:=zad e
   cases x with
   | str z =>
     obtain⟨⟨xs,s2⟩,e2,e⟩:=zad e;refine⟨ρ,st,io,_,s1,E,S,e1,fun v1 H1 k1 X1 S1 R1=>⟨by cases (show v1=.str z from R1);rfl,ρ,s1,io++k1,xs,s2,E.ext S X1,S1,e2,fun vs H2 k2 X2 S2 R2=>?_⟩⟩;exact⟨_,xs,s2,(io++k1)++k2,d,st',R1.ext S1 X2,R2,S2,e,(k.on S1 X1).on S2 X2⟩
   | _=>cases e
noncomputable def rSlS:V->Option Int->Option Int->Hp->VK->Prop:=fun x lo hi H Q=>∃ z,x=.str z/\z.length<=sizeLine/\Q (.str (Bd z lo hi)) H
theorem zlP:SlR X rSlS:=by
 rintro pins s σ H x v vl vu lo hi sl Q I rx hs pl pu ⟨z,e,hz,q⟩;subst e;obtain⟨t,rfl⟩:=rx;refine⟨"str",_,F.slot_str_getitem.lookup,Ee _ _ _,?_⟩;have fin:∀ t' k,EP X pins σ Q (.str (Bd z lo hi) t') { s with toks:=k }:=fun t' k=>⟨.str _,H,I.tok k,⟨t',rfl⟩,q⟩
 cases pl with
 | none =>
   cases pu with
   | none=>exact BJ (l:=none) (u:=none) (st:=none) hs rfl (B1 ⟨AD (Cz z _ _) hz,fin⟩)
   | int j tj=>exact BJ (l:=none) (u:=some (j,tj)) (st:=none) hs rfl (B1 ⟨AD (Cz z _ _) hz,fin⟩)
 | int i ti =>
   cases pu with
   | none=>exact BJ (l:=some (i,ti)) (u:=none) (st:=none) hs rfl (B1 ⟨AD (Cz z _ _) hz,fin⟩)
   | int j tj=>exact BJ (l:=some (i,ti)) (u:=some (j,tj)) (st:=none) hs rfl (B1 ⟨AD (Cz z _ _) hz,fin⟩)
noncomputable def slS:D->Option Int->Option Int->Sto->Option (D×Sto):=fun x lo hi st=>match x with
 | .str z=>if fits z.length=true then some (.str (Bd z lo hi),st) else none
 | _=>none
noncomputable def mSlS(m:ME)(l h:MO):ME:=fun ρ st=>(m ρ st).bind fun (x,s1)=>(l ρ s1).bind fun (lo,s2)=>(h ρ s2).bind fun (hi,s3)=>slS x lo hi s3
theorem zhs{lo hi:Option Expr}{ml mh:MO}{p2:Pos}(he:SE X e m)(hl:SO X lo ml)(hu:SO X hi mh):SE X (.Subscript e (.Slice lo hi none p2) pos) (mSlS m ml mh):=PE.imp (zdV zlP he hl hu) <| by
 rintro σ H Q ⟨ρ,st,io,d,st',E,S,e,k⟩;obtain⟨⟨x,s1⟩,e1,e⟩:=zad e;obtain⟨⟨lo',s2⟩,e2,e⟩:=zad e;obtain⟨⟨hi',s3⟩,e3,e⟩:=zad e;refine⟨ρ,st,io,x,s1,E,S,e1,fun v1 H1 k1 X1 S1 R1=>⟨ρ,s1,io++k1,lo',s2,E.ext S X1,S1,e2,fun H2 k2 X2 S2=>⟨ρ,s2,(io++k1)++k2,hi',s3,(E.ext S X1).ext S1 X2,S2,e3,fun H3 k3 X3 S3=>?_⟩⟩⟩;have k':=((k.on S1 X1).on S2 X2).on S3 X3
 cases x with
 | str z =>
   obtain⟨hf,e⟩:=zam e;cases e;exact⟨z,R1,of_decide_eq_true hf,k'.now S3 rfl⟩
 | _=>cases e
noncomputable def repS(x:Str)(n:Int):Str:=if n < 1 then Str.empty else if (n==1 || x.length==0)=true then x else ⟨(Av n.toNat x.cps).foldl (·++·) #[]⟩
noncomputable def zmB:G2
 | .str x,.int n,st=>if (decide (-(2 ^ 62)<=n)&&decide (n < 2 ^ 20)&&decide (x.length*n.toNat<=sizeLine)&&decide ((repS x n).length<=sizeLine))=true then some (.str (repS x n),st) else none
 | _,_,_=>none
theorem zjk:OpM X (binaryOp .Mult) zmB:=by
 rintro pins s σ H x y v u Q I rx ry ⟨dx,dy,st,io,d,st',Rx,Ry,S,e,k⟩;unfold zmB at e
 split at e
 . rename_i z n;obtain⟨hc,e⟩:=zam e;cases e;rw[Ag,Ag,Ag] at hc;obtain⟨⟨⟨h1,h2⟩,h3⟩,h4⟩:=hc;have h1:=of_decide_eq_true h1;have h2:=of_decide_eq_true h2;have h3:=of_decide_eq_true h3;have h4:=of_decide_eq_true h4
   cases (show x=.str z from Rx)
   cases (show y=.int n from Ry)
   obtain⟨t,rfl⟩:=rx;obtain⟨t2,rfl⟩:=ry;have fin:∀ t' k',EP X pins σ Q (.str (repS z n) t') { s with toks:=k' }:=fun t' k'=>⟨.str _,H,I.tok k',⟨t',rfl⟩,k.now S rfl⟩
   refine PySem.P.mul_str (by rw[decide_eq_false (by omega),decide_eq_false (by omega)];rfl) (fun hn _=>?_) (fun hn _=>?_) ?_
   . have hs:sizeLine=16777216:=D3;have hnn:((n.toNat:Nat):Int)=n:=DL (by omega);have hm:(z.length:Int)*n<=2 ^ 63 - 1:=by
       rw[<-hnn,<-Ej];omega
     have:=Int.le_ediv_of_mul_le (by omega:0 < n) hm;omega
   . unfold Builtin.Str.tooLong;exact decide_eq_false (by omega)
   . unfold repS at fin h4
     by_cases hn:n < 1
     . rw[if_pos hn] at fin h4 ⊢;exact⟨h4,fin s.toks (s.toks+1)⟩
     . rw[if_neg hn] at fin h4 ⊢;exact B1 ⟨h4,fin⟩
 . cases e
end
section
variable {X:Cx} {K:Ab} {H:Hp} {io:List Addr} {st st':Sto} {a b c e:Expr} {es:List Expr} {ma mb mc m:ME} {mm:MA} {pos:Pos} {pins:List (Addr×Obj)} {σ:L2.St} {s:Shared}
noncomputable def memP(p:PyData):PyData->Option Bool
 | .list xs=>some (xs.any fun y=>C6 y p)
 | .tuple xs=>some (xs.any fun y=>C6 y p)
 | _=>none
noncomputable def inD(neg:Bool):G2:=fun x y st=>(toP 50 st x).bind fun p=>(toP 50 st y).bind fun q=>(memP p q).map fun b=>(.bl (if neg then !b else b),st)
theorem zdM{xs:List PyData}(h:(PyData.list xs).canLay0=true):BN xs=true:=by simpa only [Br] using h
theorem zdy{xs:List PyData}(h:(PyData.tuple xs).canLay0=true):BN xs=true:=by simpa only [Br] using h
theorem zmu(hu:X.A.units+100 < cLine):OpM X (compareOp .In) (inD false):=by
 rintro pins s σ H x y v u Q I rx ry ⟨dx,dy,st,io,d,st',Rx,Ry,S,e,k⟩;obtain⟨p,e1,e⟩:=zad e;obtain⟨q,e2,e⟩:=zad e;obtain⟨r,e3,e⟩:=zah e;cases e;obtain⟨as,ra⟩:=zbX I S Rx rx e1;obtain⟨bs,rb⟩:=zbX I S Ry ry e2;have h1:=zdC e1;have h2:=zdC e2;have hb:∀ n,X.A.units+1+min n p.depth < cLine:=fun n=>by have:=Da n p.depth;omega
 cases q with
 | list xs=>cases e3;exact PySem.SeqAt.in_list_reads rb ra (zdM h2.1) h1.1 (hb _) ⟨.bl _,H,I,rfl,k.now S rfl⟩
 | tuple xs=>cases e3;exact PySem.SeqAt.in_tuple_reads rb ra (zdy h2.1) h1.1 (hb _) ⟨.bl _,H,I,rfl,k.now S rfl⟩
 | _=>cases e3
theorem zhF(hu:X.A.units+100 < cLine):OpM X (compareOp .NotIn) (inD true):=by
 rintro pins s σ H x y v u Q I rx ry ⟨dx,dy,st,io,d,st',Rx,Ry,S,e,k⟩;obtain⟨p,e1,e⟩:=zad e;obtain⟨q,e2,e⟩:=zad e;obtain⟨r,e3,e⟩:=zah e;cases e;obtain⟨as,ra⟩:=zbX I S Rx rx e1;obtain⟨bs,rb⟩:=zbX I S Ry ry e2;have h1:=zdC e1;have h2:=zdC e2;have hb:∀ n,X.A.units+1+min n p.depth < cLine:=fun n=>by have:=Da n p.depth;omega
 cases q with
 | list xs=>cases e3;exact PySem.SeqAt.notIn_list_reads rb ra (zdM h2.1) h1.1 (hb _) ⟨.bl _,H,I,rfl,k.now S rfl⟩
 | tuple xs=>cases e3;exact PySem.SeqAt.notIn_tuple_reads rb ra (zdy h2.1) h1.1 (hb _) ⟨.bl _,H,I,rfl,k.now S rfl⟩
 | _=>cases e3
noncomputable def inSD:G2
 | .str i,.str j,st=>some (.bl (!(Bm j i 0 j.length 1).isEmpty),st)
 | _,_,_=>none
theorem zk1:OpM X (compareOp .In) inSD:=by
 rintro pins s σ H x y v u Q I rx ry ⟨dx,dy,st,io,d,st',Rx,Ry,S,e,k⟩;unfold inSD at e
 split at e
 . rename_i i j
   cases e;exact zhG pins s σ H x y v u Q I rx ry ⟨i,j,Rx,Ry,k.now S rfl⟩
 . cases e
noncomputable def zjX:List D->Option (List Bool)
 | []=>some []
 | .bl x::r=>(zjX r).map fun xs=>x::xs
 | _=>none
theorem zg5{d:D}{r:List D}{ss:List Bool}(h:zjX (d::r)=some ss):∃ x xs,d=.bl x/\zjX r=some xs/\ss=x::xs:=by
 cases d with
 | bl x =>
   obtain⟨xs,e,h⟩:=zah h;exact⟨x,xs,rfl,e,h.symm⟩
 | _=>cases h
theorem ziF:∀ {xs:List V} {us:List Value} {ds:List D} {ss:List Bool},Reps K H io xs ds->Vals xs us->zjX ds=some ss->us=ss.map Cr
 | _,_,[],ss,h,r,e=>by
   cases (show _=[] from h);cases r;cases e;rfl
 | _,_,d::ds,ss,h,r,e=>by
   obtain⟨y,ys,rfl,h1,h2⟩:=h;obtain⟨x,rest,rfl,e2,rfl⟩:=zg5 e
   cases r with
   | cons r1 r2 =>
     cases (show y=.bl x from h1)
     cases r1;rw[ziF h2 r2 e2];rfl
noncomputable def allC:GN
 | [.ref n],st=>(zcd st n).bind fun ds=>(zjX ds).map fun bs=>(.bl (bs.all id),st)
 | _,_=>none
theorem range_all(bs:List Bool):((BK bs.length).all fun i=>bs.getD i false)=bs.all id:=by
 rw[Bi,BF,BF]
 constructor
 . intro h b hb;obtain⟨i,hi,e⟩:=DJ hb;have:=h i (List.mem_range.mpr hi);rw[BX,AW hi,e] at this;exact this
 . intro h i hi;have hi:=List.mem_range.mp hi;rw[BX,AW hi];exact h _ (Df hi)
theorem zcA(hc:X.calm=true):zdN X (.builtin "all") allC:=by
 rintro pins s σ H xs us Q I r ⟨ds,st,io,d,st',R,S,e,k⟩;unfold allC at e
 split at e
 . rename_i n;obtain⟨ts,e0,e⟩:=zad e;obtain⟨bs,e1,e⟩:=zah e;cases e;obtain⟨v,rfl,p,rfl,hp⟩:=R.one;obtain⟨u,rfl,ru⟩:=r.one;cases ru;obtain⟨ys,hx,r1⟩:=zbl S hp e0;obtain⟨its,rv,pl,hz⟩:=I.list hx;have hb:=ziF r1 rv e1;subst hb;refine call_all_walk (CV pl.isList ?_);have hlt:p < s.heap.objs.size:=by
     obtain⟨o,_,e,_⟩:=pl;exact Aj e
   refine⟨_,_,_,_,_,_,fun i=>bs.getD i false,rfl,Walks.list (A:=X.A.in1) (I.ok.hd hc) s.heap.objs.size p (AC hlt) (bs.map Cr).toArray,⟨⟨_,An _ rfl,rfl,rfl⟩,?_⟩,?_,fun h' tk hk=>?_⟩
   . obtain⟨o,nn,e,c,dd,sq⟩:=pl;exact⟨o,Ad _ e,c,nn,sq⟩
   . intro i v s' Q' E' hv hq;have hv:((bs.map Cr).toArray)[i]?=some v:=hv;rw[List.getElem?_toArray,AE] at hv
     cases ei:bs[i]? with
     | none=>rw[ei] at hv;cases hv
     | some bb =>
       rw[ei] at hv;cases hv;refine A4 ?_;have hg:bs.getD i false=bb:=by rw[BX,ei];rfl
       have hq:Q' (bs.getD i false) s':=hq;rw[hg] at hq;exact hq
   . refine⟨.bl _,H,I.kept (t':=tk) fun b o q=>hk b o ?_ (Ad _ q),rfl,?_⟩
     . simp;exact AC (Aj q)
     . have:((BK (bs.map Cr).toArray.size).all fun i=>bs.getD i false)=bs.all id:=by simpa using range_all bs
       rw[this];exact k.now S rfl
 . cases e
end
end L2.MP
namespace Srt
open PySem PySem.W PyProof.Rows
end Srt
namespace L2.MP
open PySem PySem.Spec PyProof.Rows
section
variable {X:Cx} {K:Ab} {H:Hp} {io:List Addr} {st st':Sto} {a b c e:Expr} {es:List Expr} {ma mb mc m:ME} {mm:MA} {pos:Pos} {pins:List (Addr×Obj)} {σ:L2.St} {s:Shared}
noncomputable def orO{α:Type}:Option α->Option α->Option α
 | some x,_=>some x
 | none,y=>y
theorem zb1{α:Type}{x y:Option α}{z:α}(h:orO x y=some z):x=some z\/y=some z:=by
 cases x with
 | none=>exact .inr h
 | some w=>exact .inl h
noncomputable def orG(g h:G2):G2:=fun x y st=>orO (g x y st) (h x y st)
noncomputable def orN(g h:GN):GN:=fun xs st=>orO (g xs st) (h xs st)
theorem zfB{f:Value->Value->Sem Value}{g h:G2}(p:OpM X f g)(q:OpM X f h):OpM X f (orG g h):=by
 rintro pins s σ H x y v u Q I rx ry ⟨dx,dy,st,io,d,st',Rx,Ry,S,e,k⟩
 rcases zb1 e with e | e
 . exact p pins s σ H x y v u Q I rx ry ⟨dx,dy,st,io,d,st',Rx,Ry,S,e,k⟩
 . exact q pins s σ H x y v u Q I rx ry ⟨dx,dy,st,io,d,st',Rx,Ry,S,e,k⟩
theorem zd6{f:Value}{g h:GN}(p:zdN X f g)(q:zdN X f h):zdN X f (orN g h):=by
 rintro pins s σ H xs us Q I r ⟨ds,st,io,d,st',R,S,e,k⟩
 rcases zb1 e with e | e
 . exact p pins s σ H xs us Q I r ⟨ds,st,io,d,st',R,S,e,k⟩
 . exact q pins s σ H xs us Q I r ⟨ds,st,io,d,st',R,S,e,k⟩
theorem zfh{g:G2}{ρ:Rho}{x y:D}{s0 s1 s2:Sto}{r:D×Sto}(h1:ma ρ s0=some (x,s1))(h2:mb ρ s1=some (y,s2))(h3:g x y s2=some r):mBin g ma mb ρ s0=some r:=by
 unfold mBin;rw[h1];show ED (mb ρ s1) _=_;rw[h2];exact h3
theorem zkz{g h:G2}(p:SE X e (mBin g ma mb))(q:SE X e (mBin h ma mb)):SE X e (mBin (orG g h) ma mb):=by
 rintro pins s σ H Q I ⟨ρ,st,io,d,st',E,S,e,k⟩;obtain⟨⟨x,s1⟩,e1,e⟩:=zad e;obtain⟨⟨y,s2⟩,e2,e⟩:=zad e
 rcases zb1 e with e | e
 . exact p pins s σ H Q I ⟨ρ,st,io,d,st',E,S,zfh e1 e2 e,k⟩
 . exact q pins s σ H Q I ⟨ρ,st,io,d,st',E,S,zfh e1 e2 e,k⟩
theorem zkG{g h:G2}(p:SB X e (mTst (mBin g ma mb)))(q:SB X e (mTst (mBin h ma mb))):SB X e (mTst (mBin (orG g h) ma mb)):=by
 rintro pins s σ H Q I ⟨ρ,st,io,d,st',E,S,e,k⟩;have e:=zhm e;obtain⟨⟨x,s1⟩,e1,e⟩:=zad e;obtain⟨⟨y,s2⟩,e2,e⟩:=zad e
 rcases zb1 e with e | e
 . exact p pins s σ H Q I ⟨ρ,st,io,d,st',E,S,by unfold mTst;rw[zfh e1 e2 e];rfl,k⟩
 . exact q pins s σ H Q I ⟨ρ,st,io,d,st',E,S,by unfold mTst;rw[zfh e1 e2 e];rfl,k⟩
noncomputable def znM:G2:=fun d k st=>match d with
 | .ref n=>(look st n k).bind fun r=>r.map fun v=>(v,st)
 | _=>none
noncomputable def ixA:G2:=orG idxD znM
theorem za2(hu:X.A.units+1 < cLine)(ha:SE X a ma)(hb:SE X b mb)(hs:zhb b:=by intro _ _;rfl)(hs':NoSl b:=by intro _ _;rfl):SE X (.Subscript a b pos) (mBin ixA ma mb) :=
 zkz (znk ha hb hs) (show SE X (.Subscript a b pos) (zm3 ma mb) from zkE hu ha hb hs')
noncomputable def dinD(neg:Bool):G2:=fun k d st=>match d with
 | .ref n=>(look st n k).map fun r=>(.bl (if neg then !r.isSome else r.isSome),st)
 | _=>none
noncomputable def inA:G2:=orG (orG (inD false) inSD) (dinD false)
noncomputable def zjo:G2:=orG (inD true) (dinD true)
theorem zlV(hu:X.A.units+100 < cLine)(ha:SE X a ma)(hb:SE X b mb)(hm:behindInMarks .In b=false:=by rfl):SE X (.Compare a [.In] [b] pos) (mBin inA ma mb) :=
 zkz (zgb (zfB (zmu hu) zk1) ha hb hm) (show SE X _ (mDIn false ma mb) from zlW (by omega) ha hb hm)
theorem zhy(hu:X.A.units+100 < cLine)(ha:SE X a ma)(hb:SE X b mb)(hm:behindInMarks .NotIn b=false:=by rfl):SB X (.Compare a [.NotIn] [b] pos) (mTst (mBin zjo ma mb)) :=
 zkG (zbx (zhF hu) ha hb hm) (show SB X _ (mTst (mDIn true ma mb)) from zhz (by omega) ha hb hm)
noncomputable def slA:D->Option Int->Option Int->Sto->Option (D×Sto):=fun x lo hi st=>orO (slD x lo hi st) (slS x lo hi st)
noncomputable def mSlA(m:ME)(l h:MO):ME:=fun ρ st=>(m ρ st).bind fun (x,s1)=>(l ρ s1).bind fun (lo,s2)=>(h ρ s2).bind fun (hi,s3)=>slA x lo hi s3
theorem zht{lo hi:Option Expr}{ml mh:MO}{p2:Pos}(he:SE X e m)(hl:SO X lo ml)(hu:SO X hi mh):SE X (.Subscript e (.Slice lo hi none p2) pos) (mSlA m ml mh):=by
 rintro pins s σ H Q I ⟨ρ,st,io,d,st',E,S,e0,k⟩;obtain⟨⟨x,s1⟩,e1,e0⟩:=zad e0;obtain⟨⟨lo',s2⟩,e2,e0⟩:=zad e0;obtain⟨⟨hi',s3⟩,e3,e0⟩:=zad e0
 rcases zb1 e0 with e0 | e0
 . exact zi2 he hl hu pins s σ H Q I ⟨ρ,st,io,d,st',E,S,by simp only[mSl,e1,e2,e3,Ac];exact e0,k⟩
 . exact zhs he hl hu pins s σ H Q I ⟨ρ,st,io,d,st',E,S,by simp only[mSlS,e1,e2,e3,Ac];exact e0,k⟩
noncomputable def zif:D->Sto->Option (Wk×Sto)
 | .ref n,s=>(zcd s n).map fun ds=>(⟨ds,[(n,ds)]⟩,s)
 | .tup ds,s=>some (⟨ds,[]⟩,s)
 | _,_=>none
noncomputable def mW(m:ME):MI:=fun ρ st=>(m ρ st).bind fun (d,s)=>zif d s
theorem zkr{tg l:Expr}(hl:SE X l m):SI X tg l (mW m):=by
 rintro pins s σ H R I ⟨ρ,st,io,W,st',E,S,e0,k⟩;obtain⟨⟨d,s1⟩,e1,e0⟩:=zad e0
 cases d with
 | ref n=>exact zks hl pins s σ H R I ⟨ρ,st,io,W,st',E,S,by unfold mWL;rw[e1];exact e0,k⟩
 | tup ds=>exact zlR hl pins s σ H R I ⟨ρ,st,io,W,st',E,S,by unfold mWT;rw[e1];exact e0,k⟩
 | _=>cases e0
noncomputable def setD:G3:=fun o i v st=>match o,i with
 | .ref n,.int k=>match st[n]? with
   | some (.lst ds)=>(ixN ds.length k).map fun j=>st.set n (.lst (ds.set j v))
   | _=>none
 | _,_=>none
theorem znj:SetM X setD:=by
 rintro pins s σ H o i v ov iv u Q I ro ri rv ⟨d1,d2,d3,st,io,st',R1,R2,R3,S,e,k⟩
 cases d1 with
 | ref n =>
   cases d2 with
   | int j =>
     unfold setD at e;dsimp only at e
     split at e
     . rename_i ds e0;obtain⟨q,e1,e⟩:=zah e;cases e;obtain⟨p,rfl,hp⟩:=R1;obtain⟨ys,hH,r⟩:=S.ob n p _ hp e0;refine set_list pins s σ H _ _ v ov iv u Q I ro ri rv ⟨p,ys,j,q,rfl,R2,hH,by rw[r.length];exact e1,?_⟩;obtain⟨E',S'⟩:=zgg (o:=.lst (ys.set q v)) (ob:=.lst (ds.set q d3)) S hp e0 (fun o u z=>by rw[hH] at z;cases z) fun H' T e'=>⟨_,e',(Reps.mono T r).set q (Rep.mono T R3)⟩
       exact k _ [] E' S'
     . cases e
   | _=>cases e
 | _=>cases d2 <;> cases e
noncomputable def putA(mo mi mv:ME):MS:=fun ρ st=>orO (mAsg mv (gSb setD mo mi) ρ st) (zmD mo mi mv ρ st)
theorem zkm{o i value:Expr}{mo mi mv:ME}{pos':Pos}(hu:X.A.units+1 < cLine)(ho:SE X o mo)(hi:SE X i mi)(hv:SE X value mv)(hs:swapsWith value (some (.Subscript o i pos')) pos.line X.env=pure false:=by rfl)
   (ha:∀ v,assign (.Subscript o i pos') X.env v=(do
     let ov <-holding [v] (eval o X.env)
     let iv <-holding [v,ov] (eval i X.env)
     standAt pos'
     holding [v,ov,iv] (setItem ov iv v)
     release [v,ov,iv] []):=by intro _;rfl)
   (hs2:swapsWithSole [.Subscript o i pos'] value pos.line X.env=pure false:=by rfl) (hw:swappedStores [.Subscript o i pos'] value X.env=pure none:=by rfl)
   (h1:(assignEach [.Subscript o i pos'] X.env).map (·.2)=[assign (.Subscript o i pos') X.env]:=by rfl):SS X (.Assign [.Subscript o i pos'] value pos) (putA mo mi mv):=by
 intro pins s σ H N I h;obtain⟨ρ,st,io,f,st',E,S,e,w⟩:=zcU.mp h
 rcases zb1 e with e | e
 . exact zko hv (zlT ho hi znj ha) hs2 hw h1 pins s σ H N I (ziP E S e w)
 . exact zkn hu ho hi hv hs pins s σ H N I (ziP E S e w)
def zb9(P:Program)(w:World)(K:Ab)(mg:Str->Option Value)(base:Heap)(k:Nat)(x:Str)(n:Nat)(g:GN):Prop :=
 ∃ f fd ps,FnOk P w K mg base CX0 k f fd ps (spM K n g)/\mg x=some (.ref f)/\BD K (.ref f)=true/\Binds K fd ps []
def zay(n:Nat)(mm:MA):Prop:=∀ ρ st xs s,mm ρ st=some (xs,s)->xs.length=n
theorem zay.nil:zay 0 mNil:=fun _ _ _ _ h=>zjw h
theorem zay.cons{n:Nat}(h:zay n mm):zay (n+1) (zac m mm):=fun _ _ _ _ q=>zhK h q
theorem zal{x:Str}{p:Pos}{k n:Nat}{g:GN}(F:zb9 X.prog X.w X.K X.mg X.base k x n g)(hr:Room k X.A)(hg:Gl X x)(ha:SA X (e::es) mm)(hl:zay n mm)(hdb:(x==("__debug__":Str))=false:=by decide)
   (he:starEach (e::es) X.env=(false,eval e X.env)::starEach es X.env:=by rfl) (hpl:(backTo pos (starEach es X.env)).any (·.1)=false:=by rfl) (hn:(e::es).length=n:=by rfl) :
   SE X (.Call (.Name x p) (e::es) [] pos) (zav g mm):=by
 obtain⟨f,fd,ps,F,hm,hk,hb⟩:=F;exact zkF F hr hg hm hk hb ha hdb he hpl hn hl
def Laid(K:Ab)(mg:Str->Option Value)(x:Str)(st:Stmt)(ps:List Str):Prop:=∃ f fd,Fun K x x st f fd/\mg x=some (.ref f)/\Binds K fd ps []
theorem zcz{P:Program}{w:World}{mg:Str->Option Value}{base:Heap}{x:Str}{st:Stmt}{N ps:List Str}{k:Nat}{m:MS}(L:Laid K mg x st ps)(S:FnScope N ps (zan st))
   (hbody:∀ (f:Addr) (cdv:Value) (A:Around) (outer:List Env) (s:Shared) (H:Hp) (E:XK),Room k (A.deeper (envOfC x (zan st) s.heap.objs.size f cdv)) ->
     SSs (cxOf CX0 P w K mg base N x (zan st) f cdv A outer s H E).nox (zce st) m):zb9 P w K mg base (k+1) x ps.length (fnM N.length m):=by
 obtain⟨f,fd,F,hm,hb⟩:=L;exact⟨f,fd,ps,fn_m F S (hbody f),hm,F.kp,hb⟩
noncomputable def noG:GN:=fun _ _=>none
noncomputable def recG(n:Nat)(G:GN->MS):Nat->GN
 | 0=>noG
 | k+1=>fnM n (G (recG n G k))
theorem ziB{P:Program}{w:World}{mg:Str->Option Value}{base:Heap}{x:Str}{st:Stmt}{N ps:List Str}{j:Nat}{G:GN->MS}(L:Laid K mg x st ps)(S:FnScope N ps (zan st))
   (hbody:∀ (i:Nat) (g:GN),zb9 P w K mg base (j+i) x ps.length g->∀ (f:Addr) (cdv:Value) (A:Around) (outer:List Env) (s:Shared) (H:Hp) (E:XK),Room (j+i) (A.deeper (envOfC x (zan st) s.heap.objs.size f cdv)) ->
     SSs (cxOf CX0 P w K mg base N x (zan st) f cdv A outer s H E).nox (zce st) (G g)):∀ i,zb9 P w K mg base (j+i) x ps.length (recG N.length G i)
 | 0=>by
   obtain⟨f,fd,F,hm,hb⟩:=L;refine⟨f,fd,ps,⟨fun vs H Q E h=>?_,fun A outer s H args us vs Q E hr he hb hv h=>?_⟩,hm,F.kp,hb⟩
   . obtain⟨_,_,_,_,_,h,_⟩:=h;exact h
   . obtain⟨_,_,_,_,_,_,_,_,h,_⟩:=h;cases h
 | i+1=>zcz L S fun f cdv A outer s H E hr=>hbody i _ (ziB L S hbody i) f cdv A outer s H E hr
end
theorem zjP{P:Program}{w:World}{H:Hp}{h:Heap}{d:Addr}{o:Obj}{ps:List (List Key×V)}{es:Array DictEntry}{ep:Nat}(x:zde P w H h d (.frz o (.dT ps)))(dd:o.data=.dict es ep) :
   h.get? d=some o/\es.size=ps.length/\∀ (i:Nat) (k:List Key) (v:V),ps[i]?=some (k,v)->∃ (en:DictEntry) (b:Addr),es[i]?=some en/\en.key=.ref b/\H b=some (.tup (k.map kV))/\RelV v en.val:=by
 obtain⟨g,z,y,xs,r,o',es',ep',g',ex,dd',et,nd⟩:=x;rw[g] at g';cases g';rw[dd] at dd';cases dd';have hl:es.size=ps.length:=by
   have h1:=congrArg List.length et;have h2:=BV r;simp at h1;omega
 refine⟨g,hl,fun i k v hi=>?_⟩;have get:∀ {l:List (List Key×V)} {m:List (List Key×Addr×Value)} {i:Nat},Paired (fun (p:List Key×V) (q:List Key×Addr×Value)=>p.1=q.1/\H q.2.1=some (.tup (p.1.map kV))/\RelV p.2 q.2.2) l m->l[i]?=some (k,v)->∃ q,m[i]?=some q/\H q.2.1=some (.tup (k.map kV))/\RelV v q.2.2:=by
   intro l m i q
   induction q generalizing i with
   | nil=>intro e;simp at e
   | cons h t ih =>
     cases i with
     | zero =>
       intro e;simp at e;subst e;exact⟨_,rfl,h.2.1,h.2.2⟩
     | succ j=>intro e;exact ih (by simpa using e)
 obtain⟨q,hq,h1,h2⟩:=get r hi;have he:es[i]?=some (entryOfKey (tupleKind (zbF P w)) q):=by
   have:es.toList[i]?=some (entryOfKey (tupleKind (zbF P w)) q):=by rw[et,AE,hq];rfl
   simpa using this
 exact⟨_,q.2.1,he,rfl,h1,h2⟩
section
variable {X:Cx} {K:Ab} {H:Hp} {io:List Addr} {m:ME} {st st':Sto}
noncomputable def keyD:Key->D
 | .inl i=>.int i
 | .inr x=>.str x
theorem zeV:∀ (ks:List Key),Reps K H io (ks.map kV) (ks.map keyD)
 | []=>rfl
 | .inl i::r=>⟨_,_,rfl,rfl,zeV r⟩
 | .inr x::r=>⟨_,_,rfl,rfl,zeV r⟩
end
inductive Sr where
 | l (a:Addr) | t (a:Addr)
noncomputable def Sr.ad:Sr->Addr
 | .l a=>a
 | .t a=>a
noncomputable def Sr.ob:Sr->Obj
 | .l a=>{ cls:=.type "list_iterator",data:=.fields #[.ref a,.int 0 0] }
 | .t a=>{ cls:=.type "tuple_iterator",data:=.fields #[.ref a,.int 0 0] }
noncomputable def Sr.is(h:Heap)(xs:Array Value):Sr->Prop
 | .l a=>h.IsList a xs
 | .t a=>IsTup h a xs
noncomputable def Sr.at_(h:Heap)(i:Addr)(k:Nat):Sr->Prop
 | .l a=>h.IsListIter i a k
 | .t a=>IsTupIter h i a k
theorem Sr.is_keep{h h':Heap}{xs:Array Value}{x:Sr}(q:x.is h xs)(k:∀ u,h.get? x.ad=some u->h'.get? x.ad=some u):x.is h' xs:=by
 cases x with
 | l a=>exact Heap.IsList.at q k
 | t a=>obtain⟨o,g,c⟩:=q;exact⟨o,k o g,c⟩
theorem Sr.at_keep{h h':Heap}{i:Addr}{n:Nat}{x:Sr}(q:x.at_ h i n)(k:∀ u,h.get? i=some u->h'.get? i=some u):x.at_ h' i n:=by
 cases x with
 | l a=>exact EG q k
 | t a=>obtain⟨o,g,c⟩:=q;exact⟨o,k o g,c⟩
theorem Sr.at_get{h:Heap}{i:Addr}{n:Nat}{x:Sr}(q:x.at_ h i n):∃ o vs,h.get? i=some o/\o.data=.fields vs:=by
 cases x with
 | l a=>obtain⟨o,g,c,d⟩:=q;exact⟨o,_,g,d⟩
 | t a=>obtain⟨o,g,c,d⟩:=q;exact⟨o,_,g,d⟩
section
variable {prog:Program} {w:World} {A:Around} {E:Value->Shared->Prop} {s:Shared}
theorem Sr.iter{x:Sr}{xs:Array Value}{R:Value->Shared->Prop}(h:x.is s.heap xs)(k:R (.ref s.heap.objs.size) { s with heap:=s.heap.push x.ob }):wpAny (model prog w) A (pyIter (.ref x.ad)) R E s:=by
 cases x with
 | l a=>exact CV h k
 | t a=>exact iter_tuple h k
theorem zgy{it a:Addr}{i:Nat}{xs:Array Value}{v:Value}{R:Value->Shared->Prop}(hit:IsTupIter s.heap it a i)(ht:IsTup s.heap a xs)(hx:xs[i]?=some v)
   (k:∀ h',IsTupIter h' it a (i+1)->B4 it s.heap h'->R v { s with heap:=h' }):wpAny (model prog w) A (AF (.ref it)) R E s:=by
 obtain⟨ro,rg,rc,rd⟩:=id hit;obtain⟨to,tg,_,tn,td⟩:=ht;unfold AF;refine Aa (AR (name:=A9 "__next__") hit.typeIs BY (A2 BY hit.typeIs DD ?_ (DM _)));show wpAny _ _ (field (.ref it) 0 >>= _) _ _ s;refine Aa (AU rg rd (x:=.ref a) rfl ?_);show wpAny _ _ (if (AO a==Ba)=true then _ else _) _ _ s;rw[if_neg (show ¬ (AO a==Ba)=true from fun z=>Bb z)];show wpAny _ _ (field (.ref it) 1 >>= _) _ _ s;refine Aa (AU rg rd (x:=.int i 0) rfl ?_);show wpAny _ _ (seqItems? (.ref a) >>= _) _ _ s;refine Aa (Bs tg td ?_);simp only[BO,hx];refine Aa (CH rg rd (by simp) (Ae ⟨v,rfl,Ae (k _ ⟨_,Cq _ rg (Dx (B9 rd _)),(DY ..).trans rc,?_⟩ (BZ ..))⟩));rw[B9 rd];simp[rawInt]
theorem zd1{it a:Addr}{i:Nat}{xs:Array Value}{R:Value->Shared->Prop}(hh:A.handled=none)(hit:IsTupIter s.heap it a i)(ht:IsTup s.heap a xs)(hx:xs[i]?=none)
   (k:∀ h' e,D5 it s.heap h'->(∃ o,h'.get? e=some o/\o.cls=.type "StopIteration")->E (.ref e) { s with heap:=h' }):wpAny (model prog w) A (AF (.ref it)) R E s:=by
 obtain⟨ro,rg,rc,rd⟩:=id hit;obtain⟨to,tg,_,tn,td⟩:=ht;unfold AF;refine Aa (AR (name:=A9 "__next__") hit.typeIs BY (A2 BY hit.typeIs DD ?_ (DM _)));show wpAny _ _ (field (.ref it) 0 >>= _) _ _ s;refine Aa (AU rg rd (x:=.ref a) rfl ?_);show wpAny _ _ (if (AO a==Ba)=true then _ else _) _ _ s;rw[if_neg (show ¬ (AO a==Ba)=true from fun z=>Bb z)];show wpAny _ _ (field (.ref it) 1 >>= _) _ _ s;refine Aa (AU rg rd (x:=.int i 0) rfl ?_);show wpAny _ _ (seqItems? (.ref a) >>= _) _ _ s;refine Aa (Bs tg td ?_);simp only[BO,hx];refine Aa (Ek (Aa (CH rg rd (by simp) ?_)));show wpAny _ _ (newExc (.type "StopIteration") [] >>= _) _ _ _;simp only[newExc,newTuple];refine Aa (Aa (AJ (Aa (m:=firstArgMember _ _) (wpAny_of_eq (a:=Ba) (by first | rfl | (simp only[firstArgMember];rfl)) (AJ ?_ (by size_fits)))) (by size_fits)));simp only[raiseNew];refine Aa (wpAny_handled ?_)
 first | rw[show A.in1.handled=none from hh] | rw[hh]
 refine Aa (Ae (wpAny_throw ?_));exact k _ _ (((BZ ..).extBut.push _).push _) ⟨_,An _ rfl,rfl⟩
theorem Sr.next{x:Sr}{it:Addr}{i:Nat}{xs:Array Value}{v:Value}{R:Value->Shared->Prop}(hit:x.at_ s.heap it i)(h:x.is s.heap xs)(hx:xs[i]?=some v)(k:∀ h',x.at_ h' it (i+1)->B4 it s.heap h'->R v { s with heap:=h' }) :
   wpAny (model prog w) A (AF (.ref it)) R E s:=by
 cases x with
 | l a=>exact wpAny_nextOf_list_item hit h hx k
 | t a=>exact zgy hit h hx k
theorem Sr.stop{x:Sr}{it:Addr}{i:Nat}{xs:Array Value}{R:Value->Shared->Prop}(hh:A.handled=none)(hit:x.at_ s.heap it i)(h:x.is s.heap xs)(hx:xs[i]?=none)
   (k:∀ h' e,D5 it s.heap h'->(∃ o,h'.get? e=some o/\o.cls=.type "StopIteration")->E (.ref e) { s with heap:=h' }):wpAny (model prog w) A (AF (.ref it)) R E s:=by
 cases x with
 | l a=>exact wpAny_nextOf_list_end hh hit h hx k
 | t a=>exact zd1 hh hit h hx k
end
theorem Sr.at_new{h:Heap}{x:Sr}{i:Addr}(g:h.get? i=some x.ob):x.at_ h i 0:=by
 cases x with
 | l a=>exact⟨_,g,rfl,rfl⟩
 | t a=>exact⟨_,g,rfl,rfl⟩
noncomputable abbrev zp1 (h:Heap) (x:Sr):Heap:=h.push x.ob
noncomputable abbrev zp2 (h:Heap) (x y:Sr):Heap:=(zp1 h x).push y.ob
noncomputable abbrev zp3 (h:Heap) (x y:Sr):Heap:=(zp2 h x y).push { cls:=.type "tuple",data:=.seq #[.ref h.objs.size,.ref (zp1 h x).objs.size] }
noncomputable abbrev zp4 (h:Heap) (x y:Sr):Heap:=(zp3 h x y).push { cls:=.type "tuple",data:=.seq #[.none,.none] }
noncomputable abbrev zp5 (h:Heap) (x y:Sr):Heap:=(zp4 h x y).push { cls:=.type "zip",data:=.fields #[.none,.bool false,.bool false,.ref (zp2 h x y).objs.size,.ref (zp3 h x y).objs.size] }
theorem zhf(x y:Sr)(xs ys:Array Value):Meets (Builtin.«zip.__new__» ⟨[.type "zip",.ref x.ad,.ref y.ad],[]⟩) (fun _ R s=>x.is s.heap xs/\y.is s.heap ys/\R (.ok (.ret (.ref (zp4 s.heap x y).objs.size))) { s with heap:=zp5 s.heap x y }) :=
 .of_wp fun prog w A R s h=>by
   obtain⟨hp,g,d,tk,os⟩:=s;obtain⟨h1,h2,h⟩:=h;have hsub:=sub_zip;have hx:x.is (D6 ⟨hp,g,d,tk,os⟩) xs:=h1;have hy:y.is (D6 ⟨hp.push x.ob,g,d,tk,os⟩) ys:=Sr.is_keep h2 fun u q=>Ad _ q
   wp_walk using Sr.iter hx,Sr.iter hy
   exact⟨_,rfl,h⟩
structure Zp(z TI TO i j:Addr):Prop where
 TIz:TI≠z
 TOz:TO≠z
 iz:i≠z
 jz:j≠z
 TIO:TI≠TO
 TIi:TI≠i
 TIj:TI≠j
 TOi:TO≠i
 TOj:TO≠j
 ij:i≠j
theorem neq{a b:Nat}(h:a≠b):(show Addr from a)≠(show Addr from b):=h
theorem Zp.new(n:Nat):Zp (n+4) (n+2) (n+3) n (n+1):=⟨neq (by omega),neq (by omega),neq (by omega),neq (by omega),neq (by omega),neq (by omega),neq (by omega),neq (by omega),neq (by omega),neq (by omega)⟩
section
variable {prog:Program} {w:World} {A:Around} {E:Value->Shared->Prop} {s:Shared}
theorem zh8{x y:Sr}{xs ys:Array Value}{R:Value->Shared->Prop}(hx:x.is s.heap xs)(hy:y.is s.heap ys)
   (k:∀ h',IsZip h' (s.heap.objs.size+4) (s.heap.objs.size+2) (s.heap.objs.size+3) .none->IsPair h' (s.heap.objs.size+2) (.ref s.heap.objs.size) (.ref (s.heap.objs.size+1))->IsPair h' (s.heap.objs.size+3) .none .none ->
     x.at_ h' s.heap.objs.size 0->y.at_ h' (s.heap.objs.size+1) 0->(∀ c u,s.heap.get? c=some u->h'.get? c=some u)->R (.ref (s.heap.objs.size+4)) { s with heap:=h' }):wpAny (model prog w) A (call (.type "zip") [.ref x.ad,.ref y.ad]) R E s:=by
 refine callType_new F.called_zip (by decide) (F.typeCall_zip_2 _ _) (F.newCall_zip_2 _ _) (fun obj=>F.args_object_init_3 obj _ _) F.entry_zip_new (zhf x y xs ys) ⟨hx,hy,?_⟩;have e1:(zp1 s.heap x).objs.size=s.heap.objs.size+1:=A3 ..;have e2:(zp2 s.heap x y).objs.size=s.heap.objs.size+2:=(A3 ..).trans (by rw[e1]);have e3:(zp3 s.heap x y).objs.size=s.heap.objs.size+3:=(A3 ..).trans (by rw[e2]);have e4:(zp4 s.heap x y).objs.size=s.heap.objs.size+4:=(A3 ..).trans (by rw[e3]);have up:∀ c u,(zp1 s.heap x).get? c=some u->(zp5 s.heap x y).get? c=some u:=fun c u q=>Ad _ (Ad _ (Ad _ (Ad _ q)));have f5:(zp5 s.heap x y).get? (zp4 s.heap x y).objs.size=some { cls:=.type "zip",data:=.fields #[.none,.bool false,.bool false,.ref (zp2 s.heap x y).objs.size,.ref (zp3 s.heap x y).objs.size] }:=An _ rfl;have f4:(zp5 s.heap x y).get? (zp3 s.heap x y).objs.size=some { cls:=.type "tuple",data:=.seq #[.none,.none] }:=Ad _ (An _ rfl);have f3:(zp5 s.heap x y).get? (zp2 s.heap x y).objs.size=some { cls:=.type "tuple",data:=.seq #[.ref s.heap.objs.size,.ref (zp1 s.heap x).objs.size] }:=Ad _ (Ad _ (An _ rfl));have f2:(zp5 s.heap x y).get? (zp1 s.heap x).objs.size=some y.ob:=Ad _ (Ad _ (Ad _ (An _ (by cases y <;> rfl))));have f1:(zp5 s.heap x y).get? s.heap.objs.size=some x.ob:=up _ _ (An _ (by cases x <;> rfl));rw[e2,e3,e4] at f5;rw[e1,e2] at f3;rw[e3] at f4;rw[e1] at f2;show _/\_;rw[e4];exact⟨⟨_,f5,rfl⟩,k _ f5 f3 f4 (Sr.at_new f1) (Sr.at_new f2) fun c u q=>up c u (Ad _ q)⟩
theorem ziJ{z TI TO i j:Addr}{x y:Sr}{n m:Nat}{xs ys:Array Value}{u v a b:Value}{R:Option Value->Shared->Prop}(D:Zp z TI TO i j)(xz:x.ad≠z/\x.ad≠TO/\x.ad≠i/\x.ad≠j)(yz:y.ad≠z/\y.ad≠TO/\y.ad≠i/\y.ad≠j)
   (hz:IsZip s.heap z TI TO .none) (hTI:IsPair s.heap TI (.ref i) (.ref j)) (hTO:IsPair s.heap TO a b) (hi:x.at_ s.heap i n) (hj:y.at_ s.heap j m) (hx:x.is s.heap xs) (hy:y.is s.heap ys) (gx:xs[n]?=some u) (gy:ys[m]?=some v)
   (k:∀ h',IsZip h' z TI TO (rawInt s.heap.objs.size)->IsPair h' TI (.ref i) (.ref j)->IsPair h' TO u v->x.at_ h' i (n+1)->y.at_ h' j (m+1)->IsPair h' s.heap.objs.size u v ->
     (∀ c o,c≠z->c≠TO->c≠i->c≠j->s.heap.get? c=some o->h'.get? c=some o)->R (some (.ref s.heap.objs.size)) { s with heap:=h' }):wpAny (model prog w) A (pyNext (.ref z)) R E s:=by
 have ty:s.TypeIs (.ref z) "zip":=⟨_,hz,rfl⟩
 unfold pyNext;refine Aa (CQ (AR (name:=A9 "__next__") ty F.slot_zip_next (A2 F.slot_zip_next ty F.entry_zip_next ?_ (F.args_zip_next_1 _))));show wpAny _ _ (field (.ref z) 2 >>= _) _ _ _;refine Aa (AU hz rfl (x:=.bool false) rfl ?_);show wpAny _ _ (field (.ref z) 3 >>= _) _ _ _;refine Aa (AU hz rfl (x:=.ref TI) rfl (Aa (Bs hTI rfl ?_)));show wpAny _ _ (A7 (.ref z) >>= _) _ _ _;unfold A7;refine Aa (Aa (AU hz rfl (x:=.none) rfl (Ae ?_)));simp only[if_true];refine Aa (Ek (Aa (AU hz rfl (x:=.ref TO) rfl (Aa (Bv hz (by simp) fun g1 z1 s1=>?_)))))
 replace z1:IsZip g1 z TI TO .ellipsis:=z1
 have k1:∀ c o,c≠z->s.heap.get? c=some o->g1.get? c=some o:=fun c o nc q=>s1.extBut c o nc q;simp only[D9,El,Dl,Ce];refine Aa (Aa (Aa (CS ?_)));show wpAny _ _ (AF (.ref i) >>= _) _ _ _;refine Aa (Sr.next (Sr.at_keep hi fun o q=>k1 _ o D.iz q) (Sr.is_keep hx fun o q=>k1 _ o xz.1 q) gx fun g2 i2 s2=>Ae ?_);have k2:∀ c o,c≠z->c≠i->s.heap.get? c=some o->g2.get? c=some o:=fun c o nc ni q=>s2.extBut c o ni (k1 c o nc q);have o2:IsPair g2 TO a b:=k2 _ _ D.TOz D.TOi hTO;refine Aa (Bs o2 rfl (Aa (CA o2 fun g3 o3 s3=>(Aa (D7 (Ae ?_))))))
 replace o3:IsPair g3 TO u b:=o3
 have k3:∀ c o,c≠z->c≠i->c≠TO->s.heap.get? c=some o->g3.get? c=some o:=fun c o nc ni nt q=>s3.extBut c o nt (k2 c o nc ni q);refine Aa (Aa (CS ?_));show wpAny _ _ (AF (.ref j) >>= _) _ _ _;refine Aa (Sr.next (Sr.at_keep hj fun o q=>k3 _ o D.jz D.ij.symm D.TOj.symm q) (Sr.is_keep hy fun o q=>k3 _ o yz.1 yz.2.2.1 yz.2.1 q) gy fun g4 j4 s4=>Ae ?_);have o4:IsPair g4 TO u b:=s4.extBut _ _ D.TOj o3;refine Aa (Bs o4 rfl (Aa (CA o4 fun g5 o5 s5=>(Aa (D7 (Ae (Ae ?_)))))))
 replace o5:IsPair g5 TO u v:=o5
 refine Aa (Bs o5 rfl (Aa (wpAny_newTuple ?_)));have sz:g5.objs.size=s.heap.objs.size:=by rw[s5.1,s4.1,s3.1,s2.1,s1.1]
 have z5:IsZip g5 z TI TO .ellipsis:=s5.extBut _ _ D.TOz.symm (s4.extBut _ _ D.jz.symm (s3.extBut _ _ D.TOz.symm (s2.extBut _ _ D.iz.symm z1)));have k5:∀ c o,c≠z->c≠TO->c≠i->c≠j->s.heap.get? c=some o->g5.get? c=some o:=fun c o c1 c2 c3 c4 q=>s5.extBut c o c2 (s4.extBut c o c4 (k3 c o c1 c3 c2 q));have i5:x.at_ g5 i (n+1):=Sr.at_keep i2 fun o q=>s5.extBut _ _ D.TOi.symm (s4.extBut _ _ D.ij (s3.extBut _ _ D.TOi.symm q));have j5:y.at_ g5 j (m+1):=Sr.at_keep j4 fun o q=>s5.extBut _ _ D.TOj.symm q;have lz:z < g5.objs.size:=Aj z5;show wpAny _ _ (Ca (.ref z) (.ref g5.objs.size) >>= _) _ _ _;unfold Ca;have z6:IsZip (g5.push { cls:=.type "tuple",data:=.seq #[u,v] }) z TI TO .ellipsis:=Ad _ z5;refine Aa (Aa (Bv z6 (by simp) fun g7 z7 s7=>?_))
 replace z7:IsZip g7 z TI TO (rawInt g5.objs.size):=z7
 refine Bv z7 (by simp) fun g8 z8 s8=>?_
 replace z8:IsZip g8 z TI TO (rawInt g5.objs.size):=z8
 have up:∀ c o,c≠z->g5.get? c=some o->g8.get? c=some o:=fun c o nc q=>s8.extBut c o nc (s7.extBut c o nc (Ad _ q));have t8:IsPair g8 g5.objs.size u v:=s8.extBut _ _ (Ct lz) (s7.extBut _ _ (Ct lz) (An _ rfl));rw[sz] at z8 t8;refine Ae ⟨_,rfl,Ae ?_⟩;show R (some (.ref g5.objs.size)) _;rw[sz];exact k g8 z8 (up _ _ D.TIz (k5 _ _ D.TIz D.TIO D.TIi D.TIj hTI)) (up _ _ D.TOz o5) (Sr.at_keep i5 fun o q=>up _ o D.iz q) (Sr.at_keep j5 fun o q=>up _ o D.jz q) t8 fun c o c1 c2 c3 c4 q=>up c o c1 (k5 c o c1 c2 c3 c4 q)
theorem zkd{z TI TO i j:Addr}{x y:Sr}{n m:Nat}{xs ys:Array Value}{a b:Value}{R:Option Value->Shared->Prop}(hh:A.handled=none)(D:Zp z TI TO i j)(xz:x.ad≠z/\x.ad≠TO/\x.ad≠i/\x.ad≠j)(yz:y.ad≠z/\y.ad≠TO/\y.ad≠i/\y.ad≠j)
   (hz:IsZip s.heap z TI TO .none) (hTI:IsPair s.heap TI (.ref i) (.ref j)) (hTO:IsPair s.heap TO a b) (hi:x.at_ s.heap i n) (hj:y.at_ s.heap j m) (hx:x.is s.heap xs) (hy:y.is s.heap ys) (he:xs[n]?=none\/ys[m]?=none)
   (k:∀ h',(∀ c o,c≠z->c≠TO->c≠i->c≠j->s.heap.get? c=some o->h'.get? c=some o)->R none { s with heap:=h' }):wpAny (model prog w) A (pyNext (.ref z)) R E s:=by
 have ty:s.TypeIs (.ref z) "zip":=⟨_,hz,rfl⟩
 have halt:∀ h' e,(∀ c o,c≠z->c≠TO->c≠i->c≠j->s.heap.get? c=some o->h'.get? c=some o)->(∃ o,h'.get? e=some o/\o.cls=.type "StopIteration") ->
     wpAny (model prog w) A (do if <-isInstance (.ref e) (.type "StopIteration") then pure none else throw (AO e)) R E { s with heap:=h' }:=fun h' e q ⟨o,g,c⟩ =>
   Aa (wpAny_isInstance (T:="StopIteration") (b:=true) ⟨o,g,c⟩ isSubtype_stop (Ae (k h' q)))
 unfold pyNext;refine Aa (CQ (AR (name:=A9 "__next__") ty F.slot_zip_next (A2 F.slot_zip_next ty F.entry_zip_next ?_ (F.args_zip_next_1 _))));show wpAny _ _ (field (.ref z) 2 >>= _) _ _ _;refine Aa (AU hz rfl (x:=.bool false) rfl ?_);show wpAny _ _ (field (.ref z) 3 >>= _) _ _ _;refine Aa (AU hz rfl (x:=.ref TI) rfl (Aa (Bs hTI rfl ?_)));show wpAny _ _ (A7 (.ref z) >>= _) _ _ _;unfold A7;refine Aa (Aa (AU hz rfl (x:=.none) rfl (Ae ?_)));simp only[if_true];refine Aa (Ek (Aa (AU hz rfl (x:=.ref TO) rfl (Aa (Bv hz (by simp) fun g1 z1 s1=>?_)))))
 replace z1:IsZip g1 z TI TO .ellipsis:=z1
 have k1:∀ c o,c≠z->s.heap.get? c=some o->g1.get? c=some o:=fun c o nc q=>s1.extBut c o nc q;have sep:∀ {g:Heap} {e:Addr} {o:Obj},IsZip g z TI TO .ellipsis->g.get? e=some o->o.cls=.type "StopIteration"->e≠z:=fun {g e o} q h c r=>by
   subst r;rw[q] at h;cases h;simp at c
 simp only[D9,El,Dl,Ce];refine Aa (Aa (Aa (CS ?_)));show wpAny _ _ (AF (.ref i) >>= _) _ _ _
 cases gx:xs[n]? with
 | none =>
   refine Aa (Sr.stop hh (Sr.at_keep hi fun o q=>k1 _ o D.iz q) (Sr.is_keep hx fun o q=>k1 _ o xz.1 q) gx ?_);rintro g2 e s2 ⟨oe,he,ce⟩;have z2:IsZip g2 z TI TO .ellipsis:=s2 _ _ D.iz.symm z1;exact Bv z2 (by simp) fun g3 _ s3=>halt g3 e (fun c o c1 _ c3 _ q=>s3.extBut c o c1 (s2 c o c3 (k1 c o c1 q))) ⟨oe,s3.extBut _ _ (sep z2 he ce) he,ce⟩
 | some u =>
   have gy:ys[m]?=none:=he.resolve_left (by rw[gx];simp);refine Aa (Sr.next (Sr.at_keep hi fun o q=>k1 _ o D.iz q) (Sr.is_keep hx fun o q=>k1 _ o xz.1 q) gx fun g2 i2 s2=>Ae ?_);have k2:∀ c o,c≠z->c≠i->s.heap.get? c=some o->g2.get? c=some o:=fun c o nc ni q=>s2.extBut c o ni (k1 c o nc q);have o2:IsPair g2 TO a b:=k2 _ _ D.TOz D.TOi hTO;refine Aa (Bs o2 rfl (Aa (CA o2 fun g3 o3 s3=>(Aa (D7 (Ae ?_))))));have k3:∀ c o,c≠z->c≠i->c≠TO->s.heap.get? c=some o->g3.get? c=some o:=fun c o nc ni nt q=>s3.extBut c o nt (k2 c o nc ni q);refine Aa (Aa (CS ?_));show wpAny _ _ (AF (.ref j) >>= _) _ _ _;refine Aa (Sr.stop hh (Sr.at_keep hj fun o q=>k3 _ o D.jz D.ij.symm D.TOj.symm q) (Sr.is_keep hy fun o q=>k3 _ o yz.1 yz.2.2.1 yz.2.1 q) gy ?_);rintro g4 e s4 ⟨oe,he,ce⟩;have z4:IsZip g4 z TI TO .ellipsis:=s4 _ _ D.jz.symm (s3.extBut _ _ D.TOz.symm (s2.extBut _ _ D.iz.symm z1));exact Bv z4 (by simp) fun g5 _ s5=>halt g5 e (fun c o c1 c2 c3 c4 q=>s5.extBut c o c1 (s4 c o c4 (k3 c o c1 c3 c2 q))) ⟨oe,s5.extBut _ _ (sep z4 he ce) he,ce⟩
end
noncomputable def Sr.sq(H:Hp)(xs:List V):Sr->Prop
 | .l a=>H a=some (.lst xs)\/∃ o,H a=some (.frz o (.lst xs))
 | .t a=>H a=some (.tup xs)
theorem Sr.sq_ne{H:Hp}{xs:List V}{x:Sr}{b:Addr}(h:x.sq H xs)(hb:H b=none):x.ad≠b:=by
 cases x with
 | l a=>rcases h with h | ⟨o,h⟩ <;> exact zax h hb
 | t a=>exact zax (show H a=some (.tup xs) from h) hb
theorem Sr.sq_inj{H:Hp}{xs ys:List V}{x:Sr}(h:x.sq H xs)(h':x.sq H ys):xs=ys:=by
 cases x with
 | l a=>rcases h with h | ⟨o,h⟩ <;> rcases h' with h' | ⟨o',h'⟩ <;> rw[h] at h' <;> cases h' <;> rfl
 | t a =>
   have h:H a=some (.tup xs):=h;have h':H a=some (.tup ys):=h';rw[h] at h';cases h';rfl
theorem Sr.sq_is{X:Cx}{pins:List (Addr×Obj)}{σ:L2.St}{H:Hp}{s:Shared}{xs:List V}{x:Sr}(I:Inv X pins σ H s)(h:x.sq H xs):∃ its:List Value,Vals xs its/\x.is s.heap its.toArray:=by
 cases x with
 | l a =>
   obtain⟨its,rv,p,_⟩:=I.list (show SqL X.K H a xs from .inl h);exact⟨its,rv,p.isList⟩
 | t a =>
   obtain⟨its,rv,p,_⟩:=I.tuple (SqT.of (K:=X.K) h);exact⟨its,rv,p⟩
noncomputable def Itz(x y:Sr):It :=
 ⟨fun i H=>∃ xs ys u v,x.sq H xs/\y.sq H ys/\xs[i]?=some u/\ys[i]?=some v,fun i H r H'=>∃ p u v,H p=none/\H'=upd H p (.tup [u,v])/\r=.ref p/\(∀ xs,x.sq H xs->xs[i]?=some u)/\∀ ys,y.sq H ys->ys[i]?=some v,
   fun i H=>∃ xs ys,x.sq H xs/\y.sq H ys/\(xs.length<=i\/ys.length<=i)⟩
theorem ziN{P:Program}{w:World}{K:Ab}{elts:List Expr}{x1}{pos:Pos}(x y:Sr){z TI TO i j:Addr}(D:Zp z TI TO i j) :
   Turn P w K (.Tuple elts x1 pos) (Itz x y) [z,TI,TO,i,j] z (fun n h=>IsZip h z TI TO .none/\IsPair h TI (.ref i) (.ref j)/\(∃ a b,IsPair h TO a b)/\x.at_ h i n/\y.at_ h j n) where
 mem:=by simp
 obj:=fun n h st b hb=>by
   obtain⟨hz,hTI,⟨a,c,hTO⟩,hi,hj⟩:=st;simp only[AQ,AI,or_false] at hb
   rcases hb with rfl | rfl | rfl | rfl | rfl
   . exact⟨_,hz,fun v q=>by cases q⟩
   . exact⟨_,hTI,fun v q=>by cases q⟩
   . exact⟨_,hTO,fun v q=>by cases q⟩
   . obtain⟨o,vs,g,d⟩:=Sr.at_get hi;exact⟨o,g,fun v q=>by rw[d] at q;cases q⟩
   . obtain⟨o,vs,g,d⟩:=Sr.at_get hj;exact⟨o,g,fun v q=>by rw[d] at q;cases q⟩
 keep:=fun n h h' st k=>by
   obtain⟨hz,hTI,⟨a,c,hTO⟩,hi,hj⟩:=st;exact⟨k z (by simp) _ hz,k TI (by simp) _ hTI,⟨a,c,k TO (by simp) _ hTO⟩,Sr.at_keep hi fun o q=>k i (by simp) o q,Sr.at_keep hj fun o q=>k j (by simp) o q⟩
 item:=by
   intro X hP hw hK hc n pins s σ H E I hf st hg;subst hP hw hK;obtain⟨xs,ys,u,v,hx,hy,gu,gv⟩:=hg;obtain⟨hz,hTI,⟨a,c,hTO⟩,hi,hj⟩:=st;obtain⟨its,rx,ix⟩:=Sr.sq_is I hx;obtain⟨jts,ry,iy⟩:=Sr.sq_is I hy;obtain⟨u',gu',ru⟩:=rx.get gu;obtain⟨v',gv',rv⟩:=ry.get gv;have fz:=(hf z (by simp)).1;have fTO:=(hf TO (by simp)).1;have fi:=(hf i (by simp)).1;have fj:=(hf j (by simp)).1;refine ziJ D ⟨Sr.sq_ne hx fz,Sr.sq_ne hx fTO,Sr.sq_ne hx fi,Sr.sq_ne hx fj⟩ ⟨Sr.sq_ne hy fz,Sr.sq_ne hy fTO,Sr.sq_ne hy fi,Sr.sq_ne hy fj⟩ hz hTI hTO hi hj ix iy (u:=u') (v:=v') (by simpa using gu') (by simpa using gv') fun h1 z1 ti1 to1 i1 j1 t1 k1=>?_;refine⟨_,rfl,wpAny_letOwnedTupleGo_zip (s:={ s with heap:=h1 }) z1 fun h2 z2 b2=>?_⟩;have up:∀ b o,b≠z->h1.get? b=some o->h2.get? b=some o:=fun b o nb q=>(b2.2 b nb).trans q;have k2:∀ b o,b ∉ [z,TI,TO,i,j]->s.heap.get? b=some o->h2.get? b=some o:=fun b o hb q=>by
     simp only[AQ,AI,or_false,not_or] at hb;exact up b o hb.1 (k1 b o hb.1 hb.2.2.1 hb.2.2.2.1 hb.2.2.2.2 q)
   have lt:∀ b∈[z,TI,TO,i,j],b < s.heap.objs.size:=fun b hb=>by
     simp only[AQ,AI,or_false] at hb
     rcases hb with rfl | rfl | rfl | rfl | rfl
     . exact Aj hz
     . exact Aj hTI
     . exact Aj hTO
     . obtain⟨o,vs,g,d⟩:=Sr.at_get hi;exact Aj g
     . obtain⟨o,vs,g,d⟩:=Sr.at_get hj;exact Aj g
   have t2:h2.get? s.heap.objs.size=some { cls:=.type "tuple",data:=.seq #[u',v'] }:=up _ _ (Ct (lt z (by simp))) t1;have st2:IsZip h2 z TI TO .none/\IsPair h2 TI (.ref i) (.ref j)/\(∃ a b,IsPair h2 TO a b)/\x.at_ h2 i (n+1)/\y.at_ h2 j (n+1) :=
     ⟨z2,up _ _ D.TIz ti1,⟨_,_,up _ _ D.TOz to1⟩,Sr.at_keep i1 fun o q=>up _ o D.iz q,Sr.at_keep j1 fun o q=>up _ o D.jz q⟩
   refine⟨.ref s.heap.objs.size,upd H s.heap.objs.size (.tup [u,v]),?_,rfl,⟨_,u,v,I.hok.fresh (Af _),rfl,rfl,fun zs h=>by rw[Sr.sq_inj h hx];exact gu,fun zs h=>by rw[Sr.sq_inj h hy];exact gv⟩,st2,fun b hb=>?_⟩
   . refine Inv.turnNew (s:=s) (h':=h2) (t':=s.toks) I hf k2 (Af _) (fun b hb ob q=>?_) ⟨by show 2<=sizeLine;decide,[u',v'],.cons ru (.cons rv .nil),⟨_,t2,rfl,rfl,_,rfl⟩⟩;simp only[AQ,AI,or_false] at hb
     rcases hb with rfl | rfl | rfl | rfl | rfl
     . exact⟨_,z2⟩
     . exact⟨_,st2.2.1⟩
     . obtain⟨_,_,q⟩:=st2.2.2.1;exact⟨_,q⟩
     . obtain⟨o,vs,g,d⟩:=Sr.at_get st2.2.2.2.1;exact⟨o,g⟩
     . obtain⟨o,vs,g,d⟩:=Sr.at_get st2.2.2.2.2;exact⟨o,g⟩
   . rw[zaW (AC (lt b hb))];exact (hf b hb).1
 done:=by
   intro X hP hw hK hc n pins s σ H E I hf st hg;subst hP hw hK;obtain⟨xs,ys,hx,hy,he⟩:=hg;obtain⟨hz,hTI,⟨a,c,hTO⟩,hi,hj⟩:=st;obtain⟨its,rx,ix⟩:=Sr.sq_is I hx;obtain⟨jts,ry,iy⟩:=Sr.sq_is I hy;have fz:=(hf z (by simp)).1;have fTO:=(hf TO (by simp)).1;have fi:=(hf i (by simp)).1;have fj:=(hf j (by simp)).1;have l1:=rx.length;have l2:=ry.length;exact zkd (I.ok.hd hc) D ⟨Sr.sq_ne hx fz,Sr.sq_ne hx fTO,Sr.sq_ne hx fi,Sr.sq_ne hx fj⟩ ⟨Sr.sq_ne hy fz,Sr.sq_ne hy fTO,Sr.sq_ne hy fi,Sr.sq_ne hy fj⟩ hz hTI hTO hi hj ix iy (by
     rcases he with h | h
     . exact .inl (by simp;omega)
     . exact .inr (by simp;omega)) fun h' k=>⟨rfl,Inv.turnAll (t':=s.toks) I hf fun b o hb q=>by
       simp only[AQ,AI,or_false,not_or] at hb;exact k b o hb.1 hb.2.2.1 hb.2.2.2.1 hb.2.2.2.2 q⟩
 self:=fun _ _ _ _ _ st h=>wpAny_pyIter_zip st.1 h
section
variable {X:Cx} {K:Ab} {H:Hp} {io:List Addr} {ma mb:ME} {st st':Sto}
noncomputable def seqD(s:Sto):D->Option (List D×List (Nat×List D))
 | .ref n=>(zcd s n).map fun ds=>(ds,[(n,ds)])
 | .tup ds=>some (ds,[])
 | _=>none
noncomputable def pairD(a b:List D):List D:=(a.zip b).map fun p=>.tup [p.1,p.2]
noncomputable def zipW(x y:D)(s:Sto):Option (Wk×Sto):=(seqD s x).bind fun (a,f)=>(seqD s y).map fun (b,g)=>(⟨pairD a b,f++g⟩,s)
noncomputable def mZip(ma mb:ME):MI:=fun ρ st=>(ma ρ st).bind fun (x,s1)=>(mb ρ s1).bind fun (y,s2)=>zipW x y s2
theorem zga{d:D}{v:V}{ds:List D}{g:List (Nat×List D)}(S:StR K H io st)(R:Rep K H io v d)(h:seqD st d=some (ds,g)):∃ x:Sr,v=.ref x.ad/\(∃ xs,x.sq H xs) /\
   ∀ H1 ka s1,Ext io ka H H1->StR K H1 (io++ka) s1->(∀ p,p∈g->s1[p.1]?=some (.lst p.2)\/s1[p.1]?=some (.fz p.2))->∃ xs,x.sq H1 xs/\Reps K H1 (io++ka) xs ds:=by
 cases d with
 | ref n =>
   obtain⟨l,e,q⟩:=zah h;cases q;obtain⟨p,rfl,hp⟩:=R;refine⟨.l p,rfl,?_,fun H1 ka s1 X1 S1 hs=>?_⟩
   . unfold zcd at e
     split at e
     . rename_i o he;cases e;obtain⟨xs,q,_⟩:=S.ob n p _ hp he;exact⟨xs,.inl q⟩
     . rename_i o he;cases e;obtain⟨ob,xs,q,_⟩:=S.ob n p _ hp he;exact⟨xs,.inr ⟨ob,q⟩⟩
     . cases e
   . rcases hs (n,ds) Au with q | q
     . obtain⟨xs,q',r⟩:=S1.ob n p _ (zbM hp) q;exact⟨xs,.inl q',r⟩
     . obtain⟨ob,xs,q',r⟩:=S1.ob n p _ (zbM hp) q;exact⟨xs,.inr ⟨ob,q'⟩,r⟩
 | tup ts =>
   cases h;obtain⟨p,xs,rfl,hp,r⟩:=R;exact⟨.t p,rfl,⟨xs,hp⟩,fun H1 ka s1 X1 S1 _=>⟨xs,X1.sqT S p xs hp,r.ext S X1⟩⟩
 | _=>cases h
theorem zhE{a b:List D}{i:Nat}{d:D}(h:(pairD a b)[i]?=some d):∃ x y,a[i]?=some x/\b[i]?=some y/\d=.tup [x,y]:=by
 unfold pairD at h;rw[AE] at h;obtain⟨⟨x,y⟩,e,q⟩:=zah h;rw[List.getElem?_zip_eq_some] at e;exact⟨x,y,e.1,e.2,q.symm⟩
theorem boot_zip:bootBuiltins "zip"=some (.type "zip"):=by decide +kernel
theorem zlQ{elts:List Expr}{x1}{tp:Pos}{a b:Expr}{p pos:Pos}(hg:Gl X "zip")(hm:X.mg "zip"=none)(ha:SE X a ma)(hb:SE X b mb)(hs:starEach [a,b] X.env=[(false,eval a X.env),(false,eval b X.env)]:=by rfl)
   (hs2:starEach [b] X.env=[(false,eval b X.env)]:=by rfl) (hpl:(backTo pos (starEach [b] X.env)).any (·.1)=false:=by rfl):SI X (.Tuple elts x1 tp) (.Call (.Name "zip" p) [a,b] [] pos) (mZip ma mb):=by
 rintro pins s σ H R I ⟨ρ,st,io,W,st',E,S,e,k⟩;obtain⟨⟨x,s1⟩,e1,e⟩:=zad e;obtain⟨⟨y,s2⟩,e2,e⟩:=zad e;obtain⟨⟨as,f⟩,e3,e⟩:=zad e;obtain⟨⟨bs,g⟩,e4,e⟩:=zah e;cases e;have hs1:starEach [a,b] X.env=(false,eval a X.env)::starEach [b] X.env:=by rw[hs,hs2]
 refine Call_ (zfK I hg hm boot_zip (Bt (thn (zaa ha (zaa hb zaf hs2) hs1 pos pins s σ H (fun vs H'=>∃ ka,Ext io ka H H'/\StR X.K H' (io++ka) st'/\Reps X.K H' (io++ka) vs [x,y]) I ⟨ρ,st,io,[x,y],st',E,S,zd2 e1 (zd2 e2 rfl),fun vs H1 k1 X1 S1 R1=>⟨k1,X1,S1,R1⟩⟩) ?_) hs1 hpl));rintro us t1 ⟨vs,H1,I1,r1,k1,X1,S1,R1⟩;obtain⟨v,u,rfl,Rx,Ry⟩:=R1.two;obtain⟨v',u',rfl,rv,ru⟩:=r1.two;obtain⟨xx,rfl,⟨xs,hx⟩,kx⟩:=zga S1 Rx e3;obtain⟨yy,rfl,⟨ys,hy⟩,ky⟩:=zga S1 Ry e4;cases rv;cases ru;obtain⟨its,vx,ix⟩:=Sr.sq_is I1 hx;obtain⟨jts,vy,iy⟩:=Sr.sq_is I1 hy;refine zh8 ix iy fun h' hz hTI hTO hi hj kk=>wpAny_pyIter_zip hz ?_;refine⟨_,_,_,_,H1,rfl,I1.kept (t':=t1.toks) kk,ziN xx yy (Zp.new t1.heap.objs.size),⟨hz,hTI,⟨_,_,hTO⟩,hi,hj⟩,fun b hb=>?_,?_⟩
 . have hle:t1.heap.objs.size<=b:=by
     simp only[AQ,AI,or_false] at hb
     rcases hb with rfl | rfl | rfl | rfl | rfl
     . exact Cp _ 4
     . exact Cp _ 2
     . exact Cp _ 3
     . exact Af _
     . exact Cp _ 1
   exact I1.fpOk hle (I1.hok.fresh hle)
 . refine k _ H1 k1 X1 S1 ?_;have st1:∀ {s3:Sto},stays ⟨pairD as bs,f++g⟩ s3->(∀ p,p∈f->s3[p.1]?=some (.lst p.2)\/s3[p.1]?=some (.fz p.2))/\∀ p,p∈g->s3[p.1]?=some (.lst p.2)\/s3[p.1]?=some (.fz p.2):=fun {s3} h=>⟨fun p hp=>h p (Be _ hp),fun p hp=>h p (AN _ hp)⟩
   have len:∀ {a b:List D},(pairD a b).length=min a.length b.length:=fun {a b}=>by unfold pairD;rw[Aq,List.length_zip]
   refine⟨fun i d H2 k2 s3 hd X2 S2 hs=>?_,fun H2 k2 s3 X2 S2 hs=>?_,fun H2 k2 s3 i hi X2 S2 hs=>?_⟩
   . obtain⟨xs2,qx,rx⟩:=kx H2 k2 s3 X2 S2 (st1 hs).1;obtain⟨ys2,qy,ry⟩:=ky H2 k2 s3 X2 S2 (st1 hs).2;obtain⟨dx,dy,g1,g2,rfl⟩:=zhE hd;obtain⟨u1,gu,ru⟩:=rx.get g1;obtain⟨v1,gv,rv⟩:=ry.get g2;refine⟨⟨xs2,ys2,u1,v1,qx,qy,gu,gv⟩,fun r H' yl=>?_⟩;obtain⟨q,u2,v2,hq,rfl,rfl,yu,yv⟩:=yl;have e5:=yu xs2 qx;have e6:=yv ys2 qy;rw[gu] at e5;rw[gv] at e6;cases e5;cases e6;obtain⟨E',S'⟩:=zff (o:=.tup [u1,v1]) S2 hq;rw[Al] at S';refine⟨E',S',⟨q,_,rfl,zbU,?_⟩⟩;have r2:=ru.ext S2 E';have r3:=rv.ext S2 E';rw[Al] at r2 r3;exact Reps.cons r2 (Reps.cons r3 Reps.nil)
   . obtain⟨xs2,qx,rx⟩:=kx H2 k2 s3 X2 S2 (st1 hs).1;obtain⟨ys2,qy,ry⟩:=ky H2 k2 s3 X2 S2 (st1 hs).2;refine⟨xs2,ys2,qx,qy,?_⟩;show xs2.length<=(pairD as bs).length\/ys2.length<=(pairD as bs).length;rw[len,rx.length,ry.length];omega
   . obtain⟨xs2,qx,rx⟩:=kx H2 k2 s3 X2 S2 (st1 hs).1;obtain⟨ys2,qy,ry⟩:=ky H2 k2 s3 X2 S2 (st1 hs).2;refine⟨xs2,ys2,qx,qy,?_⟩;have hi:(pairD as bs).length<=i:=hi;rw[len] at hi;rw[rx.length,ry.length];omega
end
noncomputable def Caps(X:Cx)(fs:List Str):List Nat->List Str->Prop
 | [],[]=>True
 | j::js,x::xs=>(X.N[j]?=some x/\x∈fs)/\Caps X fs js xs
 | _,_=>False
noncomputable def Outs(X:Cx):List Str->Prop
 | []=>True
 | x::xs=>(X.env.kindOf x=some .cell\/X.env.kindOf x=some .free)/\Outs X xs
theorem Outs.get{X:Cx}:∀ {fs:List Str} {x:Str},Outs X fs->x∈fs->X.env.kindOf x=some .cell\/X.env.kindOf x=some .free
 | [],_,_,m=>nomatch m
 | y::ys,x,h,m=>by
   rcases List.mem_cons.mp m with rfl | m
   . exact h.1
   . exact Outs.get h.2 m
theorem Caps.get{X:Cx}{fs:List Str}:∀ {fr:List Nat} {xs:List Str} {i j:Nat} {x:Str},Caps X fs fr xs->fr[i]?=some j->xs[i]?=some x->X.N[j]?=some x/\x∈fs
 | [],[],i,j,x,_,h,_=>by simp at h
 | [],_::_,i,j,x,h,_,_=>h.elim
 | _::_,[],i,j,x,h,_,_=>h.elim
 | k::ks,y::ys,0,j,x,h,h1,h2=>by
   simp at h1 h2;subst h1 h2;exact h.1
 | k::ks,y::ys,i+1,j,x,h,h1,h2=>Caps.get (i:=i) h.2 (by simpa using h1) (by simpa using h2)
theorem zbY{X:Cx}{scope:Scope}{N':List Str}{nt:Nat}{fr:List Nat}(fs:List Str)(kind:scope.kind=.function)(nd:(scope.names.map (·.1)).Nodup)(hf:scope.names.all (fun p=>!(p.2==Ay) || fs.contains p.1)=true)
   (hb:fs.all (fun x=>scope.names.contains (x,Ay))=true) (len:N'.length=nt+fr.length) (cap:Caps X fs fr (N'.drop nt)) (out:Outs X fs):CompS X scope N' nt fr:=by
 refine⟨kind,nd,len,fun i j x h1 h2=>?_,fun x hx=>?_⟩
 . have h2':(N'.drop nt)[i]?=some x:=by rw[List.getElem?_drop];exact h2
   obtain⟨a,b⟩:=cap.get h1 h2';refine⟨a,?_⟩;have:=List.all_eq_true.mp hb x b;simpa using this
 . have:=List.all_eq_true.mp hf _ hx;have hm:x∈fs:=by simpa using this
   exact out.get hm
theorem zbL:bootBuiltins "len"=some (.builtin "len"):=by decide +kernel
theorem zlp:bootBuiltins "abs"=some (.builtin "abs"):=by decide +kernel
theorem zg4:bootBuiltins "all"=some (.builtin "all"):=by decide +kernel
theorem zjW:bootBuiltins "int"=some (.type "int"):=by decide +kernel
theorem zg3:bootBuiltins "bool"=some (.type "bool"):=by decide +kernel
theorem zic:bootBuiltins "str"=some (.type "str"):=by decide +kernel
theorem zg2:bootBuiltins "list"=some (.type "list"):=by decide +kernel
theorem zbK:bootBuiltins "tuple"=some (.type "tuple"):=by decide +kernel
noncomputable def mulA:G2:=orG mulD zmB
theorem zem{X:Cx}:OpM X (binaryOp .Mult) mulA:=zfB zkZ zjk
theorem ziz{K:Ab}{H:Hp}{io:List Addr}:∀ (ns:List Int),Reps K H io (ns.map V.int) (ns.map D.int)
 | []=>rfl
 | n::ns=>⟨_,_,rfl,rfl,ziz ns⟩
theorem ziW{K:Ab}{H:Hp}{a:Addr}{ns:List Int}{g:GN}{st:Sto}{E:XK}(hO:Only H)(hS:SqL K H a (ns.map V.int))(e:g [.kl (ns.map D.int)] []=some (.bl true,st)):spM K 1 g [.ref a] H (fun v _=>v=.bl true) E:=by
 have hF:SqF K H a (ns.map V.int):=by
   rcases hS with (h | h) | h
   . rcases hO a with z | ⟨o,xs,z⟩
     . rw[z] at h;cases h
     . rw[z] at h;cases h
   . exact .inl h
   . exact .inr h
 refine⟨_,[],[],_,_,rfl,Reps.cons (show Rep K H [] (.ref a) (.kl (ns.map D.int)) from ⟨a,_,rfl,hF,ziz ns⟩) Reps.nil,⟨rfl,List.nodup_nil,fun n b o h=>by simp at h⟩,e,fun v H' ka E' S' R'=>R'⟩
end L2.MP
namespace L2.MP
open PySem
structure Gr(st st':Sto):Prop where
 len:st.length<=st'.length
 old:∀ k,k < st.length->st'[k]?=st[k]?
theorem Gr.refl(st:Sto):Gr st st:=⟨Af _,fun _ _=>rfl⟩
theorem Gr.trans{a b c:Sto}(h:Gr a b)(h':Gr b c):Gr a c:=⟨AD h.len h'.len,fun k hk=>(h'.old k (Ao hk h.len)).trans (h.old k hk)⟩
theorem Gr.app(st:Sto)(l:List O):Gr st (st++l):=⟨by simp,fun k hk=>Ah hk⟩
theorem getElem?_lt{α:Type}{l:List α}{n:Nat}{x:α}(h:l[n]?=some x):n < l.length:=(List.getElem?_eq_some_iff.mp h).1
theorem zbh(st:Sto)(o:O):(st++[o])[st.length]?=some o:=getElem?_len st o
theorem zeq{W:Wk}{g:MG}{m:MS}:∀ {ds:List D} {Inv:Nat->Rho->Sto->Prop} {ρ:Rho} {st:Sto},Inv 0 ρ st->(∀ k ρ s,k<=ds.length->Inv k ρ s->walked W s=true) ->
   (∀ k d ρ s,ds[k]?=some d->Inv k ρ s->∃ ρ1 s1 ρ2 s2,g d ρ s=some (ρ1,s1)/\m ρ1 s1=some (.nx ρ2,s2)/\Inv (k+1) ρ2 s2)->∃ ρ' s',zdj W g m ds ρ st=some (.nx ρ',s')/\Inv ds.length ρ' s'
 | [],Inv,ρ,st,h0,wk,step=>⟨ρ,st,by unfold zdj;rw[if_pos (wk 0 ρ st (Af _) h0)],h0⟩
 | d::ds,Inv,ρ,st,h0,wk,step=>by
   obtain⟨ρ1,s1,ρ2,s2,e1,e2,h1⟩:=step 0 d ρ st rfl h0;obtain⟨ρ',s',e,h⟩:=zeq (W:=W) (g:=g) (m:=m) (ds:=ds) (Inv:=fun k=>Inv (k+1)) h1 (fun k ρ s hk h=>wk (k+1) ρ s (BU hk) h) (fun k d ρ s hd h=>step (k+1) d ρ s (by simpa using hd) h);refine⟨ρ',s',?_,h⟩;unfold zdj;rw[if_pos (wk 0 ρ st (A8 _) h0),e1];simp only[Ac,e2];exact e
theorem zlo{W:Wk}{g:MG}{c:MT}{m:ME}:∀ {ds:List D} {Inv:Nat->List D->Rho->Sto->Prop} {acc:List D} {ρ:Rho} {st:Sto},Inv 0 acc ρ st->(∀ k a ρ s,k<=ds.length->Inv k a ρ s->walked W s=true) ->
   (∀ k d a ρ s,ds[k]?=some d->Inv k a ρ s->∃ ρ1 s1 b s2,g d ρ s=some (ρ1,s1)/\c ρ1 s1=some (b,s2)/\((b=true/\∃ x s3,m ρ1 s2=some (x,s3)/\Inv (k+1) (a++[x]) ρ1 s3)\/(b=false/\Inv (k+1) a ρ1 s2))) ->
   ∃ xs ρ' s',mCI W g c m ds ρ st=some (xs,s')/\Inv ds.length (acc++xs) ρ' s'
 | [],Inv,acc,ρ,st,h0,wk,step=>⟨[],ρ,st,by unfold mCI;rw[if_pos (wk 0 acc ρ st (Af _) h0)],by rw[Al];exact h0⟩
 | d::ds,Inv,acc,ρ,st,h0,wk,step=>by
   obtain⟨ρ1,s1,b,s2,e1,e2,h1⟩:=step 0 d acc ρ st rfl h0;have wk':∀ k a ρ s,k<=ds.length->Inv (k+1) a ρ s->walked W s=true:=fun k a ρ s hk h=>wk (k+1) a ρ s (BU hk) h;have st':∀ k d a ρ s,ds[k]?=some d->Inv (k+1) a ρ s->∃ ρ1 s1 b s2,g d ρ s=some (ρ1,s1)/\c ρ1 s1=some (b,s2)/\((b=true/\∃ x s3,m ρ1 s2=some (x,s3)/\Inv (k+1+1) (a++[x]) ρ1 s3)\/(b=false/\Inv (k+1+1) a ρ1 s2)):=fun k d a ρ s hd h=>step (k+1) d a ρ s (by simpa using hd) h
   rcases h1 with ⟨rfl,x,s3,e3,h1⟩ | ⟨rfl,h1⟩
   . obtain⟨xs,ρ',s',e,h⟩:=zlo (W:=W) (g:=g) (c:=c) (m:=m) (ds:=ds) (Inv:=fun k=>Inv (k+1)) h1 wk' st';refine⟨x::xs,ρ',s',?_,by simpa using h⟩;unfold mCI;rw[if_pos (wk 0 acc ρ st (A8 _) h0),e1];simp only[Ac,e2,if_true,e3,e,Ap]
   . obtain⟨xs,ρ',s',e,h⟩:=zlo (W:=W) (g:=g) (c:=c) (m:=m) (ds:=ds) (Inv:=fun k=>Inv (k+1)) h1 wk' st';refine⟨xs,ρ',s',?_,h⟩;unfold mCI;rw[if_pos (wk 0 acc ρ st (A8 _) h0),e1];simp only[Ac,e2,A1,if_false,e]
theorem zdn{ds xs:List D}{n:Nat}{s:Sto}(h:s[n]?=some (.lst xs)):walked ⟨ds,[(n,xs)]⟩ s=true:=by
 unfold walked;simp only[Ew,List.all_nil,Ex];exact zgN h
theorem zat{n:Nat}(h:n<=10000):fits n=true:=by
 unfold fits;exact decide_eq_true (AD h (by decide))
end L2.MP
namespace L2.MP
@[simp] theorem zca{α:Type}(x:α)(y:Option α):orO (some x) y=some x:=rfl
@[simp] theorem zb8{α:Type}(y:Option α):orO none y=y:=rfl
end L2.MP
namespace L2.MP.Hn
open PySem L2.MP
end L2.MP.Hn
namespace L2.MP
open PySem
section
variable {ρ ρ1:Rho} {st s1:Sto} {m n ma mb:ME} {mm:MA} {ms mq:MS} {mt mu:MT} {g:G2} {gn:GN} {d:D} {i j:Nat} {ds:List D} {mg:MG} {mgs:MGs} {ml mh:MO}
@[simp] theorem zbb:mVar i ρ st=match ρ[i]? with
 | some (some d)=>some (d,st)
 | _=>none:=rfl
@[simp] theorem zbv:mCon d ρ st=some (d,st):=rfl
@[simp] theorem zbc:mBin g ma mb ρ st=(ma ρ st).bind fun p=>(mb ρ p.2).bind fun q=>g p.1 q.1 q.2:=rfl
@[simp] theorem zaO:mTst m ρ st=(m ρ st).bind fun p=>match p.1 with
 | .bl b=>some (b,p.2)
 | _=>none:=rfl
@[simp] theorem zaK:zcI mt ρ st=(mt ρ st).map fun p=>(!p.1,p.2):=rfl
@[simp] theorem zaw:ziv mt mu ρ st=(mt ρ st).bind fun p=>if p.1=true then mu ρ p.2 else some (false,p.2):=rfl
@[simp] theorem za4:mOrT mt mu ρ st=(mt ρ st).bind fun p=>if p.1=true then some (true,p.2) else mu ρ p.2:=rfl
@[simp] theorem zaJ:zhL m n ρ st=(mTst m ρ st).bind fun p=>if p.1=true then n ρ p.2 else some (.bl false,p.2):=rfl
@[simp] theorem zaR:zlz m ρ st=(mTst m ρ st).map fun p=>(.bl !p.1,p.2):=rfl
@[simp] theorem zaL:zav gn mm ρ st=(mm ρ st).bind fun p=>gn p.1 p.2:=rfl
@[simp] theorem zaI:zac m mm ρ st=(m ρ st).bind fun p=>(mm ρ p.2).bind fun q=>some (p.1::q.1,q.2):=rfl
@[simp] theorem zbm:mNil ρ st=some ([],st):=rfl
@[simp] theorem zby:mTup mm ρ st=(mm ρ st).bind fun p=>if fits p.1.length=true then some (.tup p.1,p.2) else none:=rfl
@[simp] theorem zbu:mLst mm ρ st=(mm ρ st).bind fun p=>if fits p.1.length=true then some (.ref p.2.length,p.2++[.lst p.1]) else none:=rfl
@[simp] theorem za0:mRet m ρ st=(m ρ st).map fun p=>(.rt p.1,p.2):=rfl
@[simp] theorem zbD:mExp m ρ st=(m ρ st).map fun p=>(.nx ρ,p.2):=rfl
@[simp] theorem zbj:mAsg m mg ρ st=(m ρ st).bind fun p=>(mg p.1 ρ p.2).map fun q=>(.nx q.1,q.2):=rfl
@[simp] theorem zdc:gNm i d ρ st=some (ρ.set i (some d),st):=rfl
@[simp] theorem zaQ:zcr ρ st=some (.nx ρ,st):=rfl
@[simp] theorem zbB:mNeg m ρ st=(m ρ st).bind fun p=>negD p.1 p.2:=rfl
@[simp] theorem zbw:mIf mt ms mq ρ st=(mt ρ st).bind fun p=>if p.1=true then ms ρ p.2 else mq ρ p.2:=rfl
@[simp] theorem zbA:putA ma mb m ρ st=orO (mAsg m (gSb setD ma mb) ρ st) (zmD ma mb m ρ st):=rfl
@[simp] theorem zc9{g3:G3}:gSb g3 ma mb d ρ st=(ma ρ st).bind fun p=>(mb ρ p.2).bind fun q=>(g3 p.1 q.1 d q.2).map fun s=>(ρ,s):=rfl
@[simp] theorem zc8:gTp i mgs d ρ st=match d with
 | .tup ds=>if ds.length=i then mgs ds ρ st else none
 | _=>none:=rfl
@[simp] theorem zbC:gN0 [] ρ st=some (ρ,st):=rfl
@[simp] theorem zdd:gC mg mgs (d::ds) ρ st=(mg d ρ st).bind fun p=>mgs ds p.1 p.2:=rfl
theorem ap_w:mW m ρ st=(m ρ st).bind fun p=>zif p.1 p.2:=rfl
@[simp] theorem zcN:mR1 m ρ st=(m ρ st).bind fun p=>match p.1 with
 | .int j=>if small j=true then some (⟨run 0 j.toNat,[]⟩,p.2) else none
 | _=>none:=rfl
@[simp] theorem zaP:zd9 ρ st=some (true,st):=rfl
theorem zaE{mi:MI}{k:Nat}{fr:List Nat}:zcW mi k fr mg mt m ρ st=(mi ρ st).bind fun p=>(mCI p.1 mg mt m p.1.ds (rho0 ρ k fr) p.2).bind fun q=>if fits q.1.length=true then some (.ref q.2.length,q.2++[.lst q.1]) else none:=rfl
@[simp] theorem zbi{mi:MI}:mFor mi mg ms ρ st=(mi ρ st).bind fun p=>zdj p.1 mg ms p.1.ds ρ p.2:=rfl
theorem zbz:mSlA m ml mh ρ st=(m ρ st).bind fun p=>(ml ρ p.2).bind fun q=>(mh ρ q.2).bind fun r=>slA p.1 q.1 r.1 r.2:=rfl
@[simp] theorem zdb:zcw ρ st=some (none,st):=rfl
@[simp] theorem zda:zcv m ρ st=(m ρ st).bind fun p=>match p.1 with
 | .int i=>some (some i,p.2)
 | _=>none:=rfl
@[simp] theorem za5{T:String}:mIsi T m ρ st=(m ρ st).bind fun p=>(tyName p.2 p.1).map fun t=>(.bl (subT t T),p.2):=rfl
theorem zaS:zmC m mm ρ st=(m ρ st).bind fun p=>match p.1 with
 | .str _=>(mm ρ p.2).bind fun q=>zka p.1 q.1 q.2
 | _=>none:=rfl
@[simp] theorem zbE:mApp m mm ρ st=(m ρ st).bind fun p=>match p.1 with
 | .ref n=>(zcd p.2 n).bind fun _=>(mm ρ p.2).bind fun q=>zcQ p.1 q.1 q.2
 | _=>none:=rfl
@[simp] theorem zbt:mZip ma mb ρ st=(ma ρ st).bind fun p=>(mb ρ p.2).bind fun q=>zipW p.1 q.1 q.2:=rfl
@[simp] theorem zaz:zj8 true ρ st=some (.ref st.length,st++[.dt []]):=rfl
@[simp] theorem zaA:zj8 false ρ st=some (.ref st.length,st++[.dk []]):=rfl
theorem zas{r:Option (Fl×Sto)}(h:ms ρ st=some (.nx ρ1,s1))(k:mq ρ1 s1=r):mSeq ms mq ρ st=r:=by
 unfold mSeq;rw[h];exact k
theorem zbs{s:Sto}(h:ms ρ st=some (.rt d,s)):mSeq ms mq ρ st=some (.rt d,s):=by
 unfold mSeq;rw[h];rfl
theorem zb2{N:Nat}{s:Sto}(h:ms (rho N ds) st=some (.rt d,s)):fnM N ms ds st=some (d,s):=by
 unfold fnM;rw[h];rfl
theorem zb3{k:Nat}(h:k<=10000:=by decide):fits k=true:=zat h
@[simp] theorem zc7:fits 0=true:=zb3
@[simp] theorem zc6:fits 1=true:=zb3
@[simp] theorem zc5:fits 2=true:=zb3
@[simp] theorem zc4:fits 3=true:=zb3
@[simp] theorem zc3:fits 4=true:=zb3
@[simp] theorem zc2:fits 5=true:=zb3
@[simp] theorem zc1:fits 6=true:=zb3
@[simp] theorem zc0:fits 7=true:=zb3
@[simp] theorem zcZ:fits 8=true:=zb3
theorem zdP{k:Int}(h0:0<=k)(h1:k<=1000000):small k=true:=by
 unfold small;simp;omega
theorem zd4{n:Nat}{ds:List D}{k:Int}{x:D}(h:st[n]?=some (.lst ds))(h0:0<=k)(hx:ds[k.toNat]?=some x):ixA (.ref n) (.int k) st=some (x,st):=by
 have hl:=getElem?_lt hx;have h1:k < ds.length:=by omega
 simp[ixA,orG,idxD,zcd,h,atI,ixN,h0,h1,zca];exact (List.getElem?_eq_some_iff.mp hx).2
theorem zcX{ds:List D}{k:Int}{x:D}(h0:0<=k)(hx:ds[k.toNat]?=some x):ixA (.tup ds) (.int k) st=some (x,st):=by
 have hl:=getElem?_lt hx;have h1:k < ds.length:=by omega
 simp[ixA,orG,idxD,atI,ixN,h0,h1,zca];exact (List.getElem?_eq_some_iff.mp hx).2
theorem zjC{z:Str}{k:Int}{c:Nat}(hz:z.length<=10000)(h0:0<=k)(hx:z.cps[k.toNat]?=some c):ixA (.str z) (.int k) st=some (.str ⟨#[c]⟩,st):=by
 have hl:k.toNat < z.cps.size:=(Array.getElem?_eq_some_iff.mp hx).1;have h1:k < z.cps.size:=by omega
 have hf:fits z.length=true:=zat hz;simp[ixA,orG,idxD,atI,ixN,h0,h1,zca,hf];exact (Array.getElem?_eq_some_iff.mp hx).2
theorem zlb{n:Nat}(h:st[n]?=some (.lst ds)):lenD [.ref n] st=some (.int ds.length,st):=by simp[lenD,zcd,h]
theorem zcy:lenD [.tup ds] st=some (.int ds.length,st):=rfl
theorem ze3{n:Nat}(h:st[n]?=some (.lst ds)):zec [.ref n] st=some (.tup ds,st):=by simp[zec,zcd,h]
@[simp] theorem add_int(a b:Int):addD (.int a) (.int b) st=some (.int (a+b),st):=rfl
@[simp] theorem sub_int(a b:Int):subD (.int a) (.int b) st=some (.int (a - b),st):=rfl
theorem zey{a b:List D}(ha:a≠[])(h:a.length+b.length<=10000):addD (.tup a) (.tup b) st=some (.tup (a++b),st):=by
 have:fits (a.length+b.length)=true:=zat h
 cases a with
 | nil=>exact absurd rfl ha
 | cons x a=>simp[addD,this] at *
theorem ziI{a b:Nat}{x y:List D}(ha:st[a]?=some (.lst x))(hb:st[b]?=some (.lst y))(h:x.length+y.length<=10000):addD (.ref a) (.ref b) st=some (.ref st.length,st++[.lst (x++y)]):=by
 have:fits (x.length+y.length)=true:=zat h;simp[addD,ha,hb,this]
theorem add_str{a b:Str}(h:a.length+b.length<=10000):addD (.str a) (.str b) st=some (.str (a++b),st):=by
 have:fits (a.length+b.length)=true:=zat h;simp[addD,this]
theorem append_at{n:Nat}{x:D}(h:st[n]?=some (.lst ds))(hl:ds.length<=10000):zcQ (.ref n) [x] st=some (.non,st.set n (.lst (ds++[x]))):=by
 have:ds.length < sizeLine:=B7 hl (by decide);simp[zcQ,h,this]
end
end L2.MP
set_option linter.unusedSimpArgs false
namespace L2.MP.Hn
open PySem L2.MP
end L2.MP.Hn
namespace L2.MP
open PySem PySem.Builtin PySem.Builtin.Str
theorem join_nil:∀ cs:List Nat,(Str.join ("":Str) (cs.map fun c=>⟨#[c]⟩)).cps.toList=cs
 | []=>rfl
 | [c]=>rfl
 | c::d::cs=>by
   have ih:=join_nil (d::cs);show ((⟨#[c]⟩++("":Str)++Str.join ("":Str) ((d::cs).map fun c=>⟨#[c]⟩):Str)).cps.toList=_;have e:∀ a b:Str,(a++b).cps.toList=a.cps.toList++b.cps.toList:=fun a b=>by
     show (a.cps++b.cps).toList=_;simp
   rw[e,e,ih];rfl
theorem app_list(a b:Str):(a++b).cps.toList=a.cps.toList++b.cps.toList:=by
 show (a.cps++b.cps).toList=_;simp
theorem len_list(a:Str):a.length=a.cps.toList.length:=rfl
end L2.MP
namespace L2.MP
open PySem
theorem eq_int(a b:Int)(st:Sto):eqD (.int a) (.int b) st=some (.bl (a==b),st):=by
 unfold eqD;rw[toP,toP];simp[C6]
end L2.MP
namespace L2.MP.Hn
open PySem L2.MP
theorem zdI:∀ cs:List Nat,((cs.map fun c=>(⟨#[c]⟩:Str)).map (·.length)).sum=cs.length
 | []=>rfl
 | c::cs=>by
   have ih:=zdI cs;simp only[Az,List.sum_cons,BE];rw[ih];show 1+_=_;omega
theorem joined{cs:List Nat}{st:Sto}{l:Nat}(hl:st[l]?=some (.lst (cs.map fun c=>.str ⟨#[c]⟩)))(hc:cs.length<=1000):∃ z:Str,zka (.str "") [.ref l] st=some (.str z,st)/\z.cps.toList=cs:=by
 refine⟨Txt.join "" (cs.map fun c=>⟨#[c]⟩),?_,?_⟩
 . have e:cs.map (fun c=>D.str ⟨#[c]⟩)=(cs.map fun c=>(⟨#[c]⟩:Str)).map D.str:=by simp
   unfold zka;simp only[zcd,hl,Ac];rw[e,zf6];simp only[Ac];rw[if_pos];apply decide_eq_true;have h0:(("":Str)).length=0:=by decide
   rw[h0,Nat.mul_zero,Nat.add_zero];rw[zdI];omega
 . show (Builtin.Str.glued "" _).cps.toList=cs;rw[StrLaws.glued_eq_join];exact join_nil cs
end L2.MP.Hn
namespace L2.MP
open PySem
end L2.MP
namespace L2.MP.Hn
open PySem L2.MP
end L2.MP.Hn
namespace L2.MP
open PySem
end L2.MP
namespace L2.MP.Hn
open PySem L2.MP
end L2.MP.Hn
namespace L2.MP
open PySem PySem.Spec PyProof.Rows
end L2.MP
namespace L2.MP
open PySem
theorem zfp{W:Wk}{g:MG}{c:MT}{m:ME}{α:Type}{f h:α->D}{p:α->Bool}{R:Rho->Prop}:∀ {as:List α} {ρ:Rho} {st:Sto},R ρ->walked W st=true->(∀ a∈as,∀ ρ,R ρ->∃ ρ1,g (f a) ρ st=some (ρ1,st)/\c ρ1 st=some (p a,st)/\(p a=true->m ρ1 st=some (h a,st))/\R ρ1) ->
   mCI W g c m (as.map f) ρ st=some ((as.filter p).map h,st)
 | [],ρ,st,r,wk,_=>by unfold mCI;rw[B5];simp only[wk,if_true,List.filter_nil,B5]
 | a::as,ρ,st,r,wk,hs=>by
   obtain⟨ρ1,e1,e2,e3,r1⟩:=hs a Au ρ r;have e:=zfp (W:=W) (g:=g) (c:=c) (m:=m) (f:=f) (h:=h) (p:=p) (R:=R) (as:=as) r1 wk fun b hb=>hs b (Am _ hb);rw[Az];unfold mCI;rw[if_pos wk,e1]
   cases hp:p a with
   | true =>
     rw[hp] at e2;simp only[Ac,e2,if_true,e3 hp,e,Ap,Ea,hp,Az]
   | false =>
     rw[hp] at e2;simp only[Ac,e2,A1,if_false,e,Ea,hp]
end L2.MP
namespace L2.MP.Hn
open PySem L2.MP
end L2.MP.Hn
namespace L2.MP
open PySem PySem.Spec PyProof.Rows
section
theorem zgT(x:Sr)(o:Obj)(xs:Array Value):Meets (Builtin.«enumerate.__new__» ⟨[.type "enumerate",.ref x.ad],[]⟩) (fun _ R s=>s.heap.get? x.ad=some o/\x.is s.heap xs /\
     R (.ok (.ret (.ref (s.heap.push x.ob).objs.size))) { s with heap:=(s.heap.push x.ob).push { cls:=.type "enumerate",data:=.fields #[.none,.bool false,.ref s.heap.objs.size,rawInt 0,.none,.none] } }) :=
 .of_wp fun prog w A R s h=>by
   obtain⟨hp,g,d,tk,os⟩:=s;obtain⟨h1,h2,h⟩:=h;have hsub:=sub_enumerate;have hx:x.is (D6 ⟨hp,g,d,tk,os⟩) xs:=h2
   wp_walk using BG h1
   refine wpAny_stack_any fun sk=>Ae ?_
   split
   . rename_i c _ _ _ _ _
     cases (c==C2 "enumerate")
     . wp_walk using BG h1,Sr.iter hx
       exact⟨_,rfl,h⟩
     . wp_walk using BG h1,Sr.iter hx
       exact⟨_,rfl,h⟩
   . wp_walk using BG h1,Sr.iter hx
     exact⟨_,rfl,h⟩
end
section
variable {prog:Program} {w:World} {A:Around} {E:Value->Shared->Prop} {s:Shared}
theorem Sr.is_get{h:Heap}{xs:Array Value}{x:Sr}(q:x.is h xs):∃ o,h.get? x.ad=some o:=by
 cases x with
 | l a=>obtain⟨o,g,_⟩:=q;exact⟨o,g⟩
 | t a=>obtain⟨o,g,_⟩:=q;exact⟨o,g⟩
theorem zg1{x:Sr}{xs:Array Value}{R:Value->Shared->Prop}(hx:x.is s.heap xs)(k:∀ h',IsEnum h' (s.heap.objs.size+1) s.heap.objs.size 0 .none->x.at_ h' s.heap.objs.size 0->(∀ c u,s.heap.get? c=some u->h'.get? c=some u)->R (.ref (s.heap.objs.size+1)) { s with heap:=h' }) :
   wpAny (model prog w) A (call (.type "enumerate") [.ref x.ad]) R E s:=by
 obtain⟨o,g⟩:=Sr.is_get hx;refine callType_new F.called_enumerate (by decide) (F.typeCall_enumerate_1 _) (F.newCall_enumerate_1 _) (fun obj=>F.args_object_init_2 obj _) F.entry_enumerate_new (zgT x o xs) ⟨g,hx,?_⟩;have z1:(s.heap.push x.ob).objs.size=s.heap.objs.size+1:=A3 ..;have f2:((s.heap.push x.ob).push { cls:=.type "enumerate",data:=.fields #[.none,.bool false,.ref s.heap.objs.size,rawInt 0,.none,.none] }).get? (s.heap.push x.ob).objs.size=some { cls:=.type "enumerate",data:=.fields #[.none,.bool false,.ref s.heap.objs.size,rawInt 0,.none,.none] }:=An _ rfl;have f1:((s.heap.push x.ob).push { cls:=.type "enumerate",data:=.fields #[.none,.bool false,.ref s.heap.objs.size,rawInt 0,.none,.none] }).get? s.heap.objs.size=some x.ob:=Ad _ (An _ (by cases x <;> rfl));show _/\_;rw[z1] at f2 ⊢;exact⟨⟨_,f2,rfl⟩,k _ f2 (Sr.at_new f1) fun c u q=>Ad _ (Ad _ q)⟩
end
theorem Sr.draws{prog:Program}{w:World}{A:Around}(hh:A.handled=none)(it:Addr)(x:Sr)(hne:x.ad≠it)(items:Array Value):Draws prog w A it [it,x.ad] items.size (fun i v=>items[i]?=some v) (fun i h=>x.at_ h it i/\x.is h items) where
 live:=fun _ _ q=>let ⟨o,_,g,_⟩:=Sr.at_get q.1;⟨o,g⟩
 frame:=fun _ _ _ q k=>⟨Sr.at_keep q.1 fun o e=>k it (by simp) o e,Sr.is_keep q.2 fun o e=>k x.ad (by simp) o e⟩
 item:=fun i s Q E hi q k=>by
   refine Sr.next q.1 q.2 (v:=items[i]) (by simp[hi]) fun h' a b=>?_;exact k _ h' s.toks (by simp[hi]) ⟨a,Sr.is_keep q.2 fun o e=>b.extBut _ _ hne e⟩ b
 done:=fun s Q E q k=>Sr.stop hh q.1 q.2 (by simp) k
theorem Sr.drawsEnd{prog:Program}{w:World}{A:Around}(hh:A.handled=none)(it:Addr)(x:Sr)(items:Array Value)(n:Nat)(hn:items[n]?=none):Draws prog w A it [it,x.ad] n (fun _ _=>True) (fun j h=>j=n/\x.at_ h it n/\x.is h items) where
 live:=fun _ _ q=>let ⟨o,_,g,_⟩:=Sr.at_get q.2.1;⟨o,g⟩
 frame:=fun _ _ _ q k=>⟨q.1,Sr.at_keep q.2.1 fun o e=>k it (by simp) o e,Sr.is_keep q.2.2 fun o e=>k x.ad (by simp) o e⟩
 item:=fun i s Q E hi q k=>absurd q.1 (AC hi)
 done:=fun s Q E q k=>Sr.stop hh q.2.1 q.2.2 hn k
noncomputable def Itn(x:Sr):It :=
 ⟨fun i H=>∃ xs v,x.sq H xs/\xs[i]?=some v,fun i H r H'=>∃ p v,H p=none/\H'=upd H p (.tup [.int (i:Nat),v])/\r=.ref p/\∀ xs,x.sq H xs->xs[i]?=some v,fun i H=>∃ xs,x.sq H xs/\xs.length<=i⟩
theorem zf3{P:Program}{w:World}{K:Ab}{elts:List Expr}{x1}{pos:Pos}(x:Sr)(it e:Addr)(hne:e≠it) :
   Turn P w K (.Tuple elts x1 pos) (Itn x) [e,it] e (fun i h=>(∃ old,IsEnum h e it (i:Nat) old)/\x.at_ h it i) where
 mem:=by simp
 obj:=fun i h st b hb=>by
   obtain⟨⟨old,he⟩,hi⟩:=st
   rcases List.mem_cons.mp hb with rfl | hb
   . exact⟨_,he,fun v z=>by cases z⟩
   . rw[List.mem_singleton.mp hb];obtain⟨o,vs,g,d⟩:=Sr.at_get hi;exact⟨o,g,fun v z=>by rw[d] at z;cases z⟩
 keep:=fun i h h' st k=>by
   obtain⟨⟨old,he⟩,hi⟩:=st;exact⟨⟨old,k e (by simp) _ he⟩,Sr.at_keep hi fun o q=>k it (by simp) o q⟩
 item := by
   intro X hP hw hK hc i pins s σ H E I hf st hg;subst hP hw hK;obtain⟨xs,v,hx,hv⟩:=hg;obtain⟨⟨old,he⟩,hi⟩:=st;obtain⟨its,rx,ix⟩:=Sr.sq_is I hx;obtain⟨v',gv,rv⟩:=rx.get hv;have fit:=(hf it (by simp)).1;have fe:=(hf e (by simp)).1;have hlt:i < its.toArray.size:=by have:=(List.getElem?_eq_some_iff.mp gv).1;simpa using this
   refine wpAny_pyNext_enum_itemD (Sr.draws (A:=X.A.in1) (I.ok.hd hc) it x (Sr.sq_ne hx fit) its.toArray) he ⟨hi,ix⟩ hlt hne (by
     simp only[AQ,AI,or_false,not_or];exact⟨hne,fun z=>Sr.sq_ne hx fe z.symm⟩) fun y h1 tk hy he1 st1 t1 z1 k1=>?_
   have ey:y=v':=by
     have:its[i]?=some y:=by simpa using hy
     rw[gv] at this;exact (As this).symm
   subst ey;refine⟨_,rfl,wpAny_letOwnedTupleGo_enum (s:={ s with heap:=h1,toks:=tk+1 }) he1 fun h2 he2 hb2=>?_⟩;have k2:∀ b o,b ∉ [e,it]->s.heap.get? b=some o->h2.get? b=some o:=fun b o hb q=>by
     have n1:b≠e:=fun z=>hb (by simp[z]);have n2:b≠it:=fun z=>hb (by simp[z]);exact (hb2.2 b n1).trans (k1 b o n1 n2 q)
   have hsz:e≠s.heap.objs.size:=AC (Aj he);have t2:h2.get? s.heap.objs.size=some { cls:=.type "tuple",data:=.seq #[.int i tk,y] }:=(hb2.2 _ hsz.symm).trans t1;have hi2:x.at_ h2 it (i+1):=Sr.at_keep st1.1 fun o q=>(hb2.2 it hne.symm).trans q;refine⟨.ref s.heap.objs.size,upd H s.heap.objs.size (.tup [.int (i:Nat),v]),?_,rfl,⟨_,v,I.hok.fresh (Af _),rfl,rfl,fun ys hy=>by rw[Sr.sq_inj hy hx];exact hv⟩,⟨⟨_,by exact_mod_cast he2⟩,hi2⟩,fun b hb=>?_⟩
   . exact Inv.turnNew (s:=s) (h':=h2) (t':=tk+1) I hf k2 (Af _) (fun b hb ob q=>by
       rcases List.mem_cons.mp hb with rfl | hb
       . exact⟨_,he2⟩
       . rw[List.mem_singleton.mp hb];obtain⟨o,vs,g,d⟩:=Sr.at_get hi2;exact⟨o,g⟩) ⟨by show 2<=sizeLine;decide,[.int i tk,y],.cons ⟨_,rfl⟩ (.cons rv .nil),⟨_,t2,rfl,rfl,_,rfl⟩⟩
   . rw[zaW (fun z=>?_)]
     . exact (hf b hb).1
     . rcases List.mem_cons.mp hb with q | hb
       . exact hsz (q.symm.trans z)
       . have q:=List.mem_singleton.mp hb;obtain⟨o,vs,g,d⟩:=Sr.at_get hi;exact (AC (Aj g)) (q.symm.trans z)
 done:=by
   intro X hP hw hK hc i pins s σ H E I hf st hg;subst hP hw hK;obtain⟨xs,hx,hl⟩:=hg;obtain⟨⟨old,he⟩,hi⟩:=st;obtain⟨its,rx,ix⟩:=Sr.sq_is I hx;have l1:=rx.length;exact wpAny_pyNext_enum_endD (Sr.drawsEnd (A:=X.A.in1) (I.ok.hd hc) it x its.toArray i (by simp;omega)) he ⟨rfl,hi,ix⟩ fun h' eb=>⟨rfl,Inv.turnAll (t':=s.toks) I hf fun b o hb q=>eb b o (fun z=>hb (by simp[z])) q⟩
 self:=fun _ _ _ _ _ st h=>by
   obtain⟨⟨old,he⟩,_⟩:=st;exact DZ he h
section
variable {X:Cx} {K:Ab} {H:Hp} {io:List Addr} {m:ME} {st st':Sto}
noncomputable def zmT(x:D)(s:Sto):Option (Wk×Sto):=(seqD s x).map fun (a,f)=>(⟨pairs a,f⟩,s)
noncomputable def zlB(m:ME):MI:=fun ρ st=>(m ρ st).bind fun (x,s1)=>zmT x s1
theorem zkt{elts:List Expr}{x1}{tp:Pos}{a:Expr}{p pos:Pos}(hg:Gl X "enumerate")(hm:X.mg "enumerate"=none)(ha:SE X a m)(hs:starEach [a] X.env=[(false,eval a X.env)]:=by rfl) :
   SI X (.Tuple elts x1 tp) (.Call (.Name "enumerate" p) [a] [] pos) (zlB m):=by
 rintro pins s σ H R I ⟨ρ,st,io,W,st',E,S,e,k⟩;obtain⟨⟨x,s1⟩,e1,e⟩:=zad e;obtain⟨⟨as,f⟩,e3,e⟩:=zah e;cases e;refine Call_ (zfK I hg hm boot_enumerate (Bt (thn (zaa ha zaf hs pos pins s σ H (fun vs H'=>∃ ka,Ext io ka H H'/\StR X.K H' (io++ka) st'/\Reps X.K H' (io++ka) vs [x]) I ⟨ρ,st,io,[x],st',E,S,zd2 e1 rfl,fun vs H1 k1 X1 S1 R1=>⟨k1,X1,S1,R1⟩⟩) ?_) hs rfl));rintro us t1 ⟨vs,H1,I1,r1,k1,X1,S1,R1⟩;obtain⟨v,rfl,Rx⟩:=R1.one;obtain⟨v',rfl,rv⟩:=r1.one;obtain⟨xx,rfl,⟨xs,hx⟩,kx⟩:=zga S1 Rx e3;cases rv;obtain⟨its,vx,ix⟩:=Sr.sq_is I1 hx;refine zg1 ix fun h' he hi kk=>DZ he ?_;refine⟨_,_,_,_,H1,rfl,I1.kept (t':=t1.toks) kk,zf3 xx t1.heap.objs.size (t1.heap.objs.size+1) (Nat.succ_ne_self _),⟨⟨_,he⟩,hi⟩,fun b hb=>?_,?_⟩
 . have hle:t1.heap.objs.size<=b:=by
     rcases List.mem_cons.mp hb with q | hb
     . rw[q];exact CJ _
     . rw[List.mem_singleton.mp hb];exact Af _
   exact I1.fpOk hle (I1.hok.fresh hle)
 . refine k _ H1 k1 X1 S1 ?_;refine⟨fun i d H2 k2 s3 hd X2 S2 hs=>?_,fun H2 k2 s3 X2 S2 hs=>?_,fun H2 k2 s3 i hi X2 S2 hs=>?_⟩
   . obtain⟨xs2,qx,rx⟩:=kx H2 k2 s3 X2 S2 hs;obtain⟨dx,g1,rfl⟩:=zfb hd;obtain⟨u1,gu,ru⟩:=rx.get g1;refine⟨⟨xs2,u1,qx,gu⟩,fun r H' yl=>?_⟩;obtain⟨q,u2,hq,rfl,rfl,yu⟩:=yl;have e5:=yu xs2 qx;rw[gu] at e5;cases e5;obtain⟨E',S'⟩:=zff (o:=.tup [.int (i:Nat),u1]) S2 hq;rw[Al] at S';refine⟨E',S',⟨q,_,rfl,zbU,?_⟩⟩;have r2:=ru.ext S2 E';rw[Al] at r2;exact Reps.cons rfl (Reps.cons r2 Reps.nil)
   . obtain⟨xs2,qx,rx⟩:=kx H2 k2 s3 X2 S2 hs;exact⟨xs2,qx,by show xs2.length<=(pairs as).length;rw[pairs_len,rx.length];exact Af _⟩
   . obtain⟨xs2,qx,rx⟩:=kx H2 k2 s3 X2 S2 hs;have hi:(pairs as).length<=i:=hi;rw[pairs_len] at hi;exact⟨xs2,qx,by rw[rx.length];exact hi⟩
end
section
variable {X:Cx} {K:Ab} {H:Hp} {io:List Addr} {m:ME} {st st':Sto}
@[simp] theorem ziH{ρ:Rho}:zlB m ρ st=(m ρ st).bind fun p=>zmT p.1 p.2:=rfl
end
section
variable {X:Cx} {K:Ab} {H:Hp} {io:List Addr} {m ma mb mc:ME} {st st':Sto} {a b c:Expr} {pos:Pos}
noncomputable def zcc(g g':G2)(ma mb mc:ME):ME:=fun ρ st=>(ma ρ st).bind fun (x,s1)=>(mb ρ s1).bind fun (y,s2)=>(g x y s2).bind fun (z,s3)=>match z with
 | .bl q=>if q=true then (mc ρ s3).bind fun (w,s4)=>g' y w s4 else some (.bl false,s3)
 | _=>none
theorem zdL{g g':G2}{σ:L2.St}{H:Hp}{Q:VK}(h:tE K (zcc g g' ma mb mc) σ H Q):ziQ (r2M K g) (r2M K g') (tE K ma) (tE K mb) (tE K mc) σ H Q:=by
 obtain⟨ρ,st,io,d,st',E,S,e,k⟩:=h;obtain⟨⟨x,s1⟩,e1,e⟩:=zad e;obtain⟨⟨y,s2⟩,e2,e⟩:=zad e;obtain⟨⟨z,s3⟩,e3,e⟩:=zad e;refine⟨ρ,st,io,x,s1,E,S,e1,fun v1 H1 k1 X1 S1 R1=>?_⟩;refine⟨ρ,s1,io++k1,y,s2,E.ext S X1,S1,e2,fun v2 H2 k2 X2 S2 R2=>?_⟩;refine⟨x,y,s2,(io++k1)++k2,z,s3,R1.ext S1 X2,R2,S2,e3,fun v3 H3 k3 X3 S3 R3=>?_⟩;have k':=((k.on S1 X1).on S2 X2).on S3 X3;dsimp only at e
 split at e
 . rename_i q;refine⟨q,R3,?_⟩
   cases q with
   | true =>
     rw[if_pos rfl] at e ⊢;obtain⟨⟨w,s4⟩,e4,e5⟩:=zad e;refine⟨ρ,s3,((io++k1)++k2)++k3,w,s4,((E.ext S X1).ext S1 X2).ext S2 X3,S3,e4,fun v4 H4 k4 X4 S4 R4=>?_⟩;exact⟨y,w,s4,(((io++k1)++k2)++k3)++k4,d,st',(R2.ext S2 X3).ext S3 X4,R4,S4,e5,k'.on S4 X4⟩
   | false =>
     rw[if_neg Bb] at e ⊢;cases e;exact Bh.now k' S3 rfl
 . cases e
theorem zi4{op op':CmpOp}{g g':G2}(ho:OpM X (compareOp op) g)(ho':OpM X (compareOp op') g')(ha:SE X a ma)(hb:SE X b mb)(hc:SE X c mc)(hm:lastMarks [op,op'] [b,c]=false:=by with_unfolding_all rfl) :
   SE X (.Compare a [op,op'] [b,c] pos) (zcc g g' ma mb mc):=PE.imp (zjf ho ho' ha hb hc hm) fun _ _ _ h=>zdL h
theorem zgd{op op':CmpOp}{g g':G2}(ho:OpM X (compareOp op) g)(ho':OpM X (compareOp op') g')(ha:SE X a ma)(hb:SE X b mb)(hc:SE X c mc)(hm:lastMarks [op,op'] [b,c]=false:=by with_unfolding_all rfl) :
   SB X (.Compare a [op,op'] [b,c] pos) (mTst (zcc g g' ma mb mc)):=PT.imp (zi8 ho ho' ha hb hc hm) fun _ _ _ h=>zdL (zdg h)
end
section
variable {X:Cx} {K:Ab} {H:Hp} {io:List Addr} {m mk:ME} {st st':Sto} {e se:Expr} {te:TE} {ts:TO} {p2 pos:Pos}
theorem ze1{x:V}{u:Value}:∀ {xs:List V} {us:List Value},Vals xs us->RelV x u->Vals (xs++[x]) (us++[u])
 | [],_,.nil,r=>.cons r .nil
 | y::xs,_,.cons z t,r=>.cons z (ze1 t r)
theorem zfX:∀ {xs:List V} {us:List Value},Vals xs us->Vals xs.reverse us.reverse
 | [],_,.nil=>.nil
 | x::xs,_,.cons r t=>by
   rw[Cg,Cg];exact ze1 (zfX t) r
theorem ze9:∀ {xs:List V} {ds:List D} {x:V} {d:D},Reps K H io xs ds->Rep K H io x d->Reps K H io (xs++[x]) (ds++[d])
 | _,[],x,d,h,r=>by
   cases (show _=[] from h)
   exact⟨x,[],rfl,r,rfl⟩
 | _,e::ds,x,d,h,r=>by
   obtain⟨y,ys,rfl,h1,h2⟩:=h;exact⟨y,ys++[x],rfl,h1,ze9 h2 r⟩
theorem zgf:∀ {ds:List D} {xs:List V},Reps K H io xs ds->Reps K H io xs.reverse ds.reverse
 | [],xs,h=>by
   cases (show xs=[] from h)
   exact rfl
 | d::ds,xs,h=>by
   obtain⟨y,ys,rfl,h1,h2⟩:=h;rw[Cg,Cg];exact ze9 (zgf h2) h1
end
noncomputable def Itw(n:Nat)(f:Nat->Option V):It:=⟨fun i _=>i < n,fun i H v H'=>H'=H/\f i=some v,fun i _=>n<=i⟩
noncomputable def zgK:List String:=["enumerate","zip","dict_itemiterator","dict_reverseitemiterator","odict_iterator","itertools.zip_longest","itertools.pairwise"]
theorem zf0{P:Program}{w:World}{K:Ab}{tg:Expr}(it:Addr)(n:Nat)(f:Nat->Option V){R:Nat->Value->Prop}{T:Nat->Heap->Prop}(W:∀ A:Around,A.handled=none->Walks P w A it [it] [it] n R T)
   (hr:∀ i v,R i v->∃ x,f i=some x/\RelV x v) (hob:∀ i h,T i h->∃ o nm vs,h.get? it=some o/\o.cls=.type nm/\o.data=.fields vs/\zgK.contains nm=false)
   (hself:∀ (A:Around) (i:Nat) (s:Shared) (Q:Value->Shared->Prop) (E:Value->Shared->Prop),T i s.heap->Q (.ref it) s->wpAny (model P w) A (pyIter (.ref it)) Q E s) :
   Turn P w K tg (Itw n f) [it] it (fun i h=>i<=n/\T i h) where
 mem:=by simp
 obj:=fun i h st b hb=>by
   have e:b=it:=by simpa using hb
   subst e;obtain⟨o,nm,vs,e,c,d,_⟩:=hob i h st.2;exact⟨o,e,fun v z=>by rw[d] at z;cases z⟩
 keep:=fun i h h' st k=>⟨st.1,(W {} rfl).frame i h h' st.2 k⟩
 item:=by
   intro X hP hw hK hc i pins s σ H E I hf st hg;subst hP hw hK;obtain⟨f0,f1,f2,f3,f4,f5⟩:=hf it (by simp);refine (W X.A (I.ok.hd hc)).item i s _ _ hg st.2 fun v h' tk hv st' kk=>?_;obtain⟨x,hx,rx⟩:=hr i v hv;have I1:Inv X pins σ H { s with heap:=h',toks:=tk }:=I.turned (fun b o hb e=>kk b o (by simpa using hb) e) f0 f1 f3 f4 f5;obtain⟨o,nm,vs,e,c,d,hn⟩:=hob (i+1) h' st';exact⟨_,rfl,zlD (s:={ s with heap:=h',toks:=tk }) e c d hn ⟨x,H,I1,rx,⟨rfl,hx⟩,⟨hg,st'⟩,fun b hb=>(hf b hb).1⟩⟩
 done:=by
   intro X hP hw hK hc i pins s σ H E I hf st hg;subst hP hw hK;obtain⟨f0,f1,f2,f3,f4,f5⟩:=hf it (by simp);have e:i=n:=Nat.le_antisymm st.1 hg;subst e;exact (W X.A (I.ok.hd hc)).done s _ _ st.2 fun h' tk kk=>⟨rfl,I.turned (fun b o hb e=>kk b o (by simpa using hb) e) f0 f1 f3 f4 f5⟩
 self:=fun A i s Q E st h=>hself A i s Q E st.2 h
theorem zmK{K:Ab}{H:Hp}{io:List Addr}{ds:List D}{n:Nat}{f:Nat->Option V}(hn:n=ds.length)(hf:∀ i d,ds[i]?=some d->∃ v,f i=some v/\∀ H io,Rep K H io v d):ItOk K H io ⟨ds,[]⟩ (Itw n f) where
 go:=fun i d H1 k1 s hd X1 S1 hs=>by
   have hi:i < ds.length:=(List.getElem?_eq_some_iff.mp hd).1;refine⟨by show i < n;omega,fun x H' y=>?_⟩;obtain⟨rfl,y⟩:=y;obtain⟨v,hv,rv⟩:=hf i d hd;rw[hv] at y;cases y;exact⟨Ext.refl,S1,rv _ _⟩
 stop:=fun H1 k1 s X1 S1 hs=>by show n<=ds.length;omega
 stop':=fun H1 k1 s i hi X1 S1 hs=>by
   show n<=i;have hi:ds.length<=i:=hi;omega
section
variable {X:Cx} {K:Ab} {H:Hp} {io:List Addr} {st st':Sto} {a b c e:Expr} {es:List Expr} {ma mb mc m:ME} {mm:MA} {mt:MT} {ms:MS} {pos:Pos} {tg:Expr} {body:List Stmt}
noncomputable def signs(z:Str):List D:=z.cps.toList.map fun c=>D.str ⟨#[c]⟩
noncomputable def zj5(z:Str)(i:Nat):Option V:=z.cps[i]?.map fun c=>V.str ⟨#[c]⟩
theorem ze0{P:Program}{w:World}{A:Around}(hh:A.handled=none)(I:Addr)(x:Str)(t:Tok):Walks P w A I [I] [I] x.cps.size (SignAt x) (fun i h=>h.IsStrIter I (strIterType x) x t i):=by
 unfold strIterType
 cases x.cps.all (· < 128)
 . exact Walks.strWide hh I x t
 . exact Walks.strAscii hh I x t
theorem ziO{P:Program}{w:World}{K:Ab}{tg:Expr}(it:Addr)(x:Str)(t:Tok):Turn P w K tg (Itw x.cps.size (zj5 x)) [it] it (fun i h=>i<=x.cps.size/\h.IsStrIter it (strIterType x) x t i) :=
 zf0 it x.cps.size (zj5 x) (fun A hA=>ze0 hA it x t) (fun i v ⟨c,u,hc,hv⟩=>⟨.str ⟨#[c]⟩,by unfold zj5;rw[hc];rfl,u,hv⟩)
   (fun i h ⟨o,e,c,d⟩=>⟨o,_,_,e,c,d,by unfold strIterType;split <;> decide⟩) fun A i s Q E st h=>by
     unfold strIterType at st
     split at st
     . exact wpAny_pyIter_striter_ascii st h
     . exact wpAny_pyIter_striter_wide st h
noncomputable def iStr(tl:TE):TI:=fun σ H R=>tl σ H fun x H1=>∃ z,x=.str z/\R (Itw z.cps.size (zj5 z)) H1
theorem zmb{l:Expr}{tl:TE}(hl:PE X l tl):PI X tg l (iStr tl):=by
 intro pins s σ H R I h;refine thn (hl pins s σ H _ I h) ?_;rintro v s1 ⟨x,H1,I1,r1,q1⟩;obtain⟨z,e,q⟩:=q1;subst e;obtain⟨t,rfl⟩:=r1;refine D0 ?_;refine⟨s1.heap.objs.size,[s1.heap.objs.size],_,_,H1,rfl,I1.kept (t':=s1.toks) fun b o e=>Ad _ e,ziO _ z t,⟨A8 _,_,An _ rfl,rfl,rfl⟩,fun b hb=>?_,q⟩;have e:b=s1.heap.objs.size:=by simpa using hb
 subst e;exact I1.fpOk (Af _) (I1.hok.fresh (Af _))
theorem signs_get{z:Str}{i:Nat}{d:D}(h:(signs z)[i]?=some d):∃ v,zj5 z i=some v/\∀ H io,Rep K H io v d:=by
 unfold signs at h;rw[AE] at h;obtain⟨c,hc,e⟩:=zah h;subst e;refine⟨.str ⟨#[c]⟩,?_,fun H io=>rfl⟩;unfold zj5;rw[Bc] at hc;rw[hc];rfl
theorem zdh(z:Str):z.cps.size=(signs z).length:=by unfold signs;rw[Aq,Ar]
noncomputable def mWS(m:ME):MI:=fun ρ st=>(m ρ st).bind fun (d,s)=>match d with
 | .str z=>some (⟨signs z,[]⟩,s)
 | _=>none
theorem zlS{l:Expr}(hl:SE X l m):SI X tg l (mWS m):=PI.imp (zmb hl) <| by
 rintro σ H R ⟨ρ,st,io,W,st',E,S,e,k⟩;obtain⟨⟨d,s1⟩,e1,e⟩:=zad e;dsimp only at e
 split at e
 . rename_i z;cases e;refine⟨ρ,st,io,_,_,E,S,e1,fun v H1 k1 X1 S1 R1=>?_⟩;exact⟨z,R1,k _ H1 k1 X1 S1 (zmK (zdh z) fun i d h=>signs_get h)⟩
 . cases e
noncomputable def mWA(m:ME):MI:=fun ρ st=>(m ρ st).bind fun (d,s)=>orO (zif d s) (match d with | .str z=>some (⟨signs z,[]⟩,s) | _=>none)
theorem zbW{l:Expr}(hl:SE X l m):SI X tg l (mWA m):=by
 rintro pins s σ H R I ⟨ρ,st,io,W,st',E,S,e0,k⟩;obtain⟨⟨d,s1⟩,e1,e0⟩:=zad e0
 rcases zb1 e0 with e0 | e0
 . exact zkr hl pins s σ H R I ⟨ρ,st,io,W,st',E,S,by unfold mW;rw[e1];exact e0,k⟩
 . exact zlS hl pins s σ H R I ⟨ρ,st,io,W,st',E,S,by unfold mWS;rw[e1];exact e0,k⟩
end
section
variable {X:Cx} {K:Ab} {H:Hp} {io:List Addr} {st st':Sto} {a b c e:Expr} {es:List Expr} {ma mb mc m:ME} {mm:MA} {mt:MT} {ms:MS} {pos:Pos} {tg:Expr} {body:List Stmt}
noncomputable def mWhF(c:MT)(m:MS):Nat->MS
 | 0=>fun _ _=>none
 | n+1=>fun ρ st=>(c ρ st).bind fun (b,s)=>if b=true then (m ρ s).bind fun (f,s2)=>match f with
     | .nx ρ2=>mWhF c m n ρ2 s2
     | .ct ρ2=>mWhF c m n ρ2 s2
     | .bk ρ2=>some (.nx ρ2,s2)
     | .rt d=>some (.rt d,s2)
   else some (.nx ρ,s)
theorem ziU{n:Nat}{c:Expr}(hp:PassesOwn (model X.prog X.w) X.A X.env X.xe)(hc:SB X c mt)(hb:SSs X body ms):SS X (.While c body [] pos) (mWhF mt ms n):=PS.imp (zja hp hc hb) fun N σ H h=>by
 obtain⟨ρ,st,io,f,st',E,S,e,w⟩:=zcU.mp h;refine⟨fun k σ2 H2=>∃ ρ2 s2 k2,Ext io k2 H H2/\StR X.K H2 (io++k2) s2/\EnvR X.K H2 (io++k2) σ2 ρ2/\mWhF mt ms k ρ2 s2=some (f,st'),⟨n,ρ,st,[],Ext.refl,S.nil,by rw[Al];exact E,e⟩,?_⟩;rintro k σ2 H2 ⟨ρ2,s2,k2,X2,S2,E2,e2⟩;have w2:Wn X.K (io++k2) H2 st' N f:=w.on X2 S2
 cases k with
 | zero=>cases e2
 | succ k =>
   obtain⟨⟨b,s3⟩,e3,e2⟩:=zad e2;refine⟨ρ2,s2,io++k2,b,s3,E2,S2,e3,fun H3 k3 X3 S3=>?_⟩;have X23:=X2.trans S2 X3;have S3':StR X.K H3 (io++(k2++k3)) s3:=by rw[<-Ak];exact S3
   dsimp only
   cases b with
   | false =>
     rw[if_neg (by decide)];have e2:some (Fl.nx ρ2,s3)=some (f,st'):=e2;cases e2;exact w2 σ2 H3 k3 X3 S3 (E2.ext S2 X3)
   | true =>
     rw[if_pos rfl];obtain⟨⟨f4,s4⟩,e4,e2⟩:=zad (show (ms ρ2 s3).bind _=some (f,st') from e2);refine⟨fun σ5 H5=>∃ ρ5 s5 k5,Ext io k5 H H5/\StR X.K H5 (io++k5) s5/\EnvR X.K H5 (io++k5) σ5 ρ5/\mWhF mt ms k ρ5 s5=some (f,st'),fun σ5 H5 h5=>⟨k,De k,h5⟩,?_⟩;refine ziP (E2.ext S2 X3) S3 e4 ?_;have fin:∀ {ρ7:Rho},mWhF mt ms k ρ7 s4=some (f,st')->∀ σ7 H7 k7,Ext (io++k2++k3) k7 H3 H7->StR X.K H7 (io++k2++k3++k7) s4->EnvR X.K H7 (io++k2++k3++k7) σ7 ρ7 ->
         ∃ ρ5 s5 k5,Ext io k5 H H7/\StR X.K H7 (io++k5) s5/\EnvR X.K H7 (io++k5) σ7 ρ5/\mWhF mt ms k ρ5 s5=some (f,st'):=by
       intro ρ7 e7 σ7 H7 k7 X7 S7 E7;rw[Ak io] at X7;rw[Ak io,Ak io] at S7 E7;exact⟨ρ7,s4,(k2++k3)++k7,X23.trans S3' X7,S7,E7,e7⟩
     cases f4 with
     | nx ρ7=>exact fin e2
     | ct ρ7=>exact fin e2
     | bk ρ7 =>
       cases e2;exact w2.on X3 S3
     | rt dd =>
       cases e2;exact w2.on X3 S3
theorem Reps.erase:∀ {xs:List V} {ds:List D} (k:Nat),Reps K H io xs ds->Reps K H io (xs.eraseIdx k) (ds.eraseIdx k)
 | _,[],k,h=>by rw[show _=[] from h];simp[Reps]
 | _,d::ds,0,h=>by
   obtain⟨y,ys,rfl,_,rs⟩:=h;exact rs
 | _,d::ds,k+1,h=>by
   obtain⟨y,ys,rfl,r,rs⟩:=h;exact⟨y,_,rfl,r,Reps.erase k rs⟩
noncomputable def popD:D->List D->Sto->Option (D×Sto):=fun x xs st=>match x,xs with
 | .ref n,[.int i]=>match st[n]? with
   | some (.lst ds)=>if small i=true then (seqIndex? i ds.length).bind fun k=>(ds[k]?).map fun d=>(d,st.set n (.lst (ds.eraseIdx k))) else none
   | _=>none
 | _,_=>none
theorem zk9:MtR X "list.pop" (mtM X.K popD):=by
 rintro pins s σ H x xs v us Q I rx rs ⟨dx,ds,st,io,d,st',Rx,Rs,S,e,k⟩;unfold popD at e
 split at e
 . rename_i n i
   split at e
   . rename_i l e1;obtain⟨hi,e⟩:=zam e;obtain⟨q,e2,e⟩:=zad e;obtain⟨dd,e3,e⟩:=zah e;cases e;obtain⟨p,rfl,hp⟩:=Rx;obtain⟨w,rfl,Rw⟩:=Rs.one
     cases (show w=.int i from Rw)
     obtain⟨ys,hH,r⟩:=S.ob n p _ hp e1;obtain⟨y,hy,ry⟩:=r.get e3;have hsm:=zeJ hi;refine zjs pins s σ H _ _ v us Q I rx rs ⟨p,ys,i,q,y,rfl,rfl,hH,by omega,by omega,by rw[r.length];exact e2,hy,?_⟩;obtain⟨E',S'⟩:=zgg (o:=.lst (ys.eraseIdx q)) (ob:=.lst (l.eraseIdx q)) S hp e1 (fun o u z=>by rw[hH] at z;cases z) fun H' T e'=>⟨_,e',(Reps.mono T r).erase q⟩
     exact k _ _ [] E' S' (ry.ext S E')
   . cases e
 . cases e
noncomputable def mPop(m:ME)(mm:MA):ME:=fun ρ st=>(m ρ st).bind fun (x,s1)=>match x with
 | .ref n=>(zcd s1 n).bind fun _=>(mm ρ s1).bind fun (xs,s2)=>popD x xs s2
 | _=>none
theorem zky{o:Expr}{apos cpos:Pos}(ho:SE X o m)(ha:SA X (e::es) mm)
   (hbase:attributeBase o "pop" X.env (eval o X.env)=eval o X.env:=by rfl)
   (hfew:((backTo cpos (starEach (e::es) X.env)).all (fun x=>!x.1)&&(backToKw cpos (keywordEach [] X.env)).all (fun x=>x.1.isSome)
    &&decide ((e::es).length+([]:List Keyword).length+(if ([]:List Keyword).isEmpty then 0 else 1) < 30))=true:=by rfl)
   (hline:(apos.endLine==cpos.line)=true:=by rfl) (hs:starEach (e::es) X.env=(false,eval e X.env)::starEach es X.env:=by rfl) (hplain:(backTo cpos (starEach es X.env)).any (·.1)=false:=by rfl) :
   SE X (.Call (.Attribute o "pop" apos) (e::es) [] cpos) (mPop m mm) :=
 PE.imp (zlv Di PySem.F.slot_list_pop PySem.F.type_list_pop zk9 ho ha hbase hfew hline hs hplain) <| by
   rintro σ H Q ⟨ρ,st,io,d,st',E,S,e,k⟩;obtain⟨⟨x,s1⟩,e1,e⟩:=zad e
   cases x with
   | ref n =>
     obtain⟨l,e0,e⟩:=zad e;obtain⟨⟨xs,s2⟩,e2,e⟩:=zad e;refine⟨ρ,st,io,_,s1,E,S,e1,fun v1 H1 k1 X1 S1 R1=>⟨zfZ R1 S1 e0,ρ,s1,io++k1,xs,s2,E.ext S X1,S1,e2,fun vs H2 k2 X2 S2 R2=>?_⟩⟩;exact⟨_,xs,s2,(io++k1)++k2,d,st',R1.ext S1 X2,R2,S2,e,(k.on S1 X1).on S2 X2⟩
   | _=>cases e
noncomputable def zgG:GN
 | [.str z],st=>if fits z.cps.size=true then some (.ref st.length,st++[.lst (signs z)]) else none
 | _,_=>none
theorem zeh{z:Str}{acc:Array Value}(h:ItemsOf (SignAt z) acc z.cps.size):Vals (z.cps.toList.map fun c=>V.str ⟨#[c]⟩) acc.toList:=by
 have aux:∀ (l:List Nat) (vs:List Value),vs.length=l.length->(∀ (j:Nat) (v:Value),vs[j]?=some v->∃ (c:Nat) (u:Tok),l[j]?=some c/\v=DO ⟨#[c]⟩ u)->Vals (l.map fun c=>V.str ⟨#[c]⟩) vs:=by
   intro l
   induction l with
   | nil=>intro vs hl _;cases (Bk hl);exact .nil
   | cons c l ih =>
     intro vs hl hv
     cases vs with
     | nil=>simp at hl
     | cons v vs =>
       obtain⟨c',u,hc,rfl⟩:=hv 0 v rfl
       cases (show c=c' by simpa using hc)
       exact .cons ⟨u,rfl⟩ (ih vs (by simpa using hl) fun j v h=>by simpa using hv (j+1) v (by simpa using h))
 refine aux _ _ (by rw[Ar,h.1,Ar]) fun j v hj=>?_;obtain⟨c,u,hc,hv⟩:=h.2 j v (by rw[<-Bc];exact hj);exact⟨c,u,by rw[Bc];exact hc,hv⟩
theorem zei(z:Str):Reps K H io (z.cps.toList.map fun c=>V.str ⟨#[c]⟩) (signs z):=by
 unfold signs;generalize z.cps.toList=l
 induction l with
 | nil=>exact rfl
 | cons c l ih=>exact Reps.cons rfl ih
theorem zfQ(hc:X.calm=true):zdN X (.type "list") zgG:=by
 rintro pins s σ H xs us Q I r ⟨ds,st,io,d,st',R,S,e,k⟩;unfold zgG at e
 split at e
 . rename_i z;obtain⟨hf,e⟩:=zam e;cases e;obtain⟨v,rfl,rfl⟩:=R.one;obtain⟨u,rfl,ru⟩:=r.one;obtain⟨t,rfl⟩:=ru;have hz:z.cps.size<=sizeLine:=of_decide_eq_true hf;refine call_list_str (hn:=hz) (I.ok.hd hc) z t fun h' tk acc c' hk hat hacc=>?_;refine⟨.ref s.heap.objs.size,upd H s.heap.objs.size (.lst (z.cps.toList.map fun c=>V.str ⟨#[c]⟩)),I.laid (t':=tk) (fun b o q=>hk b o q) (Af _) ⟨by rw[Aq,Ar];exact hz,acc.toList,c',zeh hacc,by simpa using hat⟩,rfl,?_⟩;exact k.lst S (zei z) (I.hok.fresh (Af _))
 . cases e
noncomputable def zjy:GN:=orN zla zgG
theorem zex(hc:X.calm=true):zdN X (.type "list") zjy:=zd6 zgZ (zfQ hc)
noncomputable def zh5:D->List D->Sto->Option (D×Sto):=fun x xs st=>match x,xs with
 | .str x,[.str y]=>some (.int (Txt.count x y),st)
 | _,_=>none
theorem zhJ:MtR X "str.count" (mtM X.K zh5):=by
 rintro pins s σ H x xs v us Q I rx rs ⟨dx,ds,st,io,d,st',Rx,Rs,S,e,k⟩;unfold zh5 at e
 split at e
 . rename_i z y;cases e
   cases (show x=.str z from Rx)
   obtain⟨t,rfl⟩:=rx;obtain⟨w,rfl,Rw⟩:=Rs.one
   cases (show w=.str y from Rw)
   obtain⟨u,rfl,ru⟩:=rs.one;obtain⟨t2,rfl⟩:=ru;exact SC.count ⟨.int _,H,I.tok _,⟨_,rfl⟩,k.now S rfl⟩
 . cases e
noncomputable def zlA(g:D->List D->Sto->Option (D×Sto))(m:ME)(mm:MA):ME:=fun ρ st=>(m ρ st).bind fun (x,s1)=>match x with
 | .str _=>(mm ρ s1).bind fun (xs,s2)=>g x xs s2
 | _=>none
theorem zgB{g:D->List D->Sto->Option (D×Sto)}{σ:L2.St}{H:Hp}{Q:VK}(h:tE K (zlA g m mm) σ H Q):tBM K "str" (mtM K g) (tE K m) (tA K mm) σ H Q:=by
 obtain⟨ρ,st,io,d,st',E,S,e,k⟩:=h;obtain⟨⟨x,s1⟩,e1,e⟩:=zad e
 cases x with
 | str z =>
   obtain⟨⟨xs,s2⟩,e2,e⟩:=zad e;refine⟨ρ,st,io,_,s1,E,S,e1,fun v1 H1 k1 X1 S1 R1=>⟨by cases (show v1=.str z from R1);rfl,ρ,s1,io++k1,xs,s2,E.ext S X1,S1,e2,fun vs H2 k2 X2 S2 R2=>?_⟩⟩;exact⟨_,xs,s2,(io++k1)++k2,d,st',R1.ext S1 X2,R2,S2,e,(k.on S1 X1).on S2 X2⟩
 | _=>cases e
theorem zkB{name:Str}{id:String}{g:D->List D->Sto->Option (D×Sto)}{o:Expr}{apos cpos:Pos}(slot:Slot "str" name id)(hty:typeOf (.builtin id)=pure (.type "method_descriptor"))(hm:MtR X id (mtM X.K g))(ho:SE X o m)(ha:SA X (e::es) mm)
   (hbase:attributeBase o name X.env (eval o X.env)=eval o X.env:=by rfl)
   (hfew:((backTo cpos (starEach (e::es) X.env)).all (fun x=>!x.1)&&(backToKw cpos (keywordEach [] X.env)).all (fun x=>x.1.isSome)
    &&decide ((e::es).length+([]:List Keyword).length+(if ([]:List Keyword).isEmpty then 0 else 1) < 30))=true:=by rfl)
   (hline:(apos.endLine==cpos.line)=true:=by rfl) (hs:starEach (e::es) X.env=(false,eval e X.env)::starEach es X.env:=by rfl) (hplain:(backTo cpos (starEach es X.env)).any (·.1)=false:=by rfl) :
   SE X (.Call (.Attribute o name apos) (e::es) [] cpos) (zlA g m mm) :=
 PE.imp (zlv Dv slot hty hm ho ha hbase hfew hline hs hplain) fun σ H Q h=>zgB h
noncomputable def slK:D->Option Int->Option Int->Sto->Option (D×Sto):=fun x lo hi st=>match x with
 | .kl ds=>some (.ref st.length,st++[.lst (cutD ds lo hi)])
 | _=>none
noncomputable def slB:D->Option Int->Option Int->Sto->Option (D×Sto):=fun x lo hi st=>orO (slA x lo hi st) (slK x lo hi st)
noncomputable def mSlB(m:ME)(l h:MO):ME:=fun ρ st=>(m ρ st).bind fun (x,s1)=>(l ρ s1).bind fun (lo,s2)=>(h ρ s2).bind fun (hi,s3)=>slB x lo hi s3
theorem zdQ{lo hi:Option Expr}{ml mh:MO}{p2:Pos}(he:SE X e m)(hl:SO X lo ml)(hu:SO X hi mh):SE X (.Subscript e (.Slice lo hi none p2) pos) (mSlB m ml mh):=by
 rintro pins s σ H Q I ⟨ρ,st,io,d,st',E,S,e0,k⟩;obtain⟨⟨x,s1⟩,e1,e0⟩:=zad e0;obtain⟨⟨lo',s2⟩,e2,e0⟩:=zad e0;obtain⟨⟨hi',s3⟩,e3,e0⟩:=zad e0
 rcases zb1 e0 with e0 | e0
 . exact zht he hl hu pins s σ H Q I ⟨ρ,st,io,d,st',E,S,by simp only[mSlA,e1,e2,e3,Ac];exact e0,k⟩
 . refine zdV zij he hl hu pins s σ H Q I ?_;refine⟨ρ,st,io,x,s1,E,S,e1,fun v1 H1 k1 X1 S1 R1=>⟨ρ,s1,io++k1,lo',s2,E.ext S X1,S1,e2,fun H2 k2 X2 S2=>⟨ρ,s2,(io++k1)++k2,hi',s3,(E.ext S X1).ext S1 X2,S2,e3,fun H3 k3 X3 S3=>?_⟩⟩⟩;have R3:=(R1.ext S1 X2).ext S2 X3;have k':=((k.on S1 X1).on S2 X2).on S3 X3
   cases x with
   | kl ds =>
     cases e0;obtain⟨p,xs,rfl,hx,r⟩:=R3;exact⟨p,xs,rfl,hx.sq,fun q hq=>k'.lst S3 (zgU r _ _) hq⟩
   | _=>cases e0
noncomputable def zgw:G2
 | .str i,.str j,st=>some (.bl (!(!(Bm j i 0 j.length 1).isEmpty)),st)
 | _,_,_=>none
theorem zgn:OpM X (compareOp .NotIn) zgw:=by
 rintro pins s σ H x y v u Q I rx ry ⟨dx,dy,st,io,d,st',Rx,Ry,S,e,k⟩
 cases dx with
 | str i =>
   cases dy with
   | str j=>cases e;exact zeQ pins s σ H x y v u Q I rx ry ⟨i,j,Rx,Ry,k.now S rfl⟩
   | _=>cases e
 | _=>cases e
noncomputable def zhI:G2:=orG zjo zgw
theorem zhx(hu:X.A.units+100 < cLine)(ha:SE X a ma)(hb:SE X b mb)(hm:behindInMarks .NotIn b=false:=by rfl):SB X (.Compare a [.NotIn] [b] pos) (mTst (mBin zhI ma mb)) :=
 zkG (zhy hu ha hb hm) (zbx zgn ha hb hm)
end
end L2.MP
namespace PySem.F
end PySem.F
namespace PySem
open Builtin
end PySem
namespace L2.MP
open PySem PySem.Spec PyProof.Rows
section
variable {ρ ρ1:Rho} {st s1:Sto} {m n o ma mb:ME} {mm:MA} {ms mq:MS} {mt mu:MT} {d:D} {ml mh:MO}
@[simp] theorem zlq:mWA m ρ st=(m ρ st).bind fun p=>orO (zif p.1 p.2) (match p.1 with | .str z=>some (⟨signs z,[]⟩,p.2) | _=>none):=rfl
theorem zj0:mPop m mm ρ st=(m ρ st).bind fun p=>match p.1 with
 | .ref n=>(zcd p.2 n).bind fun _=>(mm ρ p.2).bind fun q=>popD p.1 q.1 q.2
 | _=>none:=rfl
theorem ziG{g:D->List D->Sto->Option (D×Sto)}:zlA g m mm ρ st=(m ρ st).bind fun p=>match p.1 with
 | .str _=>(mm ρ p.2).bind fun q=>g p.1 q.1 q.2
 | _=>none:=rfl
@[simp] theorem zjZ:mSlB m ml mh ρ st=(m ρ st).bind fun p=>(ml ρ p.2).bind fun q=>(mh ρ q.2).bind fun r=>slB p.1 q.1 r.1 r.2:=rfl
end
section
variable {prog:Program} {w:World} {A:Around} {E:Value->Shared->Prop} {s:Shared}
theorem zhU{d:Addr}{o:Obj}{es:Array DictEntry}{ep:Nat}{R:Value->Shared->Prop}(ty:s.TypeIs (.ref d) "dict")(hd:(d==sysModules)=false)(g:s.heap.get? d=some o)(dd:o.data=.dict es ep)
   (k:R (.ref s.heap.objs.size) { s with heap:=s.heap.push { cls:=.type "dict_keyiterator",data:=.fields #[.ref d,.int 0 0,.int es.size 0,.int ep 0] } }):wpAny (model prog w) A (pyIter (.ref d)) R E s:=by
 refine wpAny_pyIter_slot ty F.slot_dict_iter (A2 F.slot_dict_iter ty F.entry_dict_iter ?go (F.args_dict_iter_1 _));unfold Builtin.«dict.__iter__»;refine Aa ?_;unfold Builtin.Dict.dictSlotNone;refine Aa (wpAny_notOrdered_dict ty ?_);show wpAny _ _ (pure (AO d)) _ _ s;refine Ae ?_;show wpAny _ _ (Dy d >>= _) _ _ s;unfold Dy;rw[if_neg (by rw[hd];exact Bb)];refine Aa (Ae (Aa (C1 g dd (Aa (Do g dd ?_)))));refine Aa (AJ (Ae ⟨_,rfl,"dict_keyiterator",_,⟨_,An _ rfl,rfl⟩,F.slot_dict_keyiterator_next.lookup,?_⟩));simpa[rawInt] using k
theorem zhT{it d:Addr}{i ep:Nat}{o:Obj}{es:Array DictEntry}{en:DictEntry}{R:Option Value->Shared->Prop}(hit:s.heap.IsKeyIter it d i es.size ep)(g:s.heap.get? d=some o)(dd:o.data=.dict es ep)(hx:es[i]?=some en)
   (k:∀ h',h'.IsKeyIter it d (i+1) es.size ep->B4 it s.heap h'->R (some en.key) { s with heap:=h' }):wpAny (model prog w) A (pyNext (.ref it)) R E s:=by
 obtain⟨io,ig,ic,idt⟩:=id hit;have own:CI "dict_keyiterator"=false:=by decide
 unfold pyNext;refine Aa (CQ (AR (name:=A9 "__next__") hit.typeIs F.slot_dict_keyiterator_next (A2 F.slot_dict_keyiterator_next hit.typeIs F.entry_dict_keyiterator_next ?_ (F.args_dict_keyiterator_next_1 _))));refine Aa (Ae (Aa (Aa ?_)));refine Aa (Bl hit.typeIs (Ae (Aa (wpAny_fieldsOf ig idt ?_))));simp only[own,A1,if_false];show wpAny _ _ (if (AO d==Ba)=true then _ else _) _ _ s;rw[if_neg (show ¬ (AO d==Ba)=true from fun z=>Bb z)];refine Aa (Ae (Aa (C1 g dd ?_)));rw[if_neg (by simp)];refine Aa (Ae (Aa (Do g dd ?_)));rw[if_neg (by simp)];refine Ae ?_;have ni:¬ ((i:Int) < 0):=by omega
 simp only[ni,if_false,BO,hx];refine Aa (Aa (Bl hit.typeIs (Ae (Aa (Dz hit.typeIs ?_)))));show wpAny _ _ (setField (.ref it) 1 (rawInt ((i:Int)+1)) >>= _) _ _ s;refine Aa (CH ig idt (by simp) ?_);have h2:(s.heap.update it (Ey (·.setIfInBounds 1 (rawInt ((i:Int)+1))))).IsKeyIter it d (i+1) es.size ep:=⟨_,Cq _ ig (Dx (B9 idt _)),(DY ..).trans ic,by rw[B9 idt];simp[rawInt]⟩
 refine Aa (Bj (Aa (Dz (s:={ s with heap:=s.heap.update it (Ey (·.setIfInBounds 1 (rawInt ((i:Int)+1)))) }) h2.typeIs ?_)));show wpAny _ _ (pure en.key) _ _ _;exact Ae (Ae ⟨_,rfl,Ae (k _ h2 (BZ ..))⟩)
theorem zhS{it d:Addr}{i ep:Nat}{o:Obj}{es:Array DictEntry}{R:Option Value->Shared->Prop}(hh:A.handled=none)(hit:s.heap.IsKeyIter it d i es.size ep)(g:s.heap.get? d=some o)(dd:o.data=.dict es ep)(hx:es[i]?=none)
   (k:∀ h',D5 it s.heap h'->R none { s with heap:=h' }):wpAny (model prog w) A (pyNext (.ref it)) R E s:=by
 obtain⟨io,ig,ic,idt⟩:=id hit;have own:CI "dict_keyiterator"=false:=by decide
 unfold pyNext;refine Aa (CQ (AR (name:=A9 "__next__") hit.typeIs F.slot_dict_keyiterator_next (A2 F.slot_dict_keyiterator_next hit.typeIs F.entry_dict_keyiterator_next ?_ (F.args_dict_keyiterator_next_1 _))));refine Aa (Ae (Aa (Aa ?_)));refine Aa (Bl hit.typeIs (Ae (Aa (wpAny_fieldsOf ig idt ?_))));simp only[own,A1,if_false];show wpAny _ _ (if (AO d==Ba)=true then _ else _) _ _ s;rw[if_neg (show ¬ (AO d==Ba)=true from fun z=>Bb z)];refine Aa (Ae (Aa (C1 g dd ?_)));rw[if_neg (by simp)];refine Aa (Ae (Aa (Do g dd ?_)));rw[if_neg (by simp)];refine Ae ?_;have ni:¬ ((i:Int) < 0):=by omega
 simp only[ni,if_false,BO,hx];refine Aa (Aa (Bl hit.typeIs (Ae ?_)));show wpAny _ _ (setField (.ref it) 0 .none >>= _) _ _ s;refine Aa (CH ig idt (by simp) ?_);show wpAny _ _ (newExc (.type "StopIteration") [] >>= _) _ _ _;simp only[newExc,newTuple];refine Aa (Aa (AJ (Aa (m:=firstArgMember _ _) (wpAny_of_eq (a:=Ba) (by first | rfl | (simp only[firstArgMember];rfl)) (AJ ?_ (by size_fits)))) (by size_fits)));simp only[raiseNew];refine Aa (wpAny_handled ?_);rw[show A.in1.handled=none from hh];refine Aa (Ae (wpAny_throw ?_));refine Aa (wpAny_isInstance (T:="StopIteration") (b:=true) ⟨_,An _ rfl,rfl⟩ isSubtype_stop (Ae ?_));exact k _ (((BZ ..).extBut.push _).push _)
end
section
variable {X:Cx} {K:Ab} {H:Hp} {io:List Addr} {m:ME} {st st':Sto} {tg:Expr}
noncomputable def zm4(kvs:List (List Key×D)):List D:=kvs.map fun p=>.tup (p.1.map keyD)
end
section
variable {prog:Program} {w:World} {A:Around} {E:Value->Shared->Prop} {s:Shared}
theorem zfS{sl:Addr}{t:Tok}{n:Nat}{Q:Int×Int×Nat->Shared->Prop}(hs:s.heap.IsSliceOf sl .none .none (.int (-1) t))(h:Q ((n:Int) - 1,-1,n) s):wpAny (model prog w) A (BA (.ref sl) (pure (n:Int))) Q E s:=by
 obtain⟨os,hos,hcs,hds⟩:=id hs;unfold BA C3;refine Aa (Aa (AU hos hds (x:=.none) rfl (Aa (AU hos hds (x:=.none) rfl (Aa (AU hos hds (x:=.int (-1) t) rfl (Ae ?_)))))));refine Aa (HT.slicePart_ (.int (-1) t) ?_);show wpAny _ _ (if ((-1:Int)==0)=true then _ else _) _ _ s;rw[if_neg (by decide)];refine Aa (HT.slicePart_ .none (Aa (HT.slicePart_ .none (Aa (Ae ?_)))));have e1:A5 none none (-1) (n:Int)=((n:Int) - 1,-1):=by
   unfold A5;simp
 have e2:AS ((n:Int) - 1) (-1) (-1)=n:=by
   unfold AS;have h1:¬ ((-1:Int) > 0):=by decide
   simp only[h1,if_false]
   by_cases hn:(-1:Int) < (n:Int) - 1
   . simp[hn]
   . simp[hn];omega
 show wpAny _ _ (match A5 none none (-1) (n:Int) with | (lo,hi)=>pure (lo,(-1:Int),AS lo hi (-1))) _ _ s;rw[e1];show wpAny _ _ (pure ((n:Int) - 1,(-1:Int),AS ((n:Int) - 1) (-1) (-1))) _ _ s;rw[e2];exact Ae h
theorem zgQ{α β:Type}{f g:α->Option β}:∀ {l:List α},(∀ x∈l,f x=g x)->l.filterMap f=l.filterMap g
 | [],_=>rfl
 | a::l,h=>by
   rw[BH,BH,h a Au,zgQ fun x hx=>h x (Am _ hx)]
theorem zjb(xs:Array Value):((BK xs.size).filterMap fun (m:Nat)=>xs[(((xs.size:Int) - 1)+(m:Int)*-1).toNat]?).toArray=xs.toList.reverse.toArray:=by
 congr 1
 have e:∀ m∈BK xs.size,xs[(((xs.size:Int) - 1)+(m:Int)*-1).toNat]?=xs[xs.size - 1 - m]?:=fun m hm=>by
   have:=List.mem_range.mp hm;have:(((xs.size:Int) - 1)+(m:Int)*-1).toNat=xs.size - 1 - m:=by omega
   rw[this]
 rw[zgQ e];have h2:(BK xs.size).filterMap (fun m=>xs[xs.size - 1 - m]?)=((BK xs.size).map fun k=>xs.size - 1 - k).filterMap (xs[·]?):=by
   rw[DR];rfl
 rw[h2,PySem.W.krv_range,List.filterMap_reverse,PySem.W.krv_all]
theorem zcY{t sl:Addr}{items:Array Value}{tk:Tok}{Q:Value->Shared->Prop}(ht:IsTup s.heap t items)(hs:s.heap.IsSliceOf sl .none .none (.int (-1) tk))
   (h:Q (.ref s.heap.objs.size) { s with heap:=s.heap.push { cls:=.type "tuple",data:=.seq items.toList.reverse.toArray } }) (hsz:items.size<=sizeLine):wpAny (model prog w) A (getItem (.ref t) (.ref sl)) Q E s:=by
 have htake:sizeOk (.seq items.toList.reverse.toArray):=by
   show items.toList.reverse.toArray.size<=sizeLine;rw[Ai,CF,Ar];exact hsz
 obtain⟨os,hos,hcs,hds⟩:=id hs;have hTs:s.TypeIs (.ref sl) "slice":=⟨os,hos,hcs⟩
 unfold getItem
 try with_reducible refine Bj ?_
 first | refine Aa (Ae ?_) | skip
 refine Aa (CY ht.typeIs (by decide) ?_);refine Aa (AR (name:=A9 "__getitem__") ht.typeIs AY (A2 AY ht.typeIs CC ?_ (CL _ _)));show wpAny _ _ (BW (.ref t) >>= _) _ _ s;refine Aa (DF ht ?_);refine Aa (Dc hTs ?_);rw[if_pos (by decide)];refine Aa (zfS hs ?_);have hno:¬ ((((items.size:Int) - 1)==0&&(-1:Int)==1&&items.size==items.size)=true):=by
   intro q;rw[Ag,Ag] at q;exact absurd q.1.2 (by decide)
 show wpAny _ _ (if (((items.size:Int) - 1)==0&&(-1:Int)==1&&items.size==items.size)=true then _ else _) _ _ s;rw[if_neg hno,zjb]
 first
   | exact Aa (m:=AV _) (AJ (Ae ⟨_,rfl,Ae h⟩) htake)
   | exact Aa (m:=AV _) (AJ (Aa (Ae (Ae ⟨_,rfl,Ae h⟩))) htake)
   | exact Aa (Aa (m:=AV _) (AJ (Ae (Ae ⟨_,rfl,Ae h⟩)) htake))
   | exact Aa (Aa (m:=AV _) (AJ (Ae ⟨_,rfl,Ae h⟩) htake))
end
section
variable {X:Cx} {K:Ab} {H:Hp} {io:List Addr} {st st':Sto} {a b c e:Expr} {es:List Expr} {ma mb mc m mk:ME} {mm:MA} {pos:Pos} {pins:List (Addr×Obj)} {σ:L2.St} {s:Shared}
noncomputable def zm9(K:Ab)(te:TE)(ts:TO):TE:=fun σ H Q=>te σ H fun x H1=>ts σ H1 fun k H2=>k=some (-1)/\∃ a xs,x=.ref a/\H2 a=some (.tup xs)/\∀ p,H2 p=none->Q (.ref p) (upd H2 p (.tup xs.reverse))
theorem zkR{te:TE}{ts:TO}{p2:Pos}{se:Expr}(he:PE X e te)(hs:PO X (some se) ts):PE X (.Subscript e (.Slice none none (some se) p2) pos) (zm9 X.K te ts):=by
 intro pins s σ H Q I h;refine DC (thn (he pins s σ H _ I h) ?_);rintro v s1 ⟨x,H1,I1,r1,q1⟩;refine wpAny_Slice ?_;rw[DG];refine Ae (Ae ?_);refine thn (hs pins s1 σ H1 _ I1 q1) ?_;rintro vs s3 ⟨k,H3,I3,pk,hk,a,xs,hx,hq,q3⟩;subst hk;subst hx;cases r1;have I4:Inv X pins σ H3 { s3 with heap:=s3.heap.push { cls:=.type "slice",data:=.fields #[.none,.none,vs] } }:=I3.kept (t':=s3.toks) fun b ob q=>Ad _ q;obtain⟨its,r,ht,hz⟩:=I4.tuple (SqT.of (K:=X.K) hq);have hlen:=r.length;show wpAny (model X.prog X.w) X.A (subscriptTail e (.Slice none none (some se) p2) (.ref a) (.ref s3.heap.objs.size)) (EP X pins σ Q) X.xe { s3 with heap:=s3.heap.push { cls:=.type "slice",data:=.fields #[.none,.none,vs] } }
 cases pk with
 | int i ti =>
 refine tail_any (ops:=[.ref a,.ref s3.heap.objs.size]) ht.typeIs PyProof.Rows.slot_tuple_getitem.lookup ?_ (by with_unfolding_all rfl);refine zcY ht (DS ..) ?_ (by rw[Ai];omega);refine⟨.ref (s3.heap.push { cls:=.type "slice",data:=.fields #[.none,.none,.int (-1) ti] }).objs.size,_,I4.laid (t':=s3.toks) (o:=.tup xs.reverse) (fun b ob q=>Ad _ q) (Af _) ?_,rfl,q3 _ (I4.hok.fresh (Af _))⟩;exact⟨by rw[CF];exact hz,_,zfX r,zdB.new _ _⟩
noncomputable def zj7(m mk:ME):ME:=fun ρ st=>(m ρ st).bind fun (x,s1)=>(mk ρ s1).bind fun (k,s2)=>match x,k with
 | .tup ds,.int i=>if (decide (i=-1))=true then some (.tup ds.reverse,s2) else none
 | _,_=>none
theorem zkx{p2:Pos}{se:Expr}(he:SE X e m)(hk:SE X se mk):SE X (.Subscript e (.Slice none none (some se) p2) pos) (zj7 m mk) :=
 PE.imp (zkR he (zio hk)) <| by
   rintro σ H Q ⟨ρ,st,io,d,st',E,S,e,k⟩;obtain⟨⟨x,s1⟩,e1,e⟩:=zad e;obtain⟨⟨y,s2⟩,e2,e⟩:=zad e;refine⟨ρ,st,io,x,s1,E,S,e1,fun v1 H1 k1 X1 S1 R1=>?_⟩;refine⟨ρ,s1,io++k1,y,s2,E.ext S X1,S1,e2,fun v2 H2 k2 X2 S2 R2=>?_⟩
   cases x with
   | tup ds =>
     cases y with
     | int i =>
       obtain⟨hi,e⟩:=zam e;cases e;have hi1:=of_decide_eq_true hi;subst hi1;obtain⟨p,xs,rfl,hp,r⟩:=R1.ext S1 X2;exact⟨_,R2,rfl,p,xs,rfl,hp,fun l hl=>((k.on S1 X1).on S2 X2).tup S2 (zgf r) hl⟩
     | _=>cases e
   | _=>cases e
end
section
variable {X:Cx} {K:Ab} {H:Hp} {io:List Addr} {st st':Sto} {a b c e:Expr} {es:List Expr} {ma mb mc m:ME} {mm:MA} {pos:Pos}
noncomputable def zgE(i:Int):Bool:=decide (i.natAbs.log2 < 1920)
noncomputable def strC:GN
 | [.str x],st=>some (.str x,st)
 | [.int i],st=>if zgE i=true then some (.str (toString i),st) else none
 | _,_=>none
theorem zh9:zdN X (.type "str") strC:=by
 rintro pins s σ H xs us Q I r ⟨ds,st,io,d,st',R,S,e,k⟩;unfold strC at e
 split at e
 . rename_i x;cases e;obtain⟨v,rfl,rv⟩:=R.one
   cases (show v=.str x from rv)
   obtain⟨u,rfl,t,rfl⟩:=r.one;exact PySem.P.str_of_str ⟨.str x,H,I,⟨t,rfl⟩,k.now S rfl⟩
 . rename_i i;obtain⟨hf,e⟩:=zam e;cases e;obtain⟨v,rfl,rv⟩:=R.one
   cases (show v=.int i from rv)
   exact zeY pins s σ H _ us Q I r ⟨i,rfl,of_decide_eq_true hf,k.now S rfl⟩
 . cases e
end
end L2.MP
namespace L2.MP
section
open PySem PySem.Spec PyProof.Rows PySem.Builtin PySem.Builtin.Str
variable {prog:Program} {w:World} {A:Around} {E:Value->Shared->Prop} {s:Shared} {z y:Str} {t u:Tok} {Q:Value->Shared->Prop}
end
section
open PySem PySem.Spec PyProof.Rows
variable {X:Cx} {K:Ab} {H:Hp} {io:List Addr} {st st':Sto} {a b c e:Expr} {es:List Expr} {ma mb mc m:ME} {mm:MA} {pos:Pos}
end
end L2.MP
namespace L2.MP
open PySem
end L2.MP
namespace L2.MP
open PySem PySem.Spec PyProof.Rows
@[irreducible] def JSs (X:Cx) (s:List Stmt) (m:MS):Prop:=SSs X s m
@[irreducible] def JS (X:Cx) (s:Stmt) (m:MS):Prop:=SS X s m
@[irreducible] def JA (X:Cx) (es:List Expr) (m:MA):Prop:=SA X es m
section
variable {X:Cx} {e a b c:Expr} {es:List Expr} {st1 st2:Stmt} {rest body orelse:List Stmt} {pos:Pos} {m ma mb mc:ME} {mt mu:MT} {mm:MA} {ms mq mr:MS} {mg:MG} {mi:MI}
theorem JSs.out(h:JSs X body ms):SSs X body ms:=by unfold JSs at h;exact h
theorem JSs.mk(h:SSs X body ms):JSs X body ms:=by unfold JSs;exact h
theorem JS.out(h:JS X st1 ms):SS X st1 ms:=by unfold JS at h;exact h
theorem JS.mk(h:SS X st1 ms):JS X st1 ms:=by unfold JS;exact h
theorem JA.out(h:JA X es mm):SA X es mm:=by unfold JA at h;exact h
theorem JA.mk(h:SA X es mm):JA X es mm:=by unfold JA;exact h
theorem zbk:JSs X [] zcr:=.mk zkl
theorem zar(h:JS X st1 ms):JSs X [st1] ms:=.mk (zkk h.out)
theorem zai(h:JS X st1 ms)(h2:JSs X rest mq):JSs X (st1::rest) (mSeq ms mq):=.mk (ziT h.out h2.out)
theorem zea(hc:SB X c mt)(h1:JSs X body ms)(h2:JSs X orelse mq):JS X (.If c body orelse pos) (mIf mt ms mq):=.mk (zni hc h1.out h2.out)
theorem zfL{tg iter:Expr}(hp:PassesOwn (model X.prog X.w) X.A X.env X.xe)(hc:X.calm=true)(hi:SI X tg iter mi)(hg:SG X tg mg)(hb:JSs X body ms)(hs:∀ x,foldedSetIterable iter X.env x=pure x:=by intro _;rfl):JS X (.For tg iter body [] pos) (mFor mi mg ms):=.mk (zlM hp hc hi hg hb.out hs)
theorem zjB{n:Nat}(hp:PassesOwn (model X.prog X.w) X.A X.env X.xe)(hc:SB X c mt)(hb:JSs X body ms):JS X (.While c body [] pos) (mWhF mt ms n):=.mk (ziU hp hc hb.out)
theorem zfM:JA X [] mNil:=.mk zaf
theorem zao(ha:SE X e m)(hr:JA X es mm)(hs:∀ q,starEach (e::q) X.env=(false,eval e X.env)::starEach q X.env:=by intro _;rfl):JA X (e::es) (zac m mm):=.mk (zaa ha hr.out (hs _))
end
section
variable {prog:Program} {w:World} {A:Around}
theorem zfV(hh:A.handled=none)(it d:Addr)(hne:d≠it){o:Obj}{es:Array DictEntry}{ep:Nat}(dd:o.data=.dict es ep) :
   Walks prog w A it [it,d] [it] es.size (fun i v=>∃ en,es[i]?=some en/\v=en.key) (fun i h=>h.IsKeyIter it d i es.size ep/\h.get? d=some o) where
 sub:=fun b hb=>by simp at hb;simp[hb]
 frame:=fun _ _ _ st hk=>⟨st.1.at fun o e=>hk it (by simp) o e,hk d (by simp) o st.2⟩
 item:=fun i s Q E hi st hQ=>by
   have hx:es[i]?=some es[i]:=B2 hi;refine zhT st.1 st.2 dd hx fun h' st' sb=>?_;exact hQ _ h' s.toks ⟨_,hx,rfl⟩ ⟨st',(sb.2 d hne).trans st.2⟩ fun b ob hb e=>(sb.2 b (fun z=>hb (by simp[z]))).trans e
 done:=fun s Q E st hQ=>zhS hh st.1 st.2 dd (by simp) fun h' eb=>hQ h' s.toks fun b ob hb e=>eb b ob (fun z=>hb (by simp[z])) e
 self:=fun _ _ _ _ st hQ=>wpAny_pyIter_keyiter st.1 hQ
theorem ziV{d:Addr}{o:Obj}{es:Array DictEntry}{ep:Nat}(dd:o.data=.dict es ep)(hd:(d==sysModules)=false)(ty:∀ s:Shared,s.heap.get? d=some o->s.TypeIs (.ref d) "dict") :
   PySem.W.KdlSrc prog w "dict" d d es.size (fun i v=>∃ en,es[i]?=some en/\v=en.key) (fun h=>h.get? d=some o) where
 type:=ty
 there:=fun _ g=>⟨Aj g,Aj g⟩
 keep:=fun _ _ g hk=>hk d (.inl rfl) o g
 notList:=by decide
 notTuple:=by decide
 hint:=fun _ _ s _ g hq=>PySem.W.kdl_hint_dict (ty s g) hq
 iter:=fun A' s hh g=>⟨_,_,fun _ _ hq=>zhU (ty s g) hd g dd hq,zfV hh _ d (AC (Aj g)) dd,⟨⟨_,An _ rfl,rfl,rfl⟩,Ad _ g⟩⟩
end
section
variable {X:Cx} {K:Ab} {H:Hp} {io:List Addr} {st st':Sto}
theorem zfj{K:Ab}{H:Hp}{io:List Addr}:∀ {vs:List Value} {ps:List (List Key×V)} {kvs:List (List Key×D)},KR (List Key) K H io ps kvs->vs.length=ps.length->(∀ (j:Nat) (v:Value) (p:List Key×V),vs[j]?=some v->ps[j]?=some p->∃ b,v=.ref b/\H b=some (.tup (p.1.map kV)))->∃ ys,Vals ys vs/\Reps K H io ys (zm4 kvs)
 | [],_,_,.nil,_,_=>⟨[],.nil,rfl⟩
 | [],_::_,_,.cons _ _,hl,_=>by simp at hl
 | v::vs,_,_,.nil,hl,_=>by simp at hl
 | v::vs,p::ps,q::kvs,.cons h t,hl,hv=>by
   obtain⟨b,rfl,hb⟩:=hv 0 v p rfl rfl;obtain⟨ys,r1,r2⟩:=zfj (vs:=vs) t (by simpa using hl) fun j v p e1 e2=>hv (j+1) v p (by simpa using e1) (by simpa using e2);refine⟨.ref b::ys,.cons rfl r1,Reps.cons ⟨b,_,rfl,hb,?_⟩ r2⟩;rw[h.1];exact zeV _
noncomputable def zjx:GN
 | [.ref n],st=>match st[n]? with
   | some (.dt kvs)=>if fits kvs.length=true then some (.ref st.length,st++[.lst (zm4 kvs)]) else none
   | _=>none
 | _,_=>none
theorem zfR(hc:X.calm=true):zdN X (.type "list") zjx:=by
 rintro pins s σ H xs us Q I r ⟨ds,st,io,d,st',R,S,e,k⟩;unfold zjx at e
 split at e
 . rename_i n
   split at e
   . rename_i kvs en;obtain⟨hf,e⟩:=zam e;cases e;obtain⟨v,rfl,p,rfl,hp⟩:=R.one;obtain⟨u,rfl,ru⟩:=r.one;cases ru;obtain⟨ps,hH,rk⟩:=S.ob n p _ hp en;obtain⟨t1,t2,hs⟩:=zmP I (.inr ⟨ps,.inl hH⟩);obtain⟨z,y,xs,r0,o,es,ep,g,ex,dd,et,nd⟩:=I.hok p _ hH;have x:=I.hok p _ hH;have fz:zde X.prog X.w H s.heap p (.frz o (.dT ps)):=⟨g,x⟩
     obtain⟨g',hl,ent⟩:=zjP fz dd;have hsz:es.size<=sizeLine:=by
       rw[hl,KR.length rk];exact of_decide_eq_true hf
     refine PySem.W.kdl_call (ziV (prog:=X.prog) (w:=X.w) dd hs (fun s' g'=>?_)) (I.ok.hd hc) g hsz fun h' tk acc c' hk hat hacc=>?_
     . obtain⟨o',ho',hc'⟩:=t1;rw[g] at ho';cases ho';exact⟨o,g',hc'⟩
     . obtain⟨ys,rv,rr⟩:=zfj (vs:=acc.toList) rk (by rw[Ar,hacc.1,hl]) fun j v q e1 e2=>by
         obtain⟨en',h1,h2⟩:=hacc.2 j v (by rw[<-Bc];exact e1);obtain⟨en2,b,h3,h4,h5,_⟩:=ent j q.1 q.2 e2;rw[h1] at h3;cases h3;exact⟨b,by rw[h2,h4],h5⟩
       have hyl:ys.length<=sizeLine:=by rw[rv.length,Ar,hacc.1];exact hsz
       refine⟨.ref s.heap.objs.size,upd H s.heap.objs.size (.lst ys),I.laid (t':=tk) (fun b o q=>hk b o q) (Af _) ⟨hyl,acc.toList,c',rv,by simpa using hat⟩,rfl,?_⟩;exact k.lst S rr (I.hok.fresh (Af _))
   . cases e
 . cases e
noncomputable def zfT:GN:=orN zjy zjx
theorem zew(hc:X.calm=true):zdN X (.type "list") zfT:=zd6 (zex hc) (zfR hc)
end
section
variable {X:Cx} {K:Ab} {H:Hp} {io:List Addr} {st st':Sto} {body:List Stmt} {ms:MS} {pos:Pos}
noncomputable def isBD:G2:=orG isND fun x y st=>match x,y with
 | .bl a,.bl b=>some (.bl (a==b),st)
 | _,_=>none
noncomputable def zmy:G2:=orG zm1 fun x y st=>match x,y with
 | .bl a,.bl b=>some (.bl (a != b),st)
 | _,_=>none
theorem zir:OpM X (compareOp .Is) isBD:=zfB zk0 (by
 rintro pins s σ H x y v u Q I rx ry ⟨dx,dy,st,io,d,st',Rx,Ry,S,e,k⟩
 (try dsimp only at e)
 split at e
 . cases e
   cases (show x=_ from Rx)
   cases (show y=_ from Ry)
   cases rx;cases ry;exact PyProof.Rows.is_bool ⟨.bl _,H,I,rfl,k.now S rfl⟩
 . cases e)
theorem zji:OpM X (compareOp .IsNot) zmy:=zfB zjh (by
 rintro pins s σ H x y v u Q I rx ry ⟨dx,dy,st,io,d,st',Rx,Ry,S,e,k⟩
 (try dsimp only at e)
 split at e
 . cases e
   cases (show x=_ from Rx)
   cases (show y=_ from Ry)
   cases rx;cases ry;exact PyProof.Rows.isnot_bool ⟨.bl _,H,I,rfl,k.now S rfl⟩
 . cases e)
theorem zm5(a b:Bool):isBD (.bl a) (.bl b) st=some (.bl (a==b),st):=rfl
end
section
variable {X:Cx} {K:Ab} {H:Hp} {io:List Addr} {st st':Sto}
noncomputable def zlE:G2
 | .tup a,.tup b,st=>if (a.isEmpty&&fits b.length)=true then some (.tup b,st) else none
 | _,_,_=>none
theorem zjm:OpM X (binaryOp .Add) zlE:=by
 rintro pins s σ H x y v u Q I rx ry ⟨dx,dy,st,io,d,st',Rx,Ry,S,e,k⟩;unfold zlE at e
 split at e
 . rename_i i j;obtain⟨hf,e⟩:=zam e;cases e;rw[Ag] at hf;obtain⟨p,xs,rfl,hp,r1⟩:=Rx;obtain⟨q,ys,rfl,hq,r2⟩:=id Ry;cases rx;cases ry;obtain⟨m,F⟩:=I.fr;obtain⟨its,w1,p1,_⟩:=I.tuple (SqT.of hp);obtain⟨its2,w2,p2,_⟩:=I.tuple (SqT.of hq);have e0:its=[]:=by
     have a:=r1.length;have b:=w1.length;have c:i=[]:=by simpa using hf.1
     rw[c] at a;exact Bk (by have a':xs.length=0:=a;omega)
   have hz:its2.length<=sizeLine:=by
     have a:=r2.length;have b:=w2.length;have c:=of_decide_eq_true hf.2;omega
   exact PyProof.Rows.add_tuples F (news:=[]) (fun p hp=>nomatch hp) p1 p2 (fun _=>⟨.ref q,H,I,rfl,k.now S Ry⟩) (fun z _=>absurd e0 z) (fun z _=>absurd e0 z) (by rw[e0];simpa using hz)
 . cases e
noncomputable def addE:G2:=orG addD zlE
theorem zfe:OpM X (binaryOp .Add) addE:=zfB za3 zjm
end
end L2.MP
namespace L2.MP
open PySem PySem.Spec PyProof.Rows PySem.SeqAt PySem.MeetsSeq PySem.MeetsSeq2 PySem.MeetsSeq3
section
variable {prog:Program} {w:World} {A:Around} {E:Value->Shared->Prop} {s:Shared}
theorem zes{t sl:Addr}{items:Array Value}{vl vu:Value}{lo hi:Option Int}{Q:Value->Shared->Prop}(ht:IsTup s.heap t items)(hs:s.heap.IsSliceOf sl vl vu .none)(pl:IsPart vl lo)(pu:IsPart vu hi)
   (h0:HT.sIx items.size 0 lo=0) (h1:HT.sIx items.size items.size hi=items.size) (h:Q (.ref t) s):wpAny (model prog w) A (getItem (.ref t) (.ref sl)) Q E s:=by
 obtain⟨os,hos,hcs,hds⟩:=id hs;have hTs:s.TypeIs (.ref sl) "slice":=⟨os,hos,hcs⟩
 unfold getItem
 try with_reducible refine Bj ?_
 first | refine Aa (Ae ?_) | skip
 refine Aa (CY ht.typeIs (by decide) (Aa (AR (name:=A9 "__getitem__") ht.typeIs AY (A2 AY ht.typeIs CC ?_ (CL _ _)))));show wpAny _ _ (BW (.ref t) >>= _) _ _ s;refine Aa (DF ht (Aa (Dc hTs ?_)));rw[if_pos (by decide)];refine Aa (HT.sliceApplied_gen hs pl pu ?_);rw[h0,h1];have yes:((((0:Nat):Int)==0&&(1:Int)==1&&(items.size - 0)==items.size)=true):=by simp
 show wpAny _ _ (if (((0:Nat):Int)==0&&(1:Int)==1&&(items.size - 0)==items.size)=true then _ else _) _ _ s;rw[if_pos yes];refine Aa (m:=Builtin.Tuple.tupleIsExact _) (Aa (Dc ht.typeIs (Ae ?_)));rw[if_pos (by decide)];exact Aa (m:=(pure (Fin.done (Flow.ret (AO t))):Sem Fin)) (Ae (Ae ⟨_,rfl,Ae h⟩))
end
section
variable {X:Cx} {K:Ab} {H:Hp} {io:List Addr} {st st':Sto} {e:Expr} {m:ME} {pos:Pos}
noncomputable def rSlW(K:Ab):V->Option Int->Option Int->Hp->VK->Prop:=fun x lo hi H Q=>∃ a xs,x=.ref a/\SqT K H a xs/\HT.sIx xs.length 0 lo=0/\HT.sIx xs.length xs.length hi=xs.length/\Q (.ref a) H
theorem ziX:SlR X (rSlW X.K):=by
 intro pins s σ H x v vl vu lo hi sl Q I rx hs pl pu h;obtain⟨a,xs,rfl,hx,h0,h1,q⟩:=h;cases rx;obtain⟨its,r,ht,hz⟩:=I.tuple hx;have hlen:its.toArray.size=xs.length:=by rw[Ai];exact r.length.symm
 exact⟨"tuple",_,PyProof.Rows.slot_tuple_getitem.lookup,ht.typeIs,zes ht hs pl pu (by rw[hlen];exact h0) (by rw[hlen];exact h1) ⟨.ref a,H,I,rfl,q⟩⟩
noncomputable def slW:D->Option Int->Option Int->Sto->Option (D×Sto):=fun x lo hi st=>match x with
 | .tup ds=>if (decide (HT.sIx ds.length 0 lo=0)&&decide (HT.sIx ds.length ds.length hi=ds.length))=true then some (.tup ds,st) else none
 | _=>none
noncomputable def slC:D->Option Int->Option Int->Sto->Option (D×Sto):=fun x lo hi st=>orO (slB x lo hi st) (slW x lo hi st)
noncomputable def mSlC(m:ME)(l h:MO):ME:=fun ρ st=>(m ρ st).bind fun (x,s1)=>(l ρ s1).bind fun (lo,s2)=>(h ρ s2).bind fun (hi,s3)=>slC x lo hi s3
theorem zbp{lo hi:Option Expr}{ml mh:MO}{p2:Pos}(he:SE X e m)(hl:SO X lo ml)(hu:SO X hi mh):SE X (.Subscript e (.Slice lo hi none p2) pos) (mSlC m ml mh):=by
 rintro pins s σ H Q I ⟨ρ,st,io,d,st',E,S,e0,k⟩;obtain⟨⟨x,s1⟩,e1,e0⟩:=zad e0;obtain⟨⟨lo',s2⟩,e2,e0⟩:=zad e0;obtain⟨⟨hi',s3⟩,e3,e0⟩:=zad e0
 rcases zb1 e0 with e0 | e0
 . exact zdQ he hl hu pins s σ H Q I ⟨ρ,st,io,d,st',E,S,by simp only[mSlB,e1,e2,e3,Ac];exact e0,k⟩
 . refine zdV ziX he hl hu pins s σ H Q I ?_;refine⟨ρ,st,io,x,s1,E,S,e1,fun v1 H1 k1 X1 S1 R1=>⟨ρ,s1,io++k1,lo',s2,E.ext S X1,S1,e2,fun H2 k2 X2 S2=>⟨ρ,s2,(io++k1)++k2,hi',s3,(E.ext S X1).ext S1 X2,S2,e3,fun H3 k3 X3 S3=>?_⟩⟩⟩;have R3:=(R1.ext S1 X2).ext S2 X3;have k':=((k.on S1 X1).on S2 X2).on S3 X3;unfold slW at e0
   split at e0
   . rename_i ds;obtain⟨hw,e0⟩:=zam e0;cases e0;rw[Ag] at hw;obtain⟨p,xs,rfl,hp,r⟩:=id R3;exact⟨p,xs,rfl,SqT.of hp,by rw[r.length];exact of_decide_eq_true hw.1,by rw[r.length];exact of_decide_eq_true hw.2,k'.now S3 R3⟩
   . cases e0
end
end L2.MP
namespace L2.MP
open PySem L2 PySem.Spec PyProof.Rows
section
variable {K:Ab} {x:Str} {st:Stmt} {f:Addr}
structure FdIn(K:Ab)(x:Str)(st:Stmt)(f:Addr):Prop where
 ex:∃ (oc:Value) (od:Option Addr) (kV dc pm:Value) (an:Option Addr) (cd ct:Value) (sl:Array (Option Value)),K.lookup f=some ⟨oc,od,.func (Bu x x (zdu st) (zce st) (zan st) .none kV dc pm an cd ct),sl⟩/\Cd K cd x=true
 ns:AX K mainGlobals x=some (some (.ref f))
 kp:BD K (.ref f)=true
theorem zeW{oc kV dc pm cd ct:Value}{od an:Option Addr}{sl:Array (Option Value)}(a:AX K mainGlobals x=some (some (.ref f)))(l:K.lookup f=some ⟨oc,od,.func (Bu x x (zdu st) (zce st) (zan st) .none kV dc pm an cd ct),sl⟩)(c:Cd K cd x=true)(k:BD K (.ref f)=true):FdIn K x st f :=
 ⟨⟨oc,od,kV,dc,pm,an,cd,ct,sl,l,c⟩,a,k⟩
theorem zbP{h:Heap}{mg:Str->Option Value}{ps:List Str}(F:FdIn K x st f)(X:K.In h)(G:h.Ns mainGlobals mg)(b:∀ (kV doc pm:Value) (an:Option Addr) (cdv ct:Value) (us:List Value),us.length=ps.length->bindArgs (Bu x x (zdu st) (zce st) (zan st) .none kV doc pm an cdv ct) ⟨us,[]⟩=pure (ps.zip us)):Laid K mg x st ps:=by
 obtain⟨⟨oc,od,kV,dc,pm,an,cd,ct,sl,l,c⟩,a,k⟩:=F;exact⟨_,_,zjH l c k,DI X G a,(zjH l c k).binds b⟩
end
theorem len1{α:Type}{P:List α->Prop}(h:∀ a,P [a])(l:List α)(e:l.length=1):P l:=by
 rcases l with _ | ⟨a,_ | ⟨b,l⟩⟩
 . cases e
 . exact h a
 . cases e
theorem len2{α:Type}{P:List α->Prop}(h:∀ a b,P [a,b])(l:List α)(e:l.length=2):P l:=by
 rcases l with _ | ⟨a,l⟩
 . cases e
 . exact len1 (P:=fun l=>P (a::l)) (h a) l (EA e)
theorem len3{α:Type}{P:List α->Prop}(h:∀ a b c,P [a,b,c])(l:List α)(e:l.length=3):P l:=by
 rcases l with _ | ⟨a,l⟩
 . cases e
 . exact len2 (P:=fun l=>P (a::l)) (h a) l (EA e)
end L2.MP
namespace L2.MP
open PySem PySem.Spec PyProof.Rows
end L2.MP
namespace L2.MP
open PySem L2 PySem.Spec PyProof.Rows
end L2.MP
namespace L2.MP
open PySem PySem.Spec PyProof.Rows
end L2.MP
namespace L2.MP
open PySem PySem.Spec
section
variable {κ:Type} [DecidableEq κ]
noncomputable def met(val:Nat->κ):Nat->List κ
 | 0=>[]
 | i+1=>if val i∈met val i then met val i else met val i++[val i]
theorem zgA(val:Nat->κ):∀ i,(met val i).length<=i
 | 0=>Af _
 | i+1=>by
   have ih:=zgA val i;unfold met
   split
   . omega
   . rw[AA,By];omega
theorem zit(val:Nat->κ)(i:Nat)(x:κ):decide (x∈met val (i+1))=(decide (x∈met val i) || decide (x=val i)):=by
 rw[Bi,Dm,decide_eq_true_iff,decide_eq_true_iff,decide_eq_true_iff];rw[met]
 split
 . rename_i h
   constructor
   . exact .inl
   . rintro (z | z)
     . exact z
     . rw[z];exact h
 . rw[List.mem_append,CM]
theorem zju(val:Nat->κ)(i:Nat):(met val (i+1)).length=if decide (val i∈met val i)=true then (met val i).length else (met val i).length+1:=by
 rw[met]
 by_cases h:val i∈met val i
 . rw[if_pos h,if_pos (decide_eq_true h)]
 . rw[if_neg h,if_neg (by simpa using h),AA];rfl
end
section
variable {prog:Program} {w:World} {A:Around} {R:Result->Shared->Prop} {I:Addr} {fp wr:List Addr} {G:Array GenState->Array GenState->Prop} {n:Nat} {P:Nat->Value->Prop} {St:Nat->Shared->Prop} {κ:Type} [DecidableEq κ] {knd:KeyKind prog w κ}
theorem zha{h:Heap}{a:Addr}{S S':κ->Bool}{n n':Nat}(x:h.SetOf knd a S n)(e:∀ k,S k=S' k)(en:n=n'):h.SetOf knd a S' n':=by
 have:S=S':=funext e;subst this;subst en;exact x
theorem zi1(W:WalksS prog w A.in1 I fp wr G n P St)(Z:Addr)(hZ:Z ∉ fp)(val:Nat->κ)(hv:∀ i v,P i v->knd.is (val i) v=true/\v.scannable=true)(hb:n+1 < scanBound) :
   ∀ (k i:Nat) (s:Shared),n - i=k->i<=n->St i s->s.heap.SetOf knd Z (fun x=>decide (x∈met val i)) (met val i).length ->
     (∀ s',Moved (Z::wr) G s s'->s'.heap.SetOf knd Z (fun x=>decide (x∈met val n)) (met val n).length->R (.ok (.ret .none)) s') ->
     codeAny (model prog w) A (.builtin "set.update.loop" ⟨[.ref Z,.ref I],[]⟩) R s:=by
 have hw:Z ∉ wr:=fun q=>hZ (W.sub _ q);have up:∀ b∈wr,b∈Z::wr:=fun b q=>Am _ q;have keep:∀ {s s':Shared} {S:κ->Bool} {m:Nat},Moved wr G s s'->s.heap.SetOf knd Z S m->s'.heap.SetOf knd Z S m:=fun hm x=>by
   obtain⟨o,es,ep,t,ho,r⟩:=x;exact⟨o,es,ep,t,hm.heap Z _ hw ho,r⟩
 intro k
 induction k with
 | zero =>
   intro i s hk hi hs x go;have e:i=n:=by omega
   subst e;refine Dp Cb ?_;rw[DE Bw _];show wpAny _ A.in1 (pyNext (.ref I) >>= _) _ _ s;refine Aa (W.done s _ _ hs fun s' hm=>?_);exact Ae (go s' (hm.mono up) (keep hm x))
 | succ k ih =>
   intro i s hk hi hs x go;have lt:i < n:=by omega
   refine Dp Cb ?_;rw[DE Bw _];show wpAny _ A.in1 (pyNext (.ref I) >>= _) _ _ s;refine Aa (W.item i s _ _ lt hs fun v s1 hP hs1 hm=>?_);obtain⟨v1,v2⟩:=hv i v hP;have x1:=keep hm x;show wpAny _ A.in1 (holding [v] (setAdd Z v) >>= _) _ _ s1;refine Aa (Bj ?_);unfold setAdd;refine Bj (Aa (knd.pyHash (k:=val i) v1 ?_));have room:(met val i).length+1 < scanBound:=by have:=zgA val i;omega
   refine wpAny_setAddHashed_of (knd:=knd) (s:={ s1 with toks:=s1.toks+1 }) v1 v2 x1 room fun h' sb x2=>?_;have x3:h'.SetOf knd Z (fun y=>decide (y∈met val (i+1))) (met val (i+1)).length:=zha x2 (fun y=>(zit val i y).symm) (zju val i).symm;refine Ae ⟨plainId_quiet Bw _,ih (i+1) _ (by omega) lt (W.frame _ s1 _ _ hs1 (CJ _) fun b hb o e=>?_) x3 fun s2 hm2 x4=>?_⟩
   . rw[sb.2 b (fun q:b=Z=>hZ (by rw[<-q];exact hb))];exact e
   . refine go s2 (Moved.trans W.gtrans ((hm.mono up).then_heap (CJ _) fun b o hb e=>?_) hm2) x4;rw[sb.2 b (fun q:b=Z=>hb (by rw[q];exact Au))];exact e
end
section
variable {prog:Program} {w:World} {A:Around} {E:Value->Shared->Prop} {s:Shared} {κ:Type} [DecidableEq κ] {knd:KeyKind prog w κ}
noncomputable def zjp(led:Bool):Obj:={ cls:=.type "set",dict:=none,data:=.set #[] 0 (.fresh 0 0 led) }
end
section
variable {prog:Program} {w:World} {A:Around} {E:Value->Shared->Prop} {s:Shared} {κ:Type} [DecidableEq κ] {knd:KeyKind prog w κ}
theorem zi0{z:Str}{zt:Tok}{val:Nat->κ}{Q:Value->Shared->Prop}(hh:A.handled=none)(hv:∀ i v,SignAt z i v->knd.is (val i) v=true/\v.scannable=true)(hb:z.cps.size+1 < scanBound)
   (go:∀ (h':Heap) (tk:Nat),h'.SetOf knd s.heap.objs.size (fun x=>decide (x∈met val z.cps.size)) (met val z.cps.size).length->(∀ b o,b < s.heap.objs.size->s.heap.get? b=some o->h'.get? b=some o)->Q (.ref s.heap.objs.size) { s with heap:=h',toks:=tk }) :
   wpAny (model prog w) A (call (.type "set") [.str z zt]) Q E s:=by
 obtain⟨c,tl,hmro⟩:=F.called_set.mro;have q1:=F.called_set.made;have q2:=F.called_set.sub;refine wpAny_call (codeAny_of_tree ?_);show wpAny _ _ (callAny (.type "set") _) _ _ _;refine Ae ⟨Code.quiet_builtin _ (by decide +kernel),Dp F.entry_type_call ?_⟩;rw[Around.under_plain (weight_type_call_type "set" [.str z zt] []) rfl];have q3:=F.called_set.notType;have q4:=F.called_set.canCreate;have q5:=F.typeCall_set_1 (.str z zt)
 repeat (any_goals (first | assumption | wp_step))
 refine Cu (code_set_new_1 (.str z zt) (E:=E) (Q₁:=fun obj s₁=>∃ led:Bool,obj=.ref s.heap.objs.size/\s₁={ s with heap:=s.heap.push (zjp led) }) fun led=>⟨led,rfl,rfl⟩) fun r s1 hr=>?_
 cases r with
 | error e=>exact hr
 | ok fl =>
   cases fl with
   | ret obj =>
     obtain⟨led,rfl,rfl⟩:=hr;have at0:(s.heap.push (zjp led)).get? s.heap.objs.size=some (zjp led):=An _ rfl;have ty:Shared.TypeIs { s with heap:=s.heap.push (zjp led) } (.ref s.heap.objs.size) "set":=⟨_,at0,rfl⟩
     have q6:=F.called_set.init.lookup;have q7:=F.called_set.init.bind (.ref s.heap.objs.size)
     repeat (any_goals (first | assumption | wp_step))
     refine Cu (codeAny_call_builtin (R:=wants (fun r s₂=>r=.none/\∃ h' tk,s₂={ s with heap:=h',toks:=tk }/\h'.SetOf knd s.heap.objs.size (fun x=>decide (x∈met val z.cps.size)) (met val z.cps.size).length/\(∀ b o,b < s.heap.objs.size->s.heap.get? b=some o->h'.get? b=some o)) E) F.called_set.init.plain F.entry_set_init (check_set_init_1 ty ?_)) fun r2 s2 hr2=>?_
     . have z1:isSubtype (.type "str") (.type "set")=pure false:=by rw[isSubtype_type];kernel_rfl
       have z2:=F.sub_str_frozenset;have z3:(C2 "str"==C2 "dict")=false:=by decide
       unfold Builtin.«set.__init__» noKeywords Er;generalize hPI:pyIter=PI
       wp_walk
       subst hPI;refine D0 (Aa (wpAny_runValue ?_));have h3:A.in1.in1.in1.handled=none:=by simp[hh]
       have n2:s.heap.objs.size ∉ [(s.heap.push (zjp led)).objs.size]:=by
         rw[A3,CM];exact AC (De _)
       refine zi1 (knd:=knd) ((ze0 h3 _ z zt).toS) s.heap.objs.size n2 val hv hb (z.cps.size - 0) 0 _ (by omega) (A8 _) ⟨_,An _ rfl,rfl,rfl⟩ ?first ?rest
       case first =>
         have g:((s.heap.push (zjp led)).push { cls:=.type (strIterType z),data:=.fields #[.str z zt,.int 0 0] }).get? s.heap.objs.size=some (zjp led):=Ad _ at0;exact zha ((PyProof.Rows.setObjOf_fresh (knd:=knd) led).setOf g (by unfold scanBound;omega)) (fun _=>rfl) rfl
       case rest =>
         intro s' hm x;obtain⟨h',g',d',tk',os'⟩:=s';have eg:g'=s.gens:=hm.gens;have ed:d'=s.drawn:=hm.drawn;have eo:os'=s.os:=hm.os;subst eg;subst ed;subst eo;show wpAny _ _ _ _ _ _;refine Ae ?_;show wpAny _ _ (ret Ba) _ _ _;refine Ae ⟨rfl,h',tk',rfl,x,fun b o hb e=>?_⟩;refine hm.heap b o ?_ (Ad _ (Ad _ e));rw[A3,AQ,CM];rintro (q | q)
         . exact absurd q (AC hb)
         . exact absurd q (AC (C0 hb))
     . cases r2 with
       | error e=>exact hr2
       | ok fl2 =>
         cases fl2 with
         | ret r =>
           obtain⟨rfl,h',tk,rfl,x,k⟩:=hr2
           repeat (any_goals (first | assumption | wp_step))
           exact go _ _ x k
         | _=>exact hr2.elim
   | _=>exact hr.elim
end
end L2.MP
namespace L2.MP
open PySem PySem.Spec PyProof.Rows
section
variable {X:Cx} {K:Ab} {H:Hp} {io:List Addr} {st st':Sto}
theorem zmV:bootBuiltins "set"=some (.type "set"):=by decide +kernel
theorem Bh.sz{n:Nat}{Q:VK}{p:Addr}(k:Bh K io H (st++[.sz n]) (.ref st.length) Q)(S:StR K H io st)(hp:H p=none):Q (.ref p) (upd H p (.ext (SetZ p n))):=by
 obtain⟨E,S'⟩:=zjq (o:=.ext (SetZ p n)) (ob:=.sz n) S hp fun H' T e=>e;exact k _ _ [p] E S' ⟨p,rfl,by rw[<-S.len];exact getElem?_len io p⟩
theorem zkv{κ:Type}[DecidableEq κ]{prog:Program}{w:World}{knd:KeyKind prog w κ}{h:Heap}{a:Addr}{S:κ->Bool}{n:Nat}(x:h.SetOf knd a S n):SetZ a n h:=by
 obtain⟨o,es,ep,t,h1,h2,h3,_,_,h4,h5,h6⟩:=x;exact⟨o,es,ep,t,h1,h2,h3,h4,h5,h6⟩
theorem zku{P:Program}{w:World}{H:Hp}{h:Heap}{a:Addr}{n:Nat}(x:SetZ a n h):zde P w H h a (.ext (SetZ a n)):=by
 have y:=x;obtain⟨o,es,ep,t,h1,_⟩:=y;refine⟨x,⟨o,h1⟩,?_⟩;rintro g1 g2 ⟨o,es,ep,t,h1,r⟩ k;exact⟨o,es,ep,t,k o h1,r⟩
noncomputable def zj6(z:Str)(i:Nat):Str:=⟨#[z.cps.getD i 0]⟩
noncomputable def dist(z:Str):Nat:=(met (zj6 z) z.cps.size).length
noncomputable def zkw:GN
 | [.str z],st=>if z.cps.size<=4000 then some (.ref st.length,st++[.sz (dist z)]) else none
 | _,_=>none
theorem zia(hc:X.calm=true):zdN X (.type "set") zkw:=by
 rintro pins s σ H xs us Q I r ⟨ds,st,io,d,st',R,S,e,k⟩;unfold zkw at e
 split at e
 . rename_i z;obtain⟨hf,e⟩:=zam e;cases e;obtain⟨v,rfl,rfl⟩:=R.one;obtain⟨u,rfl,ru⟩:=r.one;obtain⟨t,rfl⟩:=ru;refine zi0 (knd:=PySem.strKind X.prog X.w) (val:=zj6 z) (I.ok.hd hc) ?_ (by unfold scanBound;omega) fun h' tk hs hk=>?_
   . rintro i v ⟨c,t,hc,rfl⟩;refine⟨?_,rfl⟩;have:zj6 z i=⟨#[c]⟩:=by unfold zj6;rw[CN,hc];rfl
     rw[this];exact PySem.strKind_is _ _ _ _
   . refine⟨.ref s.heap.objs.size,upd H s.heap.objs.size (.ext (SetZ s.heap.objs.size (dist z))),I.laid (t':=tk) (fun b o q=>hk b o (Aj q) q) (Af _) (zku (zkv hs)),rfl,?_⟩;exact k.sz S (I.hok.fresh (Af _))
 . cases e
noncomputable def zlC:GN
 | [.ref n],st=>match st[n]? with
   | some (.sz m)=>some (.int m,st)
   | _=>none
 | _,_=>none
theorem zg0:zdN X (.builtin "len") zlC:=by
 rintro pins s σ H xs us Q I r ⟨ds,st,io,d,st',R,S,e,k⟩;unfold zlC at e
 split at e
 . rename_i n
   split at e
   . rename_i m en;cases e;obtain⟨v,rfl,p,rfl,hp⟩:=R.one;obtain⟨u,rfl,ru⟩:=r.one;cases ru;have hH:=S.ob n p _ hp en;obtain⟨⟨o,es,ep,t,h1,h2,h3,h4,h5,h6⟩,_,_⟩:=I.hok p _ hH;have hs:es.size < 4096:=h4;refine PySem.call_len_set h1 h2 h3 h5 (by omega) ?_;subst h6;exact⟨.int es.size,H,I.tok _,⟨_,rfl⟩,k.now S rfl⟩
   . cases e
 . cases e
noncomputable def lenE:GN:=orN lenD zlC
theorem zib:zdN X (.builtin "len") lenE:=zd6 zau zg0
end
section
variable {κ:Type} [DecidableEq κ]
theorem zjv(val:Nat->κ):∀ {i:Nat} {x:κ},x∈met val i ↔ ∃ j,j < i/\val j=x
 | 0,x=>by simp[met]
 | i+1,x=>by
   have:=zit val i x;rw[Bi,Dm,decide_eq_true_iff,decide_eq_true_iff,decide_eq_true_iff] at this;rw[this,zjv val]
   constructor
   . rintro (⟨j,h,e⟩ | e)
     . exact⟨j,by omega,e⟩
     . exact⟨i,by omega,e.symm⟩
   . rintro ⟨j,h,e⟩
     by_cases q:j=i
     . subst q;exact .inr e.symm
     . exact .inl ⟨j,by omega,e⟩
theorem ziu(val:Nat->κ):∀ n,(met val n).length=n ↔ ∀ i j,i < j->j < n->val i≠val j
 | 0=>by simp[met]
 | n+1=>by
   have ih:=ziu val n;have hl:=zgA val n;rw[met]
   split
   . rename_i h;obtain⟨i,hi,e⟩:=(zjv val).mp h
     constructor
     . intro q;omega
     . intro q;exact absurd e (q i n hi (by omega))
   . rename_i h;rw[AA,By]
     constructor
     . intro q i j hij hj
       by_cases hjn:j=n
       . subst hjn;exact fun e=>h ((zjv val).mpr ⟨i,hij,e⟩)
       . exact ih.mp (by omega) i j hij (by omega)
     . intro q;have:=ih.mpr fun i j hij hj=>q i j hij (by omega);omega
end
end L2.MP
namespace L2.MP
open PySem PySem.Spec
theorem zds:fillsNumberSlot (.type "tuple") "mul"=pure false :=
 fillsNumberSlot_seq (id:="tuple.__mul__") (r:=some (.builtin "tuple.__rmul__")) F.slot_tuple_mul.lookup (by decide +kernel) F.slot_tuple_rmul.lookup (by decide +kernel)
theorem zeP:seqRepeat? (.type "tuple")=pure (some (.builtin "tuple.__mul__")):=by
 unfold seqRepeat?;rw[seqSlot_of (T:="tuple") (name:="__mul__") (id:="tuple.__mul__") F.slot_tuple_mul.lookup (by decide +kernel),seqSlot_of (T:="tuple") (name:="__rmul__") (id:="tuple.__rmul__") F.slot_tuple_rmul.lookup (by decide +kernel)];rfl
theorem zge(a:Int)(t:Tok)(l:Addr)(items:Array Value)(n:Nat)(d:Option Addr)(sl:Array (Option Value)) :
   Meets (Builtin.«int.__rmul__» ⟨[.int a t,.ref l],[]⟩) (fun _ R s=>s.heap.get? l=some { cls:=.type "tuple",dict:=d,data:=.seq items n,slots:=sl }/\R (.ok (.ret Value.notImplemented)) s) :=
 .of_wp fun prog w A R s h=>by obtain⟨hp,g,d,tk,os⟩:=s;obtain⟨hl,h⟩:=h;wp_walk;exact⟨_,rfl,h⟩
theorem zee(xs:Array Value):∀ (n:Nat) (a:Array Value),(Em (fun x1 x2=>x1++x2) a (Av n xs)).toList=a.toList++(Av n xs.toList).flatten
 | 0,a=>by simp
 | n+1,a=>by rw[Bp,List.foldl_cons,zee xs n,Bp,BP,Array.toList_append,Ak]
theorem zed(xs:Array Value)(n:Nat):Em (fun x1 x2=>x1++x2) #[] (Av n xs)=(Av n xs.toList).flatten.toArray:=by
 apply Array.ext';rw[zee];simp
theorem zlw{b:Bool}(h:b=false):decide (b=true)=false:=by rw[h];rfl
theorem zfG(l:Addr)(items:Array Value)(n:Nat)(d:Option Addr)(sl:Array (Option Value))(x:Int)(u:Tok)(h1:2<=x)(h2:items.size*x.toNat<=1000)(h0:items.isEmpty=false)(hx:x<=1000) :
   Meets (Builtin.«tuple.__mul__» ⟨[.ref l,.int x u],[]⟩) (fun _ R s=>s.heap.get? l=some { cls:=.type "tuple",dict:=d,data:=.seq items n,slots:=sl }/\R (.ok (.ret (AO s.heap.objs.size))) { s with heap:=s.heap.push { cls:=C2 "tuple",data:=Data.seq (Em (fun x1 x2=>x1++x2) #[] (Av x.toNat items)) },toks:=s.toks }) :=
 .of_wp fun prog w A R s h=>by
   obtain⟨hp,g,d,tk,os⟩:=s;obtain⟨hl,h⟩:=h;unfold Builtin.«tuple.__mul__»;have q1:(decide (x < -2 ^ 63) || decide (x ≥ 2 ^ 63))=false:=by simp;omega
   have q2:(items.isEmpty || x==1)=false:=by rw[h0];simp;omega
   have q3:(decide (x<=0) || items.isEmpty)=false:=by rw[h0];simp;omega
   have e:(items.size:Int)*x=((items.size*x.toNat:Nat):Int):=by
     rw[Ej,DL (by omega)]
   have q4:decide ((items.size:Int)*x > (2 ^ 63 - 1) / 8)=false:=by
     rw[e,decide_eq_false_iff_not];omega
   have q5:CT ((items.size:Int)*x)=false:=by
     rw[e];unfold CT sizeLine;rw[decide_eq_false_iff_not];omega
   wp_walk
   refine BL (zlw q1) ?_
   wp_walk
   refine BL (zlw q2) ?_
   wp_walk
   refine BL (zlw q3) ?_
   wp_walk
   refine BL q4 ?_
   wp_walk
   refine BL (zlw q5) ?_
   wp_walk
   refine BL ?_ ?_
   . rw[zed,decide_eq_false_iff_not,Ai,CG,CO,Ck,Ar,Nat.mul_comm];unfold sizeLine;omega
   wp_walk
   exact⟨_,rfl,h⟩
theorem zfH(l:Addr)(items:Array Value)(n:Nat)(d:Option Addr)(sl:Array (Option Value))(u:Tok) :
   Meets (Builtin.«tuple.__mul__» ⟨[.ref l,.int 1 u],[]⟩) (fun _ R s=>s.heap.get? l=some { cls:=.type "tuple",dict:=d,data:=.seq items n,slots:=sl }/\R (.ok (.ret (AO l))) s) :=
 .of_wp fun prog w A R s h=>by
   obtain⟨hp,g,d,tk,os⟩:=s;obtain⟨hl,h⟩:=h;unfold Builtin.«tuple.__mul__»
   wp_walk
   exact⟨_,rfl,h⟩
section
variable {X:Cx} {K:Ab} {H:Hp} {io:List Addr} {st st':Sto}
theorem Reps.times{xs:List V}{ds:List D}(r:Reps K H io xs ds):∀ n:Nat,Reps K H io (Av n xs).flatten (Av n ds).flatten
 | 0=>rfl
 | n+1=>by
   rw[Bp,BP,Bp,BP];exact r.append (r.times n)
theorem ziK{xs ys:List V}:∀ {us vs:List Value},Vals xs us->Vals ys vs->Vals (xs++ys) (us++vs):=by
 induction xs with
 | nil=>intro us vs h q;cases h;exact q
 | cons x xs ih=>intro us vs h q;cases h with | cons a b=>exact .cons a (ih b q)
theorem zeb{xs:List V}{us:List Value}(r:Vals xs us):∀ n:Nat,Vals (Av n xs).flatten (Av n us).flatten
 | 0=>.nil
 | n+1=>by
   rw[Bp,BP,Bp,BP];exact ziK r (zeb r n)
noncomputable def zly:G2
 | .tup ds,.int n,st=>if (decide (1<=n)&&decide (n<=1000)&&!ds.isEmpty&&decide (ds.length*n.toNat<=1000))=true then some (.tup (Av n.toNat ds).flatten,st) else none
 | _,_,_=>none
theorem zjj:OpM X (binaryOp .Mult) zly:=by
 rintro pins s σ H x y v u Q I rx ry ⟨dx,dy,st,io,d,st',Rx,Ry,S,e,k⟩;unfold zly at e
 split at e
 . rename_i ds n;obtain⟨hf,e⟩:=zam e;cases e;rw[Ag,Ag,Ag,decide_eq_true_iff,decide_eq_true_iff,decide_eq_true_iff] at hf;obtain⟨⟨⟨n1,n2⟩,ne⟩,nl⟩:=hf;have Rx0:=Rx;obtain⟨p,xs,rfl,hp,r1⟩:=Rx
   cases (show y=.int n from Ry)
   cases rx;obtain⟨tk,rfl⟩:=ry;obtain⟨its,w1,p1,_⟩:=I.tuple (SqT.of hp);obtain⟨⟨oc,od,ox,os⟩,ho,hc,m,hd⟩:=p1;simp only at hc hd;subst hc;subst hd;have hlen:its.toArray.size=ds.length:=by rw[Ai,<-w1.length,r1.length]
   refine PySem.wpAny_binaryOp_repeat_ref (T:="tuple") (U:="int") (by decide) ⟨_,ho,rfl⟩ (fun s'=>Ef s' n tk) zds F.fills_int_mul F.slot_int_rmul zeP F.slot_int_index.lookup
     (Cf F.slot_int_rmul (Ef s n tk) F.entry_int_rmul (F.args_int_rmul_2 _ _) (zge n tk p its.toArray m od os) ⟨ho,rfl,⟨_,ho,rfl⟩,?_⟩)
   by_cases h1:n=1
   . subst h1;refine Cf F.slot_tuple_mul ⟨_,ho,rfl⟩ F.entry_tuple_mul (F.args_tuple_mul_2 _ _) (zfH p its.toArray m od os tk) ⟨ho,?_⟩;refine⟨.ref p,H,I,rfl,k.now S ?_⟩;have e1:(Av (1:Int).toNat ds).flatten=ds:=by simp
     rw[e1];exact Rx0
   . have he:its.toArray.isEmpty=false:=by
       cases ds with
       | nil=>simp at ne
       | cons a b=>rw[Array.isEmpty_eq_false_iff,<-Array.size_pos_iff,hlen];simp
     refine Cf F.slot_tuple_mul ⟨_,ho,rfl⟩ F.entry_tuple_mul (F.args_tuple_mul_2 _ _) (zfG p its.toArray m od os n tk (by omega) (by rw[hlen];exact nl) he n2) ⟨ho,?_⟩;rw[zed];have hz:(Av n.toNat xs).flatten.length<=sizeLine:=by
       rw[CG,CO,Ck,r1.length,Nat.mul_comm];unfold sizeLine;omega
     refine⟨.ref s.heap.objs.size,upd H s.heap.objs.size (.tup (Av n.toNat xs).flatten),I.laid (t':=s.toks) (fun b o q=>Ad _ q) (Af _) ⟨hz,(Av n.toNat its).flatten,zeb w1 _,?_⟩,rfl,?_⟩
     . exact zdB.new _ _
     . exact k.tup S (r1.times _) (I.hok.fresh (Af _))
 . cases e
noncomputable def zlu:GN
 | [.str z],st=>if fits z.cps.size=true then some (.tup (signs z),st) else none
 | _,_=>none
theorem zgY(hc:X.calm=true):zdN X (.type "tuple") zlu:=by
 rintro pins s σ H xs us Q I r ⟨ds,st,io,d,st',R,S,e,k⟩;unfold zlu at e
 split at e
 . rename_i z;obtain⟨hf,e⟩:=zam e;cases e;obtain⟨v,rfl,rfl⟩:=R.one;obtain⟨u,rfl,ru⟩:=r.one;obtain⟨t,rfl⟩:=ru;have hz:z.cps.size<=sizeLine:=of_decide_eq_true hf;refine PySem.call_tuple_str (hsz:=hz) (I.ok.hd hc) z t fun h' tk acc hk hacc=>?_;have I1:=I.kept (t':=tk) hk;refine⟨.ref h'.objs.size,upd H h'.objs.size (.tup (z.cps.toList.map fun c=>V.str ⟨#[c]⟩)),I1.laid (t':=tk) (fun b o q=>Ad _ q) (Af _) ⟨by rw[Aq,Ar];exact hz,acc.toList,zeh hacc,zdB.new _ _⟩,rfl,?_⟩;exact k.tup S (zei z) (I1.hok.fresh (Af _))
 . cases e
noncomputable def zeF:GN:=orN zec zlu
theorem zfP(hc:X.calm=true):zdN X (.type "tuple") zeF:=zd6 zcM (zgY hc)
noncomputable def mulU:G2:=orG mulA zly
theorem zgo:OpM X (binaryOp .Mult) mulU:=zfB zem zjj
end
end L2.MP
namespace L2.MP.Hb
open PySem L2.MP
noncomputable def zbZ:MS:=mAsg (mBin modD (mBin addD (mBin addD (mBin addD (mBin mulA (mVar 1) (mCon (.int 1000003))) (mBin modD (mVar 3) (mCon (.int 2305843009213693951)))) (mBin mulA (mCon (.int 31)) (mVar 2))) (mCon (.int 7))) (mCon (.int 2305843009213693951))) (gNm 1)
noncomputable def za7:ME:=zav absC (zac (mVar 0) (mNil))
noncomputable def za6:MT:=mTst (mBin geD (zav absC (zac (mVar 0) (mNil))) (mBin powB (mCon (.int 10)) (mCon (.int 18))))
noncomputable def zcR:MS:=mSeq (mAsg (mCon (.int 17)) (gNm 1)) (mSeq (mFor (zlB (mSlB (mVar 0) (zcw) (zcv (mCon (.int 63))))) (gTp 2 (gC (gNm 2) (gC (gNm 3) (gN0)))) (zbZ)) (mRet (mLst (zac (zcW (mWA (mSlB (mVar 0) (zcw) (zcv (mCon (.int 63))))) 1 [] (gNm 0) (za6) (za7)) (zac (mVar 1) (mNil))))))
noncomputable def zbQ:GN:=fnM 4 zcR
noncomputable def zaF:MT:=ziv (mTst (mBin neD (mBin ixA (mVar 0) (mCon (.int 0))) (mLst (mNil)))) (mTst (mBin eqD (mBin ixA (mBin ixA (mVar 0) (mCon (.int 0))) (mCon (.int 0))) (mCon (.int 0))))
noncomputable def zbH:MS:=mExp (mPop (mBin ixA (mVar 0) (mCon (.int 0))) (zac (mCon (.int 0)) (mNil)))
noncomputable def zcq:MS:=mSeq (mWhF (zaF) (zbH) 100) (mSeq (mIf (mTst (mBin neD (mBin ixA (mVar 0) (mCon (.int 0))) (mLst (mNil)))) (mSeq (mAsg (mBin modD (mBin ixA (mBin ixA (mVar 0) (mCon (.int 0))) (mCon (.int 0))) (mVar 1)) (gNm 2)) (mSeq (putA (mBin ixA (mVar 0) (mCon (.int 0))) (mCon (.int 0)) (mBin zjK (mBin ixA (mBin ixA (mVar 0) (mCon (.int 0))) (mCon (.int 0))) (mVar 1))) (mRet (mVar 2)))) (zcr)) (mSeq (putA (mVar 0) (mCon (.int 1)) (mBin modD (mBin addD (mBin mulA (mBin ixA (mVar 0) (mCon (.int 1))) (mCon (.int 6364136223846793005))) (mCon (.int 1442695040888963407))) (mCon (.int 2305843009213693951)))) (mRet (mBin modD (mBin zjK (mBin modD (mBin mulA (mBin ixA (mVar 0) (mCon (.int 1))) (mBin addD (mBin modD (mBin ixA (mVar 0) (mCon (.int 1))) (mCon (.int 1000003))) (mCon (.int 48271)))) (mCon (.int 2305843009213693951))) (mCon (.int 4099))) (mVar 1)))))
noncomputable def zae:GN:=fnM 3 zcq
noncomputable def zbr:ME:=mPop (mVar 1) (zac (zav zae (zac (mVar 2) (zac (zav lenD (zac (mVar 1) (mNil))) (mNil)))) (mNil))
noncomputable def zcS:MS:=mSeq (mAsg (zav zjy (zac (mCon (.str "abcdefghijklmnopqrstuvwxyz0123456789")) (mNil))) (gNm 2)) (mRet (zmC (mCon (.str "")) (zac (zcW (mR1 (mVar 1)) 1 [2,0] (gNm 0) (zd9) (zbr)) (mNil))))
noncomputable def zbR:GN:=fnM 3 zcS
noncomputable def zaT:MS:=mIf (mOrT (zcI (mTst (mIsi "int" (mVar 2)))) (mOrT (mTst (mIsi "bool" (mVar 2))) (mOrT (mTst (mBin ltD (mVar 2) (mCon (.int 0)))) (mTst (mBin geD (mVar 2) (mVar 3)))))) (mRet (mCon (.bl false))) (zcr)
noncomputable def za8:MS:=mSeq (mIf (mOrT (zcI (mTst (mIsi "tuple" (mVar 0)))) (mTst (mBin neD (zav lenD (zac (mVar 0) (mNil))) (zav lenD (zac (mVar 1) (mNil)))))) (mRet (mCon (.bl false))) (zcr)) (mSeq (mFor (mZip (mVar 0) (mVar 1)) (gTp 2 (gC (gNm 2) (gC (gNm 3) (gN0)))) (zaT)) (mRet (mCon (.bl true))))
noncomputable def zbq:GN:=fnM 4 za8
noncomputable def zaV:ME:=mVar 0
noncomputable def zaH:MT:=mTst (mBin gtD (zlA zh5 (mVar 1) (zac (mVar 0) (mNil))) (mCon (.int 1)))
noncomputable def zaU:ME:=mVar 0
noncomputable def zaG:MT:=mTst (mBin zhI (mVar 0) (mVar 1))
noncomputable def zbg:ME:=zav zbq (zac (mVar 0) (zac (mTup (zac (zav lenD (zac (mVar 1) (mNil))) (zac (zav lenD (zac (mVar 2) (mNil))) (mNil)))) (mNil)))
noncomputable def zak:MS:=mSeq (mIf (mOrT (zcI (mTst (mIsi "tuple" (mVar 4)))) (mTst (mBin neD (zav lenD (zac (mVar 4) (mNil))) (zav lenD (zac (mVar 1) (mNil)))))) (mRet (mCon (.bl false))) (zcr)) (mIf (zcI (mTst (zav allC (zac (zcW (mWA (mVar 4)) 1 [1,2] (gNm 0) (zd9) (zbg)) (mNil))))) (mRet (mCon (.bl false))) (zcr))
noncomputable def zaB:MS:=mSeq (mIf (mOrT (zcI (mTst (mIsi "tuple" (mVar 0)))) (mOrT (mTst (mBin neD (zav lenD (zac (mVar 0) (mNil))) (mCon (.int 2)))) (zcI (mTst (mIsi "str" (mBin ixA (mVar 0) (mCon (.int 0)))))))) (mRet (mCon (.bl false))) (zcr)) (mSeq (mAsg (mVar 0) (gTp 2 (gC (gNm 1) (gC (gNm 2) (gN0))))) (mSeq (mAsg (mCon (.str "0123456789abcdefghijklmnopqrstuvwxyz")) (gNm 3)) (mSeq (mIf (mOrT (mTst (mBin eqD (zav lenD (zac (mVar 1) (mNil))) (mCon (.int 0)))) (mOrT (mTst (mBin gtD (zav lenD (zac (mVar 1) (mNil))) (mCon (.int 10)))) (mTst (mBin neD (zcW (mWA (mVar 1)) 1 [1] (gNm 0) (zaH) (zaV)) (mLst (mNil)))))) (mRet (mCon (.bl false))) (zcr)) (mSeq (mIf (mOrT (mTst (mBin neD (zcW (mWA (mVar 1)) 1 [3] (gNm 0) (zaG) (zaU)) (mLst (mNil)))) (zcI (mTst (mIsi "tuple" (mVar 2))))) (mRet (mCon (.bl false))) (zcr)) (mSeq (mIf (mOrT (mTst (mBin eqD (zav lenD (zac (mVar 2) (mNil))) (mCon (.int 0)))) (mTst (mBin gtD (zav lenD (zac (mVar 2) (mNil))) (mCon (.int 4))))) (mRet (mCon (.bl false))) (zcr)) (mSeq (mFor (mWA (mVar 2)) (gNm 4) (zak)) (mRet (mCon (.bl true)))))))))
noncomputable def zba:GN:=fnM 5 zaB
end L2.MP.Hb
namespace L2.MP
open PySem
theorem ze4{f:D->Option PyData}(hf:∀ x:Int,f (.int x)=some (.int x)):∀ as:List Int,toPs f (as.map D.int)=some (as.map EE)
 | []=>rfl
 | x::as=>by
   rw[Az,toPs,hf x,Ac,ze4 hf as];rfl
theorem zeH{n:Nat}{st:Sto}{k:Nat}{as:List Int}(hk:st[k]?=some (.lst (as.map D.int))):toP (n+2) st (.ref k)=some (.list (as.map EE)):=by
 rw[toP];simp only[zcd,hk,Ac];rw[ze4 (fun x=>by rw[toP])];rfl
theorem zis{st:Sto}{f g:Nat}{as:List Int}(hf:st[f]?=some (.lst (as.map D.int)))(hg:st[g]?=some (.lst [])):neD (.ref f) (.ref g) st=some (.bl (!as.isEmpty),st):=by
 unfold neD;rw[zeH (n:=98) hf,zeH (n:=98) (as:=[]) hg]
 cases as <;> rfl
end L2.MP
namespace L2.MP.Hb
open PySem L2.MP
def PotB(n q:Nat)(st:Sto):Prop:=∃ (as:List Int) (b:Int),st[n]?=some (.lst [.ref q,.int b])/\st[q]?=some (.lst (as.map D.int))/\q≠n/\(∀ a∈as,0<=a)/\as.length<=63/\0<=b/\b < 2305843009213693951
structure FrB(n q:Nat)(st st':Sto):Prop where
 len:st.length<=st'.length
 old:∀ k,k < st.length->k≠n->k≠q->st'[k]?=st[k]?
theorem FrB.refl(n q:Nat)(st:Sto):FrB n q st st:=⟨Af _,fun _ _ _ _=>rfl⟩
theorem FrB.trans{n q:Nat}{a b c:Sto}(h:FrB n q a b)(h':FrB n q b c):FrB n q a c:=⟨AD h.len h'.len,fun k hk n1 n2=>(h'.old k (Ao hk h.len) n1 n2).trans (h.old k hk n1 n2)⟩
theorem FrB.app(n q:Nat)(st:Sto)(l:List O):FrB n q st (st++l):=⟨by simp,fun k hk _ _=>Ah hk⟩
theorem FrB.setN(n q:Nat)(st:Sto)(o:O):FrB n q st (st.set n o):=⟨by simp,fun k _ h1 h2=>by rw[AB (fun h=>h1 h.symm)]⟩
theorem FrB.setQ(n q:Nat)(st:Sto)(o:O):FrB n q st (st.set q o):=⟨by simp,fun k _ h1 h2=>by rw[AB (fun h=>h2 h.symm)]⟩
theorem FrB.of{n q:Nat}{a b:Sto}(h:Gr a b):FrB n q a b:=⟨h.len,fun k hk _ _=>h.old k hk⟩
theorem PotB.gr{n q:Nat}{st st':Sto}(h:PotB n q st)(g:Gr st st'):PotB n q st':=by
 obtain⟨as,b,e1,e2,r⟩:=h;exact⟨as,b,by rw[g.old n (getElem?_lt e1)];exact e1,by rw[g.old q (getElem?_lt e2)];exact e2,r⟩
theorem PotB.lt{n q:Nat}{st:Sto}(h:PotB n q st):n < st.length/\q < st.length:=by
 obtain⟨as,b,e1,e2,r⟩:=h;exact⟨getElem?_lt e1,getElem?_lt e2⟩
theorem zil{n q:Nat}{b many:Int}{v:Option D}(hqn:q≠n):∀ (as:List Int) (st:Sto) (k:Nat),st[n]?=some (.lst [.ref q,.int b])->st[q]?=some (.lst (as.map D.int))->as.length < k ->
   ∃ (as':List Int) (st':Sto),mWhF zaF zbH k [some (.ref n),some (.int many),v] st=some (.nx [some (.ref n),some (.int many),v],st')/\st'[n]?=some (.lst [.ref q,.int b])/\st'[q]?=some (.lst (as'.map D.int))/\(∀ a∈as',a∈as)/\as'.length<=as.length/\FrB n q st st'
 | as,st,0,_,_,h=>absurd h (En _)
 | as,st,k+1,h1,h2,hk=>by
   have i0:ixA (.ref n) (.int 0) st=some (.ref q,st):=zd4 h1 (by decide) rfl;have e1:=zis (st:=st++[.lst []]) (f:=q) (g:=st.length) (as:=as) (by rw[Ah (getElem?_lt h2)];exact h2) (zbh st _);have h1':(st++[O.lst []])[n]?=some (.lst [.ref q,.int b]):=by rw[Ah (getElem?_lt h1)];exact h1
   have h2':(st++[O.lst []])[q]?=some (.lst (as.map D.int)):=by rw[Ah (getElem?_lt h2)];exact h2
   have i0':ixA (.ref n) (.int 0) (st++[.lst []])=some (.ref q,st++[.lst []]):=zd4 h1' (by decide) rfl;generalize hs:st++[O.lst []]=s1 at e1 h1' h2' i0';have f1:FrB n q st s1:=by rw[<-hs];exact FrB.app _ _ _ _
   cases as with
   | nil =>
     refine⟨[],s1,?_,h1',h2',by simp,by simp,f1⟩;have et:zaF [some (.ref n),some (.int many),v] st=some (false,s1):=by
       unfold zaF;simp[rho,zbb,zbv,zbc,zaO,zaK,zaw,za4,zaJ,zaR,zaL,zaI,zbm,zby,zbu,za0,zbD,zbj,zdc,zaQ,zbB,zbw,zbA,zc9,zc8,zbC,zdd,ap_w,zcN,zaP,zaE,zbi,zbz,zdb,zda,za5,zaS,zbE,zbt,zaz,zaA,zca,zb8,zc7,zc6,zc5,zc4,zc3,zc2,zc1,zc0,zcZ,Ac,Ap,add_int,sub_int,ltD,leD,gtD,geD,cmpD,intC,rho0,i0,hs,e1]
     rw[mWhF];simp[et]
   | cons a as =>
     have i1:ixA (.ref q) (.int 0) s1=some (.int a,s1):=zd4 h2' (by decide) rfl
     by_cases ha:a=0
     . subst ha;have et:zaF [some (.ref n),some (.int many),v] st=some (true,s1):=by
         unfold zaF;simp[rho,zbb,zbv,zbc,zaO,zaK,zaw,za4,zaJ,zaR,zaL,zaI,zbm,zby,zbu,za0,zbD,zbj,zdc,zaQ,zbB,zbw,zbA,zc9,zc8,zbC,zdd,ap_w,zcN,zaP,zaE,zbi,zbz,zdb,zda,za5,zaS,zbE,zbt,zaz,zaA,zca,zb8,zc7,zc6,zc5,zc4,zc3,zc2,zc1,zc0,zcZ,Ac,Ap,add_int,sub_int,ltD,leD,gtD,geD,cmpD,intC,rho0,i0,hs,e1,i0',i1,eq_int]
       have hl:zbH [some (.ref n),some (.int many),v] s1=some (.nx [some (.ref n),some (.int many),v],s1.set q (.lst (as.map D.int))):=by
         unfold zbH;have:seqIndex? 0 ((0:Int)::as).length=some 0:=by
           unfold seqIndex?;simp
         simp[rho,zbb,zbv,zbc,zaO,zaK,zaw,za4,zaJ,zaR,zaL,zaI,zbm,zby,zbu,za0,zbD,zbj,zdc,zaQ,zbB,zbw,zbA,zc9,zc8,zbC,zdd,ap_w,zcN,zaP,zaE,zbi,zbz,zdb,zda,za5,zaS,zbE,zbt,zaz,zaA,zca,zb8,zc7,zc6,zc5,zc4,zc3,zc2,zc1,zc0,zcZ,Ac,Ap,add_int,sub_int,ltD,leD,gtD,geD,cmpD,intC,rho0,zj0,i0',zcd,h2',popD,show small 0=true by decide];simp at this;rw[this];simp
       obtain⟨as',s',e,g1,g2,g3,g4,g5⟩:=zil (n:=n) (q:=q) (b:=b) (many:=many) (v:=v) hqn as (s1.set q (.lst (as.map D.int))) k (by rw[AB hqn];exact h1') (by simp[getElem?_lt h2']) (by simp at hk;omega);refine⟨as',s',?_,g1,g2,fun x hx=>Am _ (g3 x hx),by simp;omega,(f1.trans (FrB.setQ _ _ _ _)).trans g5⟩;rw[mWhF];simp[et,hl,e]
     . refine⟨a::as,s1,?_,h1',h2',by simp,by simp,f1⟩;have et:zaF [some (.ref n),some (.int many),v] st=some (false,s1):=by
         unfold zaF;simp[rho,zbb,zbv,zbc,zaO,zaK,zaw,za4,zaJ,zaR,zaL,zaI,zbm,zby,zbu,za0,zbD,zbj,zdc,zaQ,zbB,zbw,zbA,zc9,zc8,zbC,zdd,ap_w,zcN,zaP,zaE,zbi,zbz,zdb,zda,za5,zaS,zbE,zbt,zaz,zaA,zca,zb8,zc7,zc6,zc5,zc4,zc3,zc2,zc1,zc0,zcZ,Ac,Ap,add_int,sub_int,ltD,leD,gtD,geD,cmpD,intC,rho0,i0,hs,e1,i0',i1,eq_int,ha]
       rw[mWhF];simp[et]
theorem zck{n q:Nat}{st:Sto}{many:Int}(h:PotB n q st)(h1:0 < many)(h2:many < 18446744073709551616):∃ (r:Int) (st':Sto),zae [.ref n,.int many] st=some (.int r,st')/\0<=r/\r < many/\PotB n q st'/\FrB n q st st':=by
 obtain⟨as0,b,en,eq0,hqn,hpos0,hlen0,hb,hb2⟩:=h;have hm2:many < 340282366920938463463374607431768211456:=by omega
 obtain⟨as,s1,ew,en1,eq1,hsub,hlen,f1⟩:=zil (n:=n) (q:=q) (b:=b) (many:=many) (v:=none) hqn as0 st 100 en eq0 (by omega);have hpos:∀ a∈as,0<=a:=fun a ha=>hpos0 a (hsub a ha);have i0:ixA (.ref n) (.int 0) s1=some (.ref q,s1):=zd4 en1 (by decide) rfl;have e1:=zis (st:=s1++[.lst []]) (f:=q) (g:=s1.length) (as:=as) (by rw[Ah (getElem?_lt eq1)];exact eq1) (zbh s1 _);have en2:(s1++[O.lst []])[n]?=some (.lst [.ref q,.int b]):=by rw[Ah (getElem?_lt en1)];exact en1
 have eq2:(s1++[O.lst []])[q]?=some (.lst (as.map D.int)):=by rw[Ah (getElem?_lt eq1)];exact eq1
 generalize hs:s1++[O.lst []]=s2 at e1 en2 eq2;have f2:FrB n q st s2:=f1.trans (by rw[<-hs];exact FrB.app _ _ _ _);have j0:ixA (.ref n) (.int 0) s2=some (.ref q,s2):=zd4 en2 (by decide) rfl;have hn2:=getElem?_lt en2;have hq2:=getElem?_lt eq2
 cases as with
 | cons a as =>
   have j1:ixA (.ref q) (.int 0) s2=some (.int a,s2):=zd4 eq2 (by decide) rfl;have ha:=hpos a Au;refine⟨a % many,s2.set q (.lst ((a / many::as).map D.int)),zb2 ?_,CB _ (by omega),Cc _ h1,⟨a / many::as,b,by rw[AB hqn];exact en2,by simp[hq2],hqn,?_,by simp at hlen ⊢;omega,hb,hb2⟩,f2.trans (FrB.setQ _ _ _ _)⟩
   . unfold zcq;refine zas ew ?_;refine zbs ?_;have hset:setD (.ref q) (.int 0) (.int (a / many)) s2=some (s2.set q (.lst ((a / many::as).map D.int))):=by
       simp[setD,eq2,ixN]
     have st1:mAsg (mBin modD (mBin ixA (mBin ixA (mVar 0) (mCon (.int 0))) (mCon (.int 0))) (mVar 1)) (gNm 2) [some (.ref n),some (.int many),none] s2=some (.nx [some (.ref n),some (.int many),some (.int (a % many))],s2):=by
       simp[rho,zbb,zbv,zbc,zaO,zaK,zaw,za4,zaJ,zaR,zaL,zaI,zbm,zby,zbu,za0,zbD,zbj,zdc,zaQ,zbB,zbw,zbA,zc9,zc8,zbC,zdd,ap_w,zcN,zaP,zaE,zbi,zbz,zdb,zda,za5,zaS,zbE,zbt,zaz,zaA,zca,zb8,zc7,zc6,zc5,zc4,zc3,zc2,zc1,zc0,zcZ,Ac,Ap,add_int,sub_int,ltD,leD,gtD,geD,cmpD,intC,rho0,j0,j1,modD,intD,h1]
     have st2:putA (mBin ixA (mVar 0) (mCon (.int 0))) (mCon (.int 0)) (mBin zjK (mBin ixA (mBin ixA (mVar 0) (mCon (.int 0))) (mCon (.int 0))) (mVar 1)) [some (.ref n),some (.int many),some (.int (a % many))] s2=some (.nx [some (.ref n),some (.int many),some (.int (a % many))],s2.set q (.lst ((a / many::as).map D.int))):=by
       simp only[rho,zbb,zbv,zbc,zaO,zaK,zaw,za4,zaJ,zaR,zaL,zaI,zbm,zby,zbu,za0,zbD,zbj,zdc,zaQ,zbB,zbw,zbA,zc9,zc8,zbC,zdd,ap_w,zcN,zaP,zaE,zbi,zbz,zdb,zda,za5,zaS,zbE,zbt,zaz,zaA,zca,zb8,zc7,zc6,zc5,zc4,zc3,zc2,zc1,zc0,zcZ,Ac,Ap,add_int,sub_int,ltD,leD,gtD,geD,cmpD,intC,rho0,zjK,intD];simp[rho,zbb,zbv,zbc,zaO,zaK,zaw,za4,zaJ,zaR,zaL,zaI,zbm,zby,zbu,za0,zbD,zbj,zdc,zaQ,zbB,zbw,zbA,zc9,zc8,zbC,zdd,ap_w,zcN,zaP,zaE,zbi,zbz,zdb,zda,za5,zaS,zbE,zbt,zaz,zaA,zca,zb8,zc7,zc6,zc5,zc4,zc3,zc2,zc1,zc0,zcZ,Ac,Ap,add_int,sub_int,ltD,leD,gtD,geD,cmpD,intC,rho0,j0,j1,h1,hm2,hset]
     have key:mSeq (mAsg (mBin modD (mBin ixA (mBin ixA (mVar 0) (mCon (.int 0))) (mCon (.int 0))) (mVar 1)) (gNm 2)) (mSeq (putA (mBin ixA (mVar 0) (mCon (.int 0))) (mCon (.int 0)) (mBin zjK (mBin ixA (mBin ixA (mVar 0) (mCon (.int 0))) (mCon (.int 0))) (mVar 1))) (mRet (mVar 2))) [some (.ref n),some (.int many),none] s2=some (.rt (.int (a % many)),s2.set q (.lst ((a / many::as).map D.int))) :=
       zas st1 (zas st2 (by simp[rho,zbb,zbv,zbc,zaO,zaK,zaw,za4,zaJ,zaR,zaL,zaI,zbm,zby,zbu,za0,zbD,zbj,zdc,zaQ,zbB,zbw,zbA,zc9,zc8,zbC,zdd,ap_w,zcN,zaP,zaE,zbi,zbz,zdb,zda,za5,zaS,zbE,zbt,zaz,zaA,zca,zb8,zc7,zc6,zc5,zc4,zc3,zc2,zc1,zc0,zcZ,Ac,Ap,add_int,sub_int,ltD,leD,gtD,geD,cmpD,intC,rho0]))
     have et:mTst (mBin neD (mBin ixA (mVar 0) (mCon (.int 0))) (mLst (mNil))) [some (.ref n),some (.int many),none] s1=some (true,s2):=by simp[rho,zbb,zbv,zbc,zaO,zaK,zaw,za4,zaJ,zaR,zaL,zaI,zbm,zby,zbu,za0,zbD,zbj,zdc,zaQ,zbB,zbw,zbA,zc9,zc8,zbC,zdd,ap_w,zcN,zaP,zaE,zbi,zbz,zdb,zda,za5,zaS,zbE,zbt,zaz,zaA,zca,zb8,zc7,zc6,zc5,zc4,zc3,zc2,zc1,zc0,zcZ,Ac,Ap,add_int,sub_int,ltD,leD,gtD,geD,cmpD,intC,rho0,i0,hs,e1]
     rw[zbw,et];exact key
   . intro x hx
     rcases List.mem_cons.mp hx with rfl | hx
     . exact Int.ediv_nonneg ha (by omega)
     . exact hpos x (Am _ hx)
 | nil =>
   have q0:0<=(b*6364136223846793005+1442695040888963407) % 2305843009213693951:=CB _ (by decide);have q1:(b*6364136223846793005+1442695040888963407) % 2305843009213693951 < 2305843009213693951:=Cc _ (by decide);generalize hc:(b*6364136223846793005+1442695040888963407) % 2305843009213693951=c at q0 q1;have i1:in64 b=true:=by unfold in64;simp;omega
   have i2:in64 c=true:=by unfold in64;simp;omega
   have hset:setD (.ref n) (.int 1) (.int c) s2=some (s2.set n (.lst [.ref q,.int c])):=by
     simp[setD,en2,ixN]
   have en3:(s2.set n (.lst [.ref q,.int c]))[n]?=some (.lst [.ref q,.int c]):=by simp[hn2]
   have j2:ixA (.ref n) (.int 1) s2=some (.int b,s2):=zd4 en2 (by decide) rfl;have j3:ixA (.ref n) (.int 1) (s2.set n (.lst [.ref q,.int c]))=some (.int c,s2.set n (.lst [.ref q,.int c])):=zd4 en3 (by decide) rfl;generalize hs3:s2.set n (.lst [.ref q,.int c])=s3 at hset en3 j3;have f3:FrB n q st s3:=f2.trans (by rw[<-hs3];exact FrB.setN _ _ _ _);have eq3:s3[q]?=some (.lst (([]:List Int).map D.int)):=by rw[<-hs3,AB (fun h=>hqn h.symm)];exact eq2
   generalize hX:c*(c % 1000003+48271) % 2305843009213693951 / 4099=X;refine⟨X % many,s3,zb2 ?_,CB _ (by omega),Cc _ h1,⟨[],c,en3,eq3,hqn,by simp,by simp,q0,q1⟩,f3⟩;unfold zcq;refine zas ew ?_;have et:mTst (mBin neD (mBin ixA (mVar 0) (mCon (.int 0))) (mLst (mNil))) [some (.ref n),some (.int many),none] s1=some (false,s2):=by simp[rho,zbb,zbv,zbc,zaO,zaK,zaw,za4,zaJ,zaR,zaL,zaI,zbm,zby,zbu,za0,zbD,zbj,zdc,zaQ,zbB,zbw,zbA,zc9,zc8,zbC,zdd,ap_w,zcN,zaP,zaE,zbi,zbz,zdb,zda,za5,zaS,zbE,zbt,zaz,zaA,zca,zb8,zc7,zc6,zc5,zc4,zc3,zc2,zc1,zc0,zcZ,Ac,Ap,add_int,sub_int,ltD,leD,gtD,geD,cmpD,intC,rho0,i0,hs,e1]
   refine zas (ρ1:=[some (.ref n),some (.int many),none]) (s1:=s2) (by rw[zbw,et];rfl) ?_;refine zas (ρ1:=[some (.ref n),some (.int many),none]) (s1:=s3) (by simp[rho,zbb,zbv,zbc,zaO,zaK,zaw,za4,zaJ,zaR,zaL,zaI,zbm,zby,zbu,za0,zbD,zbj,zdc,zaQ,zbB,zbw,zbA,zc9,zc8,zbC,zdd,ap_w,zcN,zaP,zaE,zbi,zbz,zdb,zda,za5,zaS,zbE,zbt,zaz,zaA,zca,zb8,zc7,zc6,zc5,zc4,zc3,zc2,zc1,zc0,zcZ,Ac,Ap,add_int,sub_int,ltD,leD,gtD,geD,cmpD,intC,rho0,j2,mulA,orG,mulD,intD,i1,modD,hc,hset]) ?_;simp[rho,zbb,zbv,zbc,zaO,zaK,zaw,za4,zaJ,zaR,zaL,zaI,zbm,zby,zbu,za0,zbD,zbj,zdc,zaQ,zbB,zbw,zbA,zc9,zc8,zbC,zdd,ap_w,zcN,zaP,zaE,zbi,zbz,zdb,zda,za5,zaS,zbE,zbt,zaz,zaA,zca,zb8,zc7,zc6,zc5,zc4,zc3,zc2,zc1,zc0,zcZ,Ac,Ap,add_int,sub_int,ltD,leD,gtD,geD,cmpD,intC,rho0,j3,mulA,orG,mulD,intD,i2,modD,zjK,hX,h1]
theorem zjQ(ns:List Int)(lo hi:Option Int):∃ ms:List Int,cutD (ns.map D.int) lo hi=ms.map D.int/\ms.length<=ns.length:=by
 unfold cutD;refine⟨(ns.drop (HT.sIx (ns.map D.int).length 0 lo)).take (HT.sIx (ns.map D.int).length (ns.map D.int).length hi - HT.sIx (ns.map D.int).length 0 lo),by simp,?_⟩;rw[BS,Cn];omega
theorem zkq{ds:List D}{lo hi:Option Int}{st:Sto}:slB (.kl ds) lo hi st=some (.ref st.length,st++[.lst (cutD ds lo hi)]):=by
 simp[slB,slA,slD,slS,slK,zb8]
theorem znp(st:Sto):powB (.int 10) (.int 18) st=some (.int 1000000000000000000,st):=rfl
theorem ziS{ns:List Int}(st:Sto)(hl:ns.length<=63):∃ (n q:Nat) (st':Sto),zbQ [.kl (ns.map D.int)] st=some (.ref n,st')/\PotB n q st'/\Gr st st':=by
 obtain⟨ms,hms,hml⟩:=zjQ ns none (some 63);have e1:=zkq (ds:=ns.map D.int) (lo:=none) (hi:=some 63) (st:=st);rw[hms] at e1;have a1:(st++[O.lst (ms.map D.int)])[st.length]?=some (.lst (ms.map D.int)):=zbh _ _;generalize hs1:st++[O.lst (ms.map D.int)]=s1 at e1 a1;have g1:Gr st s1:=by rw[<-hs1];exact Gr.app _ _
 have key:=zeq (W:=⟨pairs (ms.map D.int),[(st.length,ms.map D.int)]⟩) (g:=gTp 2 (gC (gNm 2) (gC (gNm 3) (gN0)))) (m:=zbZ) (ds:=pairs (ms.map D.int)) (ρ:=[some (.kl (ns.map D.int)),some (.int 17),none,none]) (st:=s1)
   (Inv:=fun k ρ s=>∃ (b:Int) (x y:Option D),ρ=[some (.kl (ns.map D.int)),some (.int b),x,y]/\0<=b/\b < 2305843009213693951/\s=s1)
   ⟨17,none,none,rfl,by decide,by decide,rfl⟩ (fun k ρ s hk hI=>by obtain⟨b,x,y,_,_,_,rfl⟩:=hI;exact zdn a1) (fun k d ρ s hd hI=>by
     obtain⟨b,x,y,rfl,hb0,hb1,rfl⟩:=hI;obtain⟨z,hz,rfl⟩:=zfb hd;rw[AE] at hz;obtain⟨c,hc,rfl⟩:=zah hz;have hk:k < ms.length:=getElem?_lt hc;have i1:in64 b=true:=by unfold in64;simp;omega
     have i31:in64 31=true:=by decide
     refine⟨[some (.kl (ns.map D.int)),some (.int b),some (.int (k:Nat)),some (.int c)],s,[some (.kl (ns.map D.int)),some (.int ((b*1000003+c % 2305843009213693951+31*(k:Int)+7) % 2305843009213693951)),some (.int (k:Nat)),some (.int c)],s,by simp[rho,zbb,zbv,zbc,zaO,zaK,zaw,za4,zaJ,zaR,zaL,zaI,zbm,zby,zbu,za0,zbD,zbj,zdc,zaQ,zbB,zbw,zbA,zc9,zc8,zbC,zdd,ap_w,zcN,zaP,zaE,zbi,zbz,zdb,zda,za5,zaS,zbE,zbt,zaz,zaA,zca,zb8,zc7,zc6,zc5,zc4,zc3,zc2,zc1,zc0,zcZ,Ac,Ap,add_int,sub_int,ltD,leD,gtD,geD,cmpD,intC,rho0],?_,_,_,_,rfl,CB _ (by decide),Cc _ (by decide),rfl⟩;unfold zbZ;simp[rho,zbb,zbv,zbc,zaO,zaK,zaw,za4,zaJ,zaR,zaL,zaI,zbm,zby,zbu,za0,zbD,zbj,zdc,zaQ,zbB,zbw,zbA,zc9,zc8,zbC,zdd,ap_w,zcN,zaP,zaE,zbi,zbz,zdb,zda,za5,zaS,zbE,zbt,zaz,zaA,zca,zb8,zc7,zc6,zc5,zc4,zc3,zc2,zc1,zc0,zcZ,Ac,Ap,add_int,sub_int,ltD,leD,gtD,geD,cmpD,intC,rho0,mulA,orG,mulD,intD,i1,i31,modD])
 obtain⟨ρ',s',el,b,x,y,rfl,hb0,hb1,rfl⟩:=key;have e2:=zkq (ds:=ns.map D.int) (lo:=none) (hi:=some 63) (st:=s');rw[hms] at e2;have a2:(s'++[O.lst (ms.map D.int)])[s'.length]?=some (.lst (ms.map D.int)):=zbh _ _;generalize hs2:s'++[O.lst (ms.map D.int)]=s2 at e2 a2;have g2:Gr s' s2:=by rw[<-hs2];exact Gr.app _ _
 have key2:=zlo (W:=⟨ms.map D.int,[(s'.length,ms.map D.int)]⟩) (g:=gNm 0) (c:=za6) (m:=za7) (ds:=ms.map D.int) (acc:=[]) (st:=s2) (ρ:=[none])
   (Inv:=fun k a ρ s=>(∃ z,ρ=[z])/\(∃ as:List Int,a=as.map D.int/\(∀ c∈as,0<=c)/\as.length<=k)/\s=s2) ⟨⟨_,rfl⟩,⟨[],rfl,by simp,by simp⟩,rfl⟩ (fun k a ρ s hk hI=>by obtain⟨_,_,rfl⟩:=hI;exact zdn a2) (fun k d a ρ s hd hI=>by
     obtain⟨⟨z,rfl⟩,⟨as,rfl,ha,hal⟩,rfl⟩:=hI;rw[AE] at hd;obtain⟨c,hc,rfl⟩:=zah hd;have habs:0<=(if c < 0 then -c else c):=by split <;> omega
     have ec:za7 [some (.int c)] s=some (.int (if c < 0 then -c else c),s):=by unfold za7;simp[rho,zbb,zbv,zbc,zaO,zaK,zaw,za4,zaJ,zaR,zaL,zaI,zbm,zby,zbu,za0,zbD,zbj,zdc,zaQ,zbB,zbw,zbA,zc9,zc8,zbC,zdd,ap_w,zcN,zaP,zaE,zbi,zbz,zdb,zda,za5,zaS,zbE,zbt,zaz,zaA,zca,zb8,zc7,zc6,zc5,zc4,zc3,zc2,zc1,zc0,zcZ,Ac,Ap,add_int,sub_int,ltD,leD,gtD,geD,cmpD,intC,rho0,absC]
     have et:za6 [some (.int c)] s=some (decide (1000000000000000000<=(if c < 0 then -c else c)),s):=by unfold za6;simp[rho,zbb,zbv,zbc,zaO,zaK,zaw,za4,zaJ,zaR,zaL,zaI,zbm,zby,zbu,za0,zbD,zbj,zdc,zaQ,zbB,zbw,zbA,zc9,zc8,zbC,zdd,ap_w,zcN,zaP,zaE,zbi,zbz,zdb,zda,za5,zaS,zbE,zbt,zaz,zaA,zca,zb8,zc7,zc6,zc5,zc4,zc3,zc2,zc1,zc0,zcZ,Ac,Ap,add_int,sub_int,ltD,leD,gtD,geD,cmpD,intC,rho0,absC,znp]
     refine⟨[some (.int c)],s,_,s,by simp[rho,zbb,zbv,zbc,zaO,zaK,zaw,za4,zaJ,zaR,zaL,zaI,zbm,zby,zbu,za0,zbD,zbj,zdc,zaQ,zbB,zbw,zbA,zc9,zc8,zbC,zdd,ap_w,zcN,zaP,zaE,zbi,zbz,zdb,zda,za5,zaS,zbE,zbt,zaz,zaA,zca,zb8,zc7,zc6,zc5,zc4,zc3,zc2,zc1,zc0,zcZ,Ac,Ap,add_int,sub_int,ltD,leD,gtD,geD,cmpD,intC,rho0],et,?_⟩
     by_cases hq:1000000000000000000<=(if c < 0 then -c else c)
     . refine .inl ⟨decide_eq_true hq,_,s,ec,⟨_,rfl⟩,⟨as++[if c < 0 then -c else c],by simp,?_,by simp;omega⟩,rfl⟩;intro w hw
       rcases List.mem_append.mp hw with hw | hw
       . exact ha w hw
       . rw[List.mem_singleton.mp hw];exact habs
     . exact .inr ⟨decide_eq_false hq,⟨_,rfl⟩,⟨as,rfl,ha,by omega⟩,rfl⟩)
 obtain⟨xs,ρ2,s3,ec,_,⟨as,hx,hpos,hal⟩,rfl⟩:=key2;rw[B3] at hx;subst hx;rw[Aq] at hal;have fl:fits (as.map D.int).length=true:=zat (by rw[Aq];omega);refine⟨s3.length+1,s3.length,s3++[.lst (as.map D.int)]++[.lst [.ref s3.length,.int b]],zb2 ?_,⟨as,b,?_,?_,by omega,hpos,by omega,hb0,hb1⟩,((g1.trans g2).trans (Gr.app _ _)).trans (Gr.app _ _)⟩
 . unfold zcR;refine zas (ρ1:=[some (.kl (ns.map D.int)),some (.int 17),none,none]) (s1:=st) (by simp[rho,zbb,zbv,zbc,zaO,zaK,zaw,za4,zaJ,zaR,zaL,zaI,zbm,zby,zbu,za0,zbD,zbj,zdc,zaQ,zbB,zbw,zbA,zc9,zc8,zbC,zdd,ap_w,zcN,zaP,zaE,zbi,zbz,zdb,zda,za5,zaS,zbE,zbt,zaz,zaA,zca,zb8,zc7,zc6,zc5,zc4,zc3,zc2,zc1,zc0,zcZ,Ac,Ap,add_int,sub_int,ltD,leD,gtD,geD,cmpD,intC,rho0]) ?_;refine zas (ρ1:=[some (.kl (ns.map D.int)),some (.int b),x,y]) (s1:=s') (by
     have ee:zlB (mSlB (mVar 0) (zcw) (zcv (mCon (.int 63)))) [some (.kl (ns.map D.int)),some (.int 17),none,none] st=some (⟨pairs (ms.map D.int),[(st.length,ms.map D.int)]⟩,s'):=by
       rw[ziH];simp[rho,zbb,zbv,zbc,zaO,zaK,zaw,za4,zaJ,zaR,zaL,zaI,zbm,zby,zbu,za0,zbD,zbj,zdc,zaQ,zbB,zbw,zbA,zc9,zc8,zbC,zdd,ap_w,zcN,zaP,zaE,zbi,zbz,zdb,zda,za5,zaS,zbE,zbt,zaz,zaA,zca,zb8,zc7,zc6,zc5,zc4,zc3,zc2,zc1,zc0,zcZ,Ac,Ap,add_int,sub_int,ltD,leD,gtD,geD,cmpD,intC,rho0,zjZ,e1,zmT,seqD,zcd,a1]
     rw[zbi,ee];exact el) ?_
   have ew:mWA (mSlB (mVar 0) (zcw) (zcv (mCon (.int 63)))) [some (.kl (ns.map D.int)),some (.int b),x,y] s'=some (⟨ms.map D.int,[(s'.length,ms.map D.int)]⟩,s3):=by
     rw[zlq];simp[rho,zbb,zbv,zbc,zaO,zaK,zaw,za4,zaJ,zaR,zaL,zaI,zbm,zby,zbu,za0,zbD,zbj,zdc,zaQ,zbB,zbw,zbA,zc9,zc8,zbC,zdd,ap_w,zcN,zaP,zaE,zbi,zbz,zdb,zda,za5,zaS,zbE,zbt,zaz,zaA,zca,zb8,zc7,zc6,zc5,zc4,zc3,zc2,zc1,zc0,zcZ,Ac,Ap,add_int,sub_int,ltD,leD,gtD,geD,cmpD,intC,rho0,zjZ,e2,zif,zcd,a2]
   have el2:zcW (mWA (mSlB (mVar 0) (zcw) (zcv (mCon (.int 63))))) 1 [] (gNm 0) (za6) (za7) [some (.kl (ns.map D.int)),some (.int b),x,y] s'=some (.ref s3.length,s3++[.lst (as.map D.int)]):=by
     rw[zaE,ew];simp only[Ac];rw[show rho0 [some (.kl (ns.map D.int)),some (.int b),x,y] 1 []=[none] from rfl,ec];simp only[Ac,fl,if_true]
   rw[za0,zbu,zaI,el2];simp[rho,zbb,zbv,zbc,zaO,zaK,zaw,za4,zaJ,zaR,zaL,zaI,zbm,zby,zbu,za0,zbD,zbj,zdc,zaQ,zbB,zbw,zbA,zc9,zc8,zbC,zdd,ap_w,zcN,zaP,zaE,zbi,zbz,zdb,zda,za5,zaS,zbE,zbt,zaz,zaA,zca,zb8,zc7,zc6,zc5,zc4,zc3,zc2,zc1,zc0,zcZ,Ac,Ap,add_int,sub_int,ltD,leD,gtD,geD,cmpD,intC,rho0]
 . have:=zbh (s3++[.lst (as.map D.int)]) (.lst [.ref s3.length,.int b]);simpa using this
 . rw[Ah (by simp)];exact zbh _ _
noncomputable abbrev zcs:Str:="abcdefghijklmnopqrstuvwxyz0123456789"
noncomputable abbrev sgD (c:Nat):D:=.str ⟨#[c]⟩
theorem zie:zcs.cps.toList.length=36:=by decide +kernel
theorem zj1:zcs.cps.toList.Nodup:=by decide +kernel
theorem zhP{z:Str}{st:Sto}(h:z.cps.size<=10000):zjy [.str z] st=some (.ref st.length,st++[.lst (z.cps.toList.map sgD)]):=by
 have:fits z.cps.size=true:=zat h;simp[zjy,orN,zla,zgG,this,zb8,signs,sgD]
theorem pop_at{l:Nat}{ds:List D}{d:D}{r:Int}{st:Sto}(h:st[l]?=some (.lst ds))(h0:0<=r)(h1:r<=1000000)(hd:ds[r.toNat]?=some d):popD (.ref l) [.int r] st=some (d,st.set l (.lst (ds.eraseIdx r.toNat))):=by
 have hl:=getElem?_lt hd;have hs:small r=true:=zdP h0 h1;have hi:seqIndex? r ds.length=some r.toNat:=by
   have q1:¬ r < 0:=by omega
   have q2:r < (ds.length:Int):=by omega
   simp[seqIndex?,q1,h0,q2]
 simp[popD,h,hs,hi,hd]
theorem zfl{α β:Type}(f:α->β):∀ (l:List α) (k:Nat),(l.map f).eraseIdx k=(l.eraseIdx k).map f
 | [],_=>by simp
 | a::l,0=>by simp
 | a::l,k+1=>by simp[zfl f l k]
theorem zet{α:Type}:∀ (l:List α) (k:Nat) (h:k < l.length),(l[k]::l.eraseIdx k).Perm l
 | [],_,h=>absurd h (En _)
 | a::l,0,_=>by simp
 | a::l,k+1,h=>by
   have:=zet l k (by simpa using h);simp only[List.getElem_cons_succ,List.eraseIdx_cons_succ];exact (List.Perm.swap _ _ _).trans (this.cons a)
structure LetOk(z:Str)(k:Nat):Prop where
 len:z.cps.toList.length=k
 nd:z.cps.toList.Nodup
 mem:∀ c∈z.cps.toList,c∈zcs.cps.toList
theorem PotB.ne{n q:Nat}{st:Sto}(h:PotB n q st):n≠st.length/\q≠st.length:=by
 have:=h.lt;omega
theorem PotB.set{n q l:Nat}{st:Sto}{o:O}(h:PotB n q st)(h1:l≠n)(h2:l≠q):PotB n q (st.set l o):=by
 obtain⟨as,b,e1,e2,r⟩:=h;exact⟨as,b,by rw[AB h1];exact e1,by rw[AB h2];exact e2,r⟩
theorem ziY{n q:Nat}{st:Sto}{many:Int}(h:PotB n q st)(h0:0<=many)(h1:many<=36):∃ (z:Str) (st':Sto),zbR [.ref n,.int many] st=some (.str z,st')/\LetOk z many.toNat/\PotB n q st'/\FrB n q st st':=by
 obtain⟨hn,hq⟩:=h.ne;have e1:=zhP (z:=zcs) (st:=st) (by decide +kernel);have a1:=zbh st (.lst (zcs.cps.toList.map sgD));have p1:=h.gr (Gr.app st [.lst (zcs.cps.toList.map sgD)]);have f1:=FrB.app n q st [.lst (zcs.cps.toList.map sgD)];generalize hs1:st++[O.lst (zcs.cps.toList.map sgD)]=s1 at e1 a1 p1 f1;have key:=zlo (W:=⟨run 0 many.toNat,[]⟩) (g:=gNm 0) (c:=zd9) (m:=zbr) (ds:=run 0 many.toNat) (acc:=[]) (st:=s1) (ρ:=[none,some (.ref st.length),some (.ref n)])
   (Inv:=fun k a ρ s=>(∃ x,ρ=[x,some (.ref st.length),some (.ref n)])/\(∃ cs rest:List Nat,a=cs.map sgD/\s[st.length]?=some (.lst (rest.map sgD))/\cs.length=k/\(cs++rest).Perm zcs.cps.toList)/\PotB n q s/\FrB n q st s)
   ⟨⟨_,rfl⟩,⟨[],zcs.cps.toList,rfl,a1,rfl,by simp⟩,p1,f1⟩ (fun _ _ _ _ _ _=>rfl) (fun k d a ρ s hd hI=>by
     obtain⟨⟨x,rfl⟩,⟨cs,rest,rfl,hat,hlen,hperm⟩,hp,hf⟩:=hI;have hk:k < many.toNat:=by
       have:=getElem?_lt hd
       rwa [zdp] at this
     have hl36:=hperm.length_eq;rw[AA,zie,hlen] at hl36;obtain⟨r,s2,e2,r0,r1,p2,f2⟩:=zck (many:=(rest.length:Int)) hp (by omega) (by omega);have hat2:s2[st.length]?=some (.lst (rest.map sgD)):=(f2.old st.length (getElem?_lt hat) (AM hn) (AM hq)).trans hat;have hr:r.toNat < rest.length:=by omega
     have hd2:(rest.map sgD)[r.toNat]?=some (sgD rest[r.toNat]):=by rw[AE,AW hr];rfl
     have ep:=pop_at hat2 r0 (by omega) hd2;have el:=zlb hat;rw[Aq] at el;refine⟨[some d,some (.ref st.length),some (.ref n)],s,true,s,by simp[rho,zbb,zbv,zbc,zaO,zaK,zaw,za4,zaJ,zaR,zaL,zaI,zbm,zby,zbu,za0,zbD,zbj,zdc,zaQ,zbB,zbw,zbA,zc9,zc8,zbC,zdd,ap_w,zcN,zaP,zaE,zbi,zbz,zdb,zda,za5,zaS,zbE,zbt,zaz,zaA,zca,zb8,zc7,zc6,zc5,zc4,zc3,zc2,zc1,zc0,zcZ,Ac,Ap,add_int,sub_int,ltD,leD,gtD,geD,cmpD,intC,rho0],rfl,.inl ⟨rfl,sgD rest[r.toNat],s2.set st.length (.lst ((rest.map sgD).eraseIdx r.toNat)),?_,⟨_,rfl⟩,⟨cs++[rest[r.toNat]],rest.eraseIdx r.toNat,by simp,?_,by simp[hlen],?_⟩,p2.set (AM hn) (AM hq),?_⟩⟩
     . unfold zbr;simp[rho,zbb,zbv,zbc,zaO,zaK,zaw,za4,zaJ,zaR,zaL,zaI,zbm,zby,zbu,za0,zbD,zbj,zdc,zaQ,zbB,zbw,zbA,zc9,zc8,zbC,zdd,ap_w,zcN,zaP,zaE,zbi,zbz,zdb,zda,za5,zaS,zbE,zbt,zaz,zaA,zca,zb8,zc7,zc6,zc5,zc4,zc3,zc2,zc1,zc0,zcZ,Ac,Ap,add_int,sub_int,ltD,leD,gtD,geD,cmpD,intC,rho0,zj0,zcd,hat,el,e2,ep]
     . rw[BM (getElem?_lt hat2)];rw[zfl]
     . have:=zet rest r.toNat hr;have h2:(cs++([rest[r.toNat]]++rest.eraseIdx r.toNat)).Perm (cs++rest):=List.Perm.append_left cs this;rw[<-Ak] at h2;exact h2.trans hperm
     . have f3:=hf.trans f2;exact⟨by rw[B0];exact f3.len,fun k hk h1 h2=>by rw[AB (by omega)];exact f3.old k hk h1 h2⟩)
 obtain⟨xs,ρ',s',ec,_,⟨cs,rest,hx,hat,hlen,hperm⟩,hp,hf⟩:=key;rw[B3] at hx;subst hx;rw[zdp] at hlen;have p3:=hp.gr (Gr.app s' [.lst (cs.map sgD)]);obtain⟨z,ez,hz⟩:=Hn.joined (zbh s' (.lst (cs.map sgD))) (by omega);have fc:fits (cs.map sgD).length=true:=zat (by rw[Aq];omega);have sm:small many=true:=zdP h0 (by omega);have hnd:(cs++rest).Nodup:=hperm.nodup_iff.mpr zj1;refine⟨z,s'++[.lst (cs.map sgD)],zb2 ?_,⟨by rw[hz];exact hlen,by rw[hz];exact (List.nodup_append.mp hnd).1,fun c hc=>hperm.mem_iff.mp (Be _ (by rw[<-hz];exact hc))⟩,p3,hf.trans (FrB.app _ _ _ _)⟩;unfold zcS;refine zas (ρ1:=[some (.ref n),some (.int many),some (.ref st.length)]) (s1:=s1) (by simp[rho,zbb,zbv,zbc,zaO,zaK,zaw,za4,zaJ,zaR,zaL,zaI,zbm,zby,zbu,za0,zbD,zbj,zdc,zaQ,zbB,zbw,zbA,zc9,zc8,zbC,zdd,ap_w,zcN,zaP,zaE,zbi,zbz,zdb,zda,za5,zaS,zbE,zbt,zaz,zaA,zca,zb8,zc7,zc6,zc5,zc4,zc3,zc2,zc1,zc0,zcZ,Ac,Ap,add_int,sub_int,ltD,leD,gtD,geD,cmpD,intC,rho0,e1]) ?_;have ecm:zcW (mR1 (mVar 1)) 1 [2,0] (gNm 0) (zd9) (zbr) [some (.ref n),some (.int many),some (.ref st.length)] s1=some (.ref s'.length,s'++[.lst (cs.map sgD)]):=by
   rw[zaE,zcN];simp only[zbb,Ac,Bn,Bo,sm,if_true];rw[show rho0 [some (.ref n),some (.int many),some (.ref st.length)] 1 [2,0]=[none,some (.ref st.length),some (.ref n)] from rfl,ec];simp only[Ac,fc,if_true]
 simp[rho,zbb,zbv,zbc,zaO,zaK,zaw,za4,zaJ,zaR,zaL,zaI,zbm,zby,zbu,za0,zbD,zbj,zdc,zaQ,zbB,zbw,zbA,zc9,zc8,zbC,zdd,ap_w,zcN,zaP,zbi,zbz,zdb,zda,za5,zaS,zbE,zbt,zaz,zaA,zca,zb8,zc7,zc6,zc5,zc4,zc3,zc2,zc1,zc0,zcZ,Ac,Ap,add_int,sub_int,ltD,leD,gtD,geD,cmpD,intC,rho0,zlq,zj0,ziG,zjZ,ziH,ecm,ez]
noncomputable abbrev Tab:=List (List (Nat×Nat))
noncomputable def pD(p:Nat×Nat):D:=.tup [.int p.1,.int p.2]
noncomputable def rowD(r:List (Nat×Nat)):D:=.tup (r.map pD)
noncomputable def wkD(z:Str)(T:Tab):D:=.tup [.str z,.tup (T.map rowD)]
structure TabOk(z:Str)(T:Tab):Prop where
 lo:1<=T.length
 hi:T.length<=100
 row:∀ r∈T,r.length=z.cps.toList.length/\∀ p∈r,p.1 < z.cps.toList.length/\p.2 < T.length
theorem zmJ{ds:List D}{k:Nat}{x:D}{st:Sto}(hx:ds[k]?=some x):ixA (.tup ds) (.int (k:Int)) st=some (x,st):=zcX (by omega) (by simpa using hx)
theorem zle{z:Str}{T:Tab}{st:Sto}:ixA (wkD z T) (.int 1) st=some (.tup (T.map rowD),st):=zcX (by decide) rfl
theorem zlf{z:Str}{T:Tab}{st:Sto}:ixA (wkD z T) (.int 0) st=some (.str z,st):=zcX (by decide) rfl
theorem zmI{T:Tab}{s:Nat}{r:List (Nat×Nat)}{st:Sto}(h:T[s]?=some r):ixA (.tup (T.map rowD)) (.int (s:Int)) st=some (rowD r,st):=zmJ (by rw[AE,h];rfl)
theorem ziA{neg:Bool}{x z:Str}{st:Sto}:inD neg (.str x) (.str z) st=none:=by
 unfold inD;rw[toP,toP]
 by_cases h1:BR x=true
 . by_cases h2:BR z=true
   . simp[h1,h2,memP]
   . simp[h1,h2]
 . simp[h1]
theorem zgv{z:Str}{c:Nat}{st:Sto}:zhI (sgD c) (.str z) st=some (.bl (!decide (c∈z.cps.toList)),st):=by
 have h:=D1 z c;unfold zhI orG zjo orG dinD zgw sgD;rw[ziA];simp only[zb8];rw[h]
theorem zhi{ds:List D}{st:Sto}:tyName st (.tup ds)=some "tuple":=rfl
theorem ty_str{x:Str}{st:Sto}:tyName st (.str x)=some "str":=rfl
theorem ty_int{i:Int}{st:Sto}:tyName st (.int i)=some "int":=rfl
theorem ne_int(a b:Int)(st:Sto):neD (.int a) (.int b) st=some (.bl (!(a==b)),st):=by
 unfold neD;rw[toP,toP];simp[C6]
theorem len_str{z:Str}{st:Sto}(h:z.cps.toList.length<=1000):lenD [.str z] st=some (.int (z.cps.toList.length:Int),st):=by
 have hf:fits z.length=true:=zat (by rw[len_list];omega);unfold lenD;dsimp only;rw[if_pos hf,len_list]
noncomputable abbrev zdk:Str:="0123456789abcdefghijklmnopqrstuvwxyz"
theorem zh1:∀ c∈zcs.cps.toList,c∈zdk.cps.toList:=by decide +kernel
end L2.MP.Hb
namespace L2.MP.Hd
open PySem L2.MP
end L2.MP.Hd
namespace L2.MP
open PySem
@[simp] theorem znJ(n:Nat)(ds:List D):rho n ds=ds.map some++Av (n - ds.length) none:=rfl
@[simp] theorem zm7(ρ:Rho)(n:Nat)(l:List Nat):rho0 ρ n l=Av n none++l.map fun (j:Nat)=>(ρ[j]?).join:=rfl
@[simp] theorem znN{a b:Int}{st:Sto}:ltD (.int a) (.int b) st=some (.bl (decide (a < b)),st):=rfl
@[simp] theorem znO{a b:Int}{st:Sto}:leD (.int a) (.int b) st=some (.bl (decide (a<=b)),st):=rfl
@[simp] theorem znR{a b:Int}{st:Sto}:gtD (.int a) (.int b) st=some (.bl (decide (b < a)),st):=rfl
@[simp] theorem znS{a b:Int}{st:Sto}:geD (.int a) (.int b) st=some (.bl (decide (b<=a)),st):=rfl
@[simp] theorem znQ{a:Int}{st:Sto}:intC [.int a] st=some (.int a,st):=rfl
@[simp] theorem znP{b:Bool}{st:Sto}:intC [.bl b] st=some (.int (if b then 1 else 0),st):=rfl
end L2.MP
namespace L2.MP.Hd
open PySem L2.MP
end L2.MP.Hd
namespace L2.MP.Hd
open PySem L2.MP
open L2.MP.Hb (sgD)
end L2.MP.Hd
namespace L2.MP.Hd
open PySem L2.MP
end L2.MP.Hd
namespace L2.MP
open PySem
theorem zm8{W:Wk}{g:MG}{c:MT}{m:ME}{α:Type}{f h:α->D}{R:Rho->Prop}:∀ {as:List α} {ρ:Rho} {st:Sto},R ρ->(∀ s,Gr st s->walked W s=true)->(∀ a∈as,∀ ρ s,R ρ->Gr st s->∃ ρ1 s1,g (f a) ρ s=some (ρ1,s)/\c ρ1 s=some (true,s)/\m ρ1 s=some (h a,s1)/\Gr s s1/\R ρ1) ->
   ∃ s',mCI W g c m (as.map f) ρ st=some (as.map h,s')/\Gr st s'
 | [],ρ,st,r,wk,_=>⟨st,by unfold mCI;rw[B5];simp only[wk st (Gr.refl st),if_true,B5],Gr.refl st⟩
 | a::as,ρ,st,r,wk,hs=>by
   obtain⟨ρ1,s1,e1,e2,e3,g1,r1⟩:=hs a Au ρ st r (Gr.refl st);obtain⟨s',e,g'⟩:=zm8 (W:=W) (g:=g) (c:=c) (m:=m) (f:=f) (h:=h) (R:=R) (as:=as) (st:=s1) r1 (fun s q=>wk s (g1.trans q)) fun b hb ρ s q z=>hs b (Am _ hb) ρ s q (g1.trans z);refine⟨s',?_,g1.trans g'⟩;rw[Az];unfold mCI;rw[if_pos (wk st (Gr.refl st)),e1];simp only[Ac,e2,if_true,e3,e,Ap,Az]
theorem zhM{i:Int}(h0:0<=i)(h1:i<=1000000):zgE i=true:=by
 unfold zgE;apply decide_eq_true
 by_cases h:i.natAbs=0
 . rw[h];decide
 . have:i.natAbs.log2 < 20:=(Nat.log2_lt h).mpr (by omega);omega
noncomputable def itos(i:Int):Str:=A9 (toString i)
theorem zeI{i:Int}{s:Sto}(h0:0<=i)(h1:i<=1000000):strC [.int i] s=some (.str (itos i),s):=by
 unfold strC;simp only[zhM h0 h1,if_true];rfl
theorem zgL{i:Int}(h0:0<=i):(itos i).cps.toList=(Nat.toDigits 10 i.toNat).map Char.toNat:=by
 obtain⟨m,rfl⟩:=Int.eq_ofNat_of_zero_le h0;have:=PyProof.Rows.text_ofNat m;show (A9 (toString (Int.ofNat m))).cps.toList=_;rw[this];simp
theorem zjD{i:Int}(h0:0<=i)(h1:i<=1000000):(itos i).length<=7:=by
 show (itos i).cps.size<=7;rw[<-Ar,zgL h0,Aq];exact PyProof.Rows.digits10_le (by decide) (by omega)
theorem zjE{i:Int}(h0:0<=i):∀ c∈(itos i).cps.toList,48<=c/\c<=57:=by
 intro c hc;rw[zgL h0] at hc;obtain⟨ch,hch,e⟩:=List.mem_map.mp hc;have r:=PyProof.Rows.digit_range (Nat.isDigit_of_mem_toDigits (by decide) (by decide) hch);rw[<-e];exact r
end L2.MP
namespace L2.MP.stickytiles_k44_what_is_a_walker
open PySem L2.MP L2.MP.Hb
noncomputable def zeA:MS:=mRet (zhL (mIsi "int" (mVar 0)) (zhL (zlz (mIsi "bool" (mVar 0))) (zcc leD leD (mVar 1) (mVar 0) (mVar 2))))
noncomputable def zcf:GN:=fnM 3 zeA
noncomputable def zeB:MS:=mRet (zhL (mIsi "tuple" (mVar 0)) (mBin eqD (zav lenD (zac (mVar 0) (mNil))) (mVar 1)))
noncomputable def zbf:GN:=fnM 2 zeB
noncomputable def zb0:ME:=mBin inA (mVar 0) (mCon (.str "abcdefghijklmnopqrstuvwxyz0123456789"))
noncomputable def zaM:MS:=mSeq (mIf (mOrT (zcI (mTst (mIsi "str" (mVar 0)))) (zcI (mTst (zcc leD leD (mCon (.int 1)) (zav lenD (zac (mVar 0) (mNil))) (mCon (.int 10)))))) (mRet (mCon (.bl false))) (zcr)) (mRet (zhL (zav allC (zac (zcW (mWA (mVar 0)) 1 [] (gNm 0) (zd9) (zb0)) (mNil))) (mBin eqD (zav lenE (zac (zav zkw (zac (mVar 0) (mNil))) (mNil))) (zav lenD (zac (mVar 0) (mNil))))))
noncomputable def zbS:GN:=fnM 1 zaM
noncomputable def zfw:MS:=mRet (zhL (zav zbf (zac (mVar 0) (zac (mCon (.int 2)) (mNil)))) (zhL (zav zcf (zac (mBin ixA (mVar 0) (mCon (.int 0))) (zac (mCon (.int 0)) (zac (mBin subD (mVar 1) (mCon (.int 1))) (mNil))))) (zav zcf (zac (mBin ixA (mVar 0) (mCon (.int 1))) (zac (mCon (.int 0)) (zac (mBin subD (mVar 2) (mCon (.int 1))) (mNil)))))))
noncomputable def zdm:GN:=fnM 3 zfw
noncomputable def zcp:ME:=zav zdm (zac (mVar 0) (zac (mVar 1) (zac (mVar 2) (mNil))))
noncomputable def zcB:MS:=mRet (zhL (zav zbf (zac (mVar 0) (zac (mVar 1) (mNil)))) (zav allC (zac (zcW (mWA (mVar 0)) 1 [1,2] (gNm 0) (zd9) (zcp)) (mNil))))
noncomputable def zcg:GN:=fnM 3 zcB
noncomputable def zbT:ME:=zav zcg (zac (mVar 0) (zac (zav lenD (zac (mBin ixA (mVar 1) (mCon (.int 0))) (mNil))) (zac (zav lenD (zac (mVar 2) (mNil))) (mNil))))
noncomputable def zbJ:MS:=mSeq (mIf (mOrT (zcI (mTst (zav zbf (zac (mVar 0) (zac (mCon (.int 2)) (mNil)))))) (zcI (mTst (zav zbS (zac (mBin ixA (mVar 0) (mCon (.int 0))) (mNil)))))) (mRet (mCon (.bl false))) (zcr)) (mSeq (mAsg (mBin ixA (mVar 0) (mCon (.int 1))) (gNm 1)) (mSeq (mIf (mOrT (zcI (mTst (mIsi "tuple" (mVar 1)))) (zcI (mTst (zcc leD leD (mCon (.int 1)) (zav lenD (zac (mVar 1) (mNil))) (mCon (.int 4)))))) (mRet (mCon (.bl false))) (zcr)) (mRet (zav allC (zac (zcW (mWA (mVar 1)) 1 [0,1] (gNm 0) (zd9) (zbT)) (mNil))))))
noncomputable def zbo:GN:=fnM 2 zbJ
noncomputable def zaY:ME:=mTup (zac (zav zae (zac (mVar 1) (zac (zav lenD (zac (mVar 2) (mNil))) (mNil)))) (zac (zav zae (zac (mVar 1) (zac (mVar 3) (mNil)))) (mNil)))
noncomputable def zbN:MS:=mExp (mApp (mVar 5) (zac (zav zec (zac (zcW (mWA (mVar 3)) 1 [0,3,4] (gNm 0) (zd9) (zaY)) (mNil))) (mNil)))
noncomputable def zb4:MS:=mSeq (mAsg (zav zbR (zac (mVar 0) (zac (mBin addD (mCon (.int 1)) (zav zae (zac (mVar 0) (zac (mVar 1) (mNil))))) (mNil)))) (gNm 3)) (mSeq (mAsg (mBin addD (mCon (.int 1)) (zav zae (zac (mVar 0) (zac (mVar 2) (mNil))))) (gNm 4)) (mSeq (mAsg (mLst (mNil)) (gNm 5)) (mSeq (mFor (mR1 (mVar 4)) (gNm 6) (zbN)) (mRet (mTup (zac (mVar 3) (zac (zav zec (zac (mVar 5) (mNil))) (mNil))))))))
noncomputable def zbI:GN:=fnM 7 zb4
noncomputable def zaC:MS:=mSeq (mIf (ziv (mTst (mIsi "tuple" (mVar 1))) (mTst (mBin eqD (zav zae (zac (mVar 0) (zac (mCon (.int 2)) (mNil)))) (mCon (.int 0))))) (mRet (mBin ixA (mLst (zac (zav zfT (zac (mVar 1) (mNil))) (zac (mSlC (mVar 1) (zcw) (zcv (mNeg (mCon (.int 1))))) (zac (mBin addD (mVar 1) (mSlC (mVar 1) (zcw) (zcv (mCon (.int 1))))) (zac (mBin addD (mVar 1) (mTup (zac (mCon (.int 0)) (mNil)))) (zac (mTup (mNil)) (zac (zj7 (mVar 1) (mNeg (mCon (.int 1)))) (mNil)))))))) (zav zae (zac (mVar 0) (zac (mCon (.int 6)) (mNil)))))) (zcr)) (mSeq (mIf (ziv (mTst (mIsi "str" (mVar 1))) (mTst (mBin eqD (zav zae (zac (mVar 0) (zac (mCon (.int 2)) (mNil)))) (mCon (.int 0))))) (mSeq (mAsg (mBin ixA (mCon (.str "A-_ .\n~09az")) (zav zae (zac (mVar 0) (zac (mCon (.int 11)) (mNil))))) (gNm 2)) (mSeq (mAsg (zav zae (zac (mVar 0) (zac (mBin addD (zav lenD (zac (mVar 1) (mNil))) (mCon (.int 1))) (mNil)))) (gNm 3)) (mSeq (mAsg (mLst (zac (mBin addD (mBin addE (mSlC (mVar 1) (zcw) (zcv (mVar 3))) (mVar 2)) (mSlC (mVar 1) (zcv (mVar 3)) (zcw))) (zac (mBin addD (mBin addE (mSlC (mVar 1) (zcw) (zcv (mVar 3))) (mVar 2)) (mSlC (mVar 1) (zcv (mBin addD (mVar 3) (mCon (.int 1)))) (zcw))) (zac (mBin addD (mVar 1) (mSlC (mVar 1) (zcw) (zcv (mCon (.int 1))))) (zac (mSlC (mVar 1) (zcv (mCon (.int 1))) (zcw)) (mNil)))))) (gNm 4)) (mRet (mBin ixA (mBin addD (mVar 4) (mLst (zac (zav zfT (zac (mVar 1) (mNil))) (zac (zav zeF (zac (mVar 1) (mNil))) (mNil))))) (zav zae (zac (mVar 0) (zac (mCon (.int 6)) (mNil))))))))) (zcr)) (mSeq (mIf (ziv (mTst (mIsi "int" (mVar 1))) (mTst (mBin eqD (zav zae (zac (mVar 0) (zac (mCon (.int 2)) (mNil)))) (mCon (.int 0))))) (mRet (mBin ixA (mLst (zac (mBin addD (mVar 1) (mCon (.int 1))) (zac (mBin subD (mVar 1) (mCon (.int 1))) (zac (mNeg (mCon (.int 1))) (zac (mCon (.bl true)) (zac (mCon (.bl false)) (zac (zav strC (zac (mVar 1) (mNil))) (zac (mBin powB (mCon (.int 10)) (mCon (.int 30))) (mNil))))))))) (zav zae (zac (mVar 0) (zac (mCon (.int 7)) (mNil)))))) (zcr)) (mRet (mBin ixA (mLst (zac (mCon .non) (zac (mCon (.bl true)) (zac (mCon (.int 0)) (zac (mNeg (mCon (.int 1))) (zac (mCon (.int 4)) (zac (mCon (.int 10)) (zac (mCon (.str "")) (zac (mCon (.str "a")) (zac (mTup (mNil)) (zac (mLst (mNil)) (zac (zj8 false) (zac (mTup (zac (mCon (.int 0)) (zac (mCon (.int 0)) (mNil)))) (zac (mTup (zac (mTup (zac (mCon (.int 0)) (zac (mCon (.int 0)) (mNil)))) (mNil))) (mNil))))))))))))))) (zav zae (zac (mVar 0) (zac (mCon (.int 13)) (mNil))))))))
noncomputable def zbn:GN:=fnM 5 zaC
noncomputable def zaj(g:GN):MS:=mSeq (mIf (mOrT (zcI (mTst (mIsi "tuple" (mVar 1)))) (mOrT (mTst (mBin eqD (mVar 1) (mTup (mNil)))) (mTst (mBin eqD (zav zae (zac (mVar 0) (zac (mCon (.int 5)) (mNil)))) (mCon (.int 0)))))) (mRet (zav zbn (zac (mVar 0) (zac (mVar 1) (mNil))))) (zcr)) (mSeq (mAsg (zav zae (zac (mVar 0) (zac (zav lenD (zac (mVar 1) (mNil))) (mNil)))) (gNm 2)) (mRet (mBin addD (mBin addE (mSlC (mVar 1) (zcw) (zcv (mVar 2))) (mTup (zac (zav g (zac (mVar 0) (zac (mBin ixA (mVar 1) (mVar 2)) (mNil)))) (mNil)))) (mSlC (mVar 1) (zcv (mBin addD (mVar 2) (mCon (.int 1)))) (zcw)))))
noncomputable def za9:GN:=recG 3 zaj 12
noncomputable def zez:MS:=mSeq (mAsg (zav za9 (zac (mVar 1) (zac (mVar 3) (mNil)))) (gNm 5)) (mSeq (mAsg (zav zbo (zac (mVar 5) (mNil))) (gNm 6)) (mIf (mOrT (zcI (mTst (mIsi "bool" (mVar 6)))) (mOrT (mTst (mBin neD (mVar 6) (zav zba (zac (mVar 5) (mNil))))) (mTst (mBin zmy (zav zbo (zac (mVar 3) (mNil))) (mCon (.bl true)))))) (mRet (mCon (.bl false))) (zcr)))
noncomputable def zhc:ME:=mBin isBD (zav zbo (zac (mVar 0) (mNil))) (mCon (.bl false))
noncomputable def zfv:MS:=mSeq (mAsg (zav zbI (zac (mVar 1) (zac (mCon (.int 10)) (zac (mCon (.int 4)) (mNil))))) (gNm 3)) (mSeq (mFor (mR1 (mCon (.int 12))) (gNm 4) (zez)) (mSeq (mAsg (mTup (zac (mBin ixA (mVar 3) (mCon (.int 0))) (zac (mBin addE (mBin ixA (mVar 3) (mCon (.int 1))) (mBin mulU (mTup (zac (mBin ixA (mBin ixA (mVar 3) (mCon (.int 1))) (mCon (.int 0))) (mNil))) (mBin subD (mCon (.int 5)) (zav lenD (zac (mBin ixA (mVar 3) (mCon (.int 1))) (mNil)))))) (mNil)))) (gNm 7)) (mSeq (mAsg (mTup (zac (mTup (zac (mCon (.int 0)) (zac (mCon (.int 0)) (mNil)))) (zac (mTup (zac (mCon (.int 1)) (zac (mCon (.int 0)) (mNil)))) (mNil)))) (gNm 8)) (mSeq (mAsg (mLst (zac (mVar 7) (zac (mTup (zac (mCon (.str "abcdefghijk")) (zac (mTup (zac (mBin mulU (mTup (zac (mTup (zac (mCon (.int 0)) (zac (mCon (.int 0)) (mNil)))) (mNil))) (mCon (.int 11))) (mNil))) (mNil)))) (zac (mTup (zac (mCon (.str "ab")) (zac (mBin mulU (mTup (zac (mVar 8) (mNil))) (mCon (.int 5))) (mNil)))) (zac (mTup (zac (mCon (.str "aa")) (zac (mTup (zac (mVar 8) (mNil))) (mNil)))) (zac (mTup (zac (mCon (.str "ab")) (zac (mVar 8) (mNil)))) (mNil))))))) (gNm 9)) (mSeq (mAsg (mBin addD (mVar 9) (mLst (zac (mTup (zac (mVar 3) (mNil))) (zac (mBin addD (mVar 3) (mTup (zac (mTup (mNil)) (mNil)))) (zac (mTup (zac (mBin ixA (mVar 3) (mCon (.int 1))) (zac (mBin ixA (mVar 3) (mCon (.int 0))) (mNil)))) (zac (mTup (zac (mCon (.str "")) (zac (mTup (zac (mTup (mNil)) (mNil))) (mNil)))) (zac (mTup (zac (mCon (.str "a")) (zac (mTup (mNil)) (mNil)))) (zac (mCon .non) (zac (mCon (.str "a")) (zac (mCon (.int 5)) (zac (mLst (mNil)) (zac (mTup (mNil)) (mNil))))))))))))) (gNm 9)) (mIf (zcI (mTst (zav allC (zac (zcW (mWA (mVar 9)) 1 [] (gNm 0) (zd9) (zhc)) (mNil))))) (mRet (mCon (.bl false))) (zcr)))))))
noncomputable def zmY:MS:=mSeq (mAsg (zav zbQ (zac (mVar 0) (mNil))) (gNm 1)) (mSeq (mFor (mR1 (mCon (.int 3))) (gNm 2) (zfv)) (mRet (mBin isBD (zav zbo (zac (mTup (zac (mCon (.str "z")) (zac (mTup (zac (mTup (zac (mTup (zac (mCon (.int 0)) (zac (mCon (.int 0)) (mNil)))) (mNil))) (mNil))) (mNil)))) (mNil))) (mCon (.bl true)))))
noncomputable def zj4:GN:=fnM 10 zmY
end L2.MP.stickytiles_k44_what_is_a_walker
namespace L2.MP.stickytiles_k44_what_is_a_walker
open PySem L2 L2.MP L2.MP.Hb PySem.Spec PyProof.Rows
noncomputable def top(i:Nat):Stmt:=PySem.Challenge.pw_stickytiles_k44_what_is_a_walker.main.body.getD i (.Pass ⟨0,0,0,0⟩)
section
variable {P:Program} {w:World} {K:Ab} {mg:Str->Option Value} {base:Heap}
theorem nd_0:(["sign"]:List Str).Nodup:=by decide +kernel
theorem nd_1:(["part","letters","states"]:List Str).Nodup:=by decide +kernel
theorem nd_2:(["thing","table"]:List Str).Nodup:=by decide +kernel
theorem nd_3:(["part","thing","table"]:List Str).Nodup:=by decide +kernel
theorem nd_4:(["_law_script","_law_seed","_law_k","_law_cell"]:List Str).Nodup:=by decide +kernel
theorem nd_5:(["_law_cell"]:List Str).Nodup:=by decide +kernel
theorem nd_6:(["_law_state","_law_many","_law_digit"]:List Str).Nodup:=by decide +kernel
theorem nd_7:(["_law_state","_law_many","_law_left"]:List Str).Nodup:=by decide +kernel
theorem nd_8:(["_law_k","_law_left","_law_state"]:List Str).Nodup:=by decide +kernel
theorem nd_9:(["_law_state","_law_signs_here","_law_states","_law_letters","_law_many","_law_table","_law_turn"]:List Str).Nodup:=by decide +kernel
theorem znE:(["_law_sign","_law_state","_law_letters","_law_many"]:List Str).Nodup:=by decide +kernel
theorem zm2:(["_law_thing","_law_many","_law_one","_law_most"]:List Str).Nodup:=by decide +kernel
theorem zlx:(["_law_thing","_law_letters","_law_table","_law_signs_here","_law_entries"]:List Str).Nodup:=by decide +kernel
theorem znD:(["_law_sign","_law_letters"]:List Str).Nodup:=by decide +kernel
theorem znC:(["_law_sign","_law_signs_here"]:List Str).Nodup:=by decide +kernel
theorem znB:(["_law_entry","_law_letters","_law_table"]:List Str).Nodup:=by decide +kernel
theorem zmA:(["_law_state","_law_thing","_law_sign","_law_at","_law_some"]:List Str).Nodup:=by decide +kernel
theorem znA:(["_law_state","_law_thing","_law_at"]:List Str).Nodup:=by decide +kernel
theorem zhd:(["_law_script","_law_state","_law_turn","_law_walker_here","_law_k","_law_thing","_law_found","_law_longer","_law_two","_law_some"]:List Str).Nodup:=by decide +kernel
theorem znz:(["_law_thing"]:List Str).Nodup:=by decide +kernel
theorem zfy:FnScope ["thing","least","most"] ["thing","least","most"] (zan (top 2)):=⟨rfl,rfl,rfl,by decide +kernel,rfl,by decide +kernel,by decide +kernel⟩
theorem zfD(L:Laid K mg "is_whole" (top 2) ["thing","least","most"])(b_isinstance:mg "isinstance"=none)(b_int:mg "int"=none)(b_bool:mg "bool"=none):zb9 P w K mg base 1 "is_whole" 3 zcf :=
 zcz (k:=0) L zfy fun f cdv A outer s H E hr=>JSs.out (zar (JS.mk (za1 (zeL (zcb (T:="int") (x:="isinstance") (by decide) rfl b_isinstance (zab 0) rfl b_int zjW) (zeL (zlU (zcb (T:="bool") (x:="isinstance") (by decide) rfl b_isinstance (zab 0) rfl b_bool zg3)) (zej (zi4 zfC zfC (zab 1) (zab 0) (zab 2))))))))
theorem zfz:FnScope ["thing","size"] ["thing","size"] (zan (top 3)):=⟨rfl,rfl,rfl,by decide +kernel,rfl,by decide +kernel,by decide +kernel⟩
theorem zfE(L:Laid K mg "is_tuple" (top 3) ["thing","size"])(b_isinstance:mg "isinstance"=none)(b_tuple:mg "tuple"=none)(b_len:mg "len"=none):zb9 P w K mg base 1 "is_tuple" 2 zbf :=
 zcz (k:=0) L zfz fun f cdv A outer s H E hr=>JSs.out (zar (JS.mk (za1 (zeL (zcb (T:="tuple") (x:="isinstance") (by decide) rfl b_isinstance (zab 0) rfl b_tuple zbK) (zej (zgb (zdF (zbe hr)) (zaq zau rfl b_len zbL (zaa (zab 0) (zaf))) (zab 1) rfl))))))
theorem zdT:FnScope ["thing"] ["thing"] (zan (top 5)):=⟨rfl,rfl,rfl,by decide +kernel,rfl,by decide +kernel,by decide +kernel⟩
theorem zd0{t_FACE_SIGNS:Tok}(L:Laid K mg "are_letters" (top 5) ["thing"])(b_isinstance:mg "isinstance"=none)(b_str:mg "str"=none)(b_len:mg "len"=none)(b_all:mg "all"=none)(b_set:mg "set"=none)(g_FACE_SIGNS:mg "FACE_SIGNS"=some (.str "abcdefghijklmnopqrstuvwxyz0123456789" t_FACE_SIGNS)):zb9 P w K mg base 1 "are_letters" 1 zbS :=
 zcz (k:=0) L zdT fun f cdv A outer s H E hr=>JSs.out (zai (zea (SW.sb (zd7 (zci (zd8 (zcb (T:="str") (x:="isinstance") (by decide) rfl b_isinstance (zab 0) rfl b_str zic))) (zcV (zci (zgd zfC zfC (zag) (zaq zau rfl b_len zbL (zaa (zab 0) (zaf))) (zag)))))) (zar (JS.mk (za1 (zdD)))) (zbk)) (zar (JS.mk (za1 (zeL (zaq (zcA rfl) rfl b_all zg4 (zaa (zcj rfl rfl (zbY (N':=["sign"]) (nt:=1) (fr:=[]) [] rfl (by decide +kernel) (by decide +kernel) (by decide +kernel) rfl trivial trivial) (zbW (zab 0)) (fun C s0 H0 fp=>zbd (i:=0) nd_0 rfl (by first | exact Ax rfl | exact Aw rfl)) (fun C s0 H0 fp=>zeN) (fun C s0 H0 fp=>zlV (zbe hr) (zab 0) (zkD rfl g_FACE_SIGNS))) (zaf))) (zej (zgb (zdF (zbe hr)) (zaq zib rfl b_len zbL (zaa (zbO (zia rfl) rfl b_set zmV (zaa (zab 0) (zaf))) (zaf))) (zaq zau rfl b_len zbL (zaa (zab 0) (zaf))) rfl)))))))
theorem zgc:FnScope ["thing","letters","states"] ["thing","letters","states"] (zan (top 6)):=⟨rfl,rfl,rfl,by decide +kernel,rfl,by decide +kernel,by decide +kernel⟩
theorem zgs(L:Laid K mg "is_step" (top 6) ["thing","letters","states"])(h_is_tuple:zb9 P w K mg base 1 "is_tuple" 2 zbf)(h_is_whole:zb9 P w K mg base 1 "is_whole" 3 zcf):zb9 P w K mg base 2 "is_step" 3 zdm :=
 zcz (k:=1) L zgc fun f cdv A outer s H E hr=>JSs.out (zar (JS.mk (za1 (zeL (zal h_is_tuple (hr.mono (by decide)) rfl (zaa (zab 0) (zaa (zag) (zaf))) (zay.cons (zay.cons zay.nil))) (zeL (zal h_is_whole (hr.mono (by decide)) rfl (zaa (za2 (zch hr) (zab 0) (zag)) (zaa (zag) (zaa (zaD zfc (zab 1) (zag)) (zaf)))) (zay.cons (zay.cons (zay.cons zay.nil)))) (zej (zal h_is_whole (hr.mono (by decide)) rfl (zaa (za2 (zch hr) (zab 0) (zag)) (zaa (zag) (zaa (zaD zfc (zab 2) (zag)) (zaf)))) (zay.cons (zay.cons (zay.cons zay.nil))))))))))
theorem zfA:FnScope ["thing","letters","states"] ["thing","letters","states"] (zan (top 7)):=⟨rfl,rfl,rfl,by decide +kernel,rfl,by decide +kernel,by decide +kernel⟩
theorem zfF(L:Laid K mg "is_state" (top 7) ["thing","letters","states"])(b_all:mg "all"=none)(h_is_tuple:zb9 P w K mg base 1 "is_tuple" 2 zbf)(h_is_step:zb9 P w K mg base 2 "is_step" 3 zdm):zb9 P w K mg base 3 "is_state" 3 zcg :=
 zcz (k:=2) L zfA fun f cdv A outer s H E hr=>JSs.out (zar (JS.mk (za1 (zeL (zal h_is_tuple (hr.mono (by decide)) rfl (zaa (zab 0) (zaa (zab 1) (zaf))) (zay.cons (zay.cons zay.nil))) (zej (zaq (zcA rfl) rfl b_all zg4 (zaa (zcj rfl rfl (zbY (N':=["part","letters","states"]) (nt:=1) (fr:=[1,2]) ["letters","states"] rfl (by decide +kernel) (by decide +kernel) (by decide +kernel) rfl ⟨⟨rfl,by decide⟩,⟨⟨rfl,by decide⟩,trivial⟩⟩ ⟨by first | exact Ax rfl | exact Aw rfl,⟨by first | exact Ax rfl | exact Aw rfl,trivial⟩⟩) (zbW (zab 0)) (fun C s0 H0 fp=>zbd (i:=0) nd_1 rfl (by first | exact Ax rfl | exact Aw rfl)) (fun C s0 H0 fp=>zeN) (fun C s0 H0 fp=>zal h_is_step (hr.mono (by decide)) rfl (zaa (zab 0) (zaa (zab 1) (zaa (zab 2) (zaf)))) (zay.cons (zay.cons (zay.cons zay.nil))))) (zaf))))))))
theorem zeO:FnScope ["thing","table"] ["thing"] (zan (top 8)):=⟨rfl,rfl,rfl,by decide +kernel,rfl,by decide +kernel,by decide +kernel⟩
theorem zeS(L:Laid K mg "is_walker" (top 8) ["thing"])(b_isinstance:mg "isinstance"=none)(b_tuple:mg "tuple"=none)(b_len:mg "len"=none)(b_all:mg "all"=none)(h_is_tuple:zb9 P w K mg base 1 "is_tuple" 2 zbf)(h_are_letters:zb9 P w K mg base 1 "are_letters" 1 zbS)(h_is_state:zb9 P w K mg base 3 "is_state" 3 zcg):zb9 P w K mg base 4 "is_walker" 1 zbo :=
 zcz (k:=3) L zeO fun f cdv A outer s H E hr=>JSs.out (zai (zea (SW.sb (zd7 (zci (zd8 (zal h_is_tuple (hr.mono (by decide)) rfl (zaa (zab 0) (zaa (zag) (zaf))) (zay.cons (zay.cons zay.nil))))) (zcV (zci (zd8 (zal h_are_letters (hr.mono (by decide)) rfl (zaa (za2 (zch hr) (zab 0) (zag)) (zaf)) (zay.cons zay.nil))))))) (zar (JS.mk (za1 (zdD)))) (zbk)) (zai (JS.mk (zbV (i:=1) nd_2 rfl (by first | exact Ax rfl | exact Aw rfl) (za2 (zch hr) (zab 0) (zag)))) (zai (zea (SW.sb (zd7 (zci (zd8 (zcb (T:="tuple") (x:="isinstance") (by decide) rfl b_isinstance (zab 1) rfl b_tuple zbK))) (zcV (zci (zgd zfC zfC (zag) (zaq zau rfl b_len zbL (zaa (zab 1) (zaf))) (zag)))))) (zar (JS.mk (za1 (zdD)))) (zbk)) (zar (JS.mk (za1 (zaq (zcA rfl) rfl b_all zg4 (zaa (zcj rfl rfl (zbY (N':=["part","thing","table"]) (nt:=1) (fr:=[0,1]) ["thing","table"] rfl (by decide +kernel) (by decide +kernel) (by decide +kernel) rfl ⟨⟨rfl,by decide⟩,⟨⟨rfl,by decide⟩,trivial⟩⟩ ⟨by first | exact Ax rfl | exact Aw rfl,⟨by first | exact Ax rfl | exact Aw rfl,trivial⟩⟩) (zbW (zab 1)) (fun C s0 H0 fp=>zbd (i:=0) nd_3 rfl (by first | exact Ax rfl | exact Aw rfl)) (fun C s0 H0 fp=>zeN) (fun C s0 H0 fp=>zal h_is_state (hr.mono (by decide)) rfl (zaa (zab 0) (zaa (zaq zau rfl b_len zbL (zaa (za2 (zch hr) (zab 1) (zag)) (zaf))) (zaa (zaq zau rfl b_len zbL (zaa (zab 2) (zaf))) (zaf)))) (zay.cons (zay.cons (zay.cons zay.nil))))) (zaf)))))))))
theorem zdR:FnScope ["_law_script","_law_seed","_law_k","_law_cell"] ["_law_script"] (zan (top 10)):=⟨rfl,rfl,rfl,by decide +kernel,rfl,by decide +kernel,by decide +kernel⟩
theorem zdY(L:Laid K mg "_law_start" (top 10) ["_law_script"])(b_enumerate:mg "enumerate"=none)(b_abs:mg "abs"=none):zb9 P w K mg base 1 "_law_start" 1 zbQ :=
 zcz (k:=0) L zdR fun f cdv A outer s H E hr=>JSs.out (zai (JS.mk (zbV (i:=1) nd_4 rfl (by first | exact Ax rfl | exact Aw rfl) (zag))) (zai (zfL Bz rfl (zkt rfl b_enumerate (zdQ (zab 0) (zb6) (zb5 (zag)))) (ziZ rfl (zcC (zbd (i:=2) nd_4 rfl (by first | exact Ax rfl | exact Aw rfl)) (zcC (zbd (i:=3) nd_4 rfl (by first | exact Ax rfl | exact Aw rfl)) (zf9)))) (zar (JS.mk (zbV (i:=1) nd_4 rfl (by first | exact Ax rfl | exact Aw rfl) (zaD zdq (zaD za3 (zaD za3 (zaD za3 (zaD zem (zab 1) (zag)) (zaD zdq (zab 3) (zag))) (zaD zem (zag) (zab 2))) (zag)) (zag)))))) (zar (JS.mk (za1 (zcl (zaa (zcj rfl rfl (zbY (N':=["_law_cell"]) (nt:=1) (fr:=[]) [] rfl (by decide +kernel) (by decide +kernel) (by decide +kernel) rfl trivial trivial) (zbW (zdQ (zab 0) (zb6) (zb5 (zag)))) (fun C s0 H0 fp=>zbd (i:=0) nd_5 rfl (by first | exact Ax rfl | exact Aw rfl)) (fun C s0 H0 fp=>zi5 (zbx zk2 (zaq zfq rfl b_abs zlp (zaa (zab 0) (zaf))) (zaD ziq (zag) (zag)) rfl)) (fun C s0 H0 fp=>zaq zfq rfl b_abs zlp (zaa (zab 0) (zaf)))) (zaa (zab 1) (zaf)))))))))
theorem zek:FnScope ["_law_state","_law_many","_law_digit"] ["_law_state","_law_many"] (zan (top 11)):=⟨rfl,rfl,rfl,by decide +kernel,rfl,by decide +kernel,by decide +kernel⟩
theorem zep(L:Laid K mg "_law_next" (top 11) ["_law_state","_law_many"]):zb9 P w K mg base 1 "_law_next" 2 zae :=
 zcz (k:=0) L zek fun f cdv A outer s H E hr=>JSs.out (zai (zjB Bz (SW.sb (zhn (zbx (zel (zbe hr)) (za2 (zch hr) (zab 0) (zag)) (zcl (zaf)) rfl) (ze5 (zbx (zdF (zbe hr)) (za2 (zch hr) (za2 (zch hr) (zab 0) (zag)) (zag)) (zag) rfl)))) (zar (JS.mk (zii (zky (za2 (zch hr) (zab 0) (zag)) (zaa (zag) (zaf))))))) (zai (zea (zbx (zel (zbe hr)) (za2 (zch hr) (zab 0) (zag)) (zcl (zaf)) rfl) (zai (JS.mk (zbV (i:=2) nd_6 rfl (by first | exact Ax rfl | exact Aw rfl) (zaD zdq (za2 (zch hr) (za2 (zch hr) (zab 0) (zag)) (zag)) (zab 1)))) (zai (JS.mk (zkm (zch hr) (za2 (zch hr) (zab 0) (zag)) (zag) (zaD zgp (za2 (zch hr) (za2 (zch hr) (zab 0) (zag)) (zag)) (zab 1)))) (zar (JS.mk (za1 (zab 2)))))) (zbk)) (zai (JS.mk (zkm (zch hr) (zab 0) (zag) (zaD zdq (zaD za3 (zaD zem (za2 (zch hr) (zab 0) (zag)) (zag)) (zag)) (zag)))) (zar (JS.mk (za1 (zaD zdq (zaD zgp (zaD zdq (zaD zem (za2 (zch hr) (zab 0) (zag)) (zaD za3 (zaD zdq (za2 (zch hr) (zab 0) (zag)) (zag)) (zag))) (zag)) (zag)) (zab 1))))))))
theorem zdS:FnScope ["_law_state","_law_many","_law_left"] ["_law_state","_law_many"] (zan (top 12)):=⟨rfl,rfl,rfl,by decide +kernel,rfl,by decide +kernel,by decide +kernel⟩
theorem zdZ(L:Laid K mg "_law_signs" (top 12) ["_law_state","_law_many"])(b_list:mg "list"=none)(b_range:mg "range"=none)(b_len:mg "len"=none)(h_q_law_next:zb9 P w K mg base 1 "_law_next" 2 zae):zb9 P w K mg base 2 "_law_signs" 2 zbR :=
 zcz (k:=1) L zdS fun f cdv A outer s H E hr=>JSs.out (zai (JS.mk (zbV (i:=2) nd_7 rfl (by first | exact Ax rfl | exact Aw rfl) (zbO (zex rfl) rfl b_list zg2 (zaa (zcu) (zaf))))) (zar (JS.mk (za1 (zkC (zcu) (zaa (zcj rfl rfl (zbY (N':=["_law_k","_law_left","_law_state"]) (nt:=1) (fr:=[2,0]) ["_law_left","_law_state"] rfl (by decide +kernel) (by decide +kernel) (by decide +kernel) rfl ⟨⟨rfl,by decide⟩,⟨⟨rfl,by decide⟩,trivial⟩⟩ ⟨by first | exact Ax rfl | exact Aw rfl,⟨by first | exact Ax rfl | exact Aw rfl,trivial⟩⟩) (zdi rfl b_range (zab 1)) (fun C s0 H0 fp=>zbd (i:=0) nd_8 rfl (by first | exact Ax rfl | exact Aw rfl)) (fun C s0 H0 fp=>zeN) (fun C s0 H0 fp=>zky (zab 1) (zaa (zal h_q_law_next (hr.mono (by decide)) rfl (zaa (zab 2) (zaa (zaq zau rfl b_len zbL (zaa (zab 1) (zaf))) (zaf))) (zay.cons (zay.cons zay.nil))) (zaf)))) (zaf)))))))
theorem zdE:FnScope ["_law_state","_law_signs_here","_law_states","_law_letters","_law_many","_law_table","_law_turn"] ["_law_state","_law_signs_here","_law_states"] (zan (top 13)):=⟨rfl,rfl,rfl,by decide +kernel,rfl,by decide +kernel,by decide +kernel⟩
theorem zdG(L:Laid K mg "_law_walker" (top 13) ["_law_state","_law_signs_here","_law_states"])(b_range:mg "range"=none)(b_len:mg "len"=none)(b_tuple:mg "tuple"=none)(h_q_law_next:zb9 P w K mg base 1 "_law_next" 2 zae)(h_q_law_signs:zb9 P w K mg base 2 "_law_signs" 2 zbR):zb9 P w K mg base 3 "_law_walker" 3 zbI :=
 zcz (k:=2) L zdE fun f cdv A outer s H E hr=>JSs.out (zai (JS.mk (zbV (i:=3) nd_9 rfl (by first | exact Ax rfl | exact Aw rfl) (zal h_q_law_signs (hr.mono (by decide)) rfl (zaa (zab 0) (zaa (zaD za3 (zag) (zal h_q_law_next (hr.mono (by decide)) rfl (zaa (zab 0) (zaa (zab 1) (zaf))) (zay.cons (zay.cons zay.nil)))) (zaf))) (zay.cons (zay.cons zay.nil))))) (zai (JS.mk (zbV (i:=4) nd_9 rfl (by first | exact Ax rfl | exact Aw rfl) (zaD za3 (zag) (zal h_q_law_next (hr.mono (by decide)) rfl (zaa (zab 0) (zaa (zab 2) (zaf))) (zay.cons (zay.cons zay.nil)))))) (zai (JS.mk (zbV (i:=5) nd_9 rfl (by first | exact Ax rfl | exact Aw rfl) (zcl (zaf)))) (zai (zfL Bz rfl (zdi rfl b_range (zab 4)) (zbd (i:=6) nd_9 rfl (by first | exact Ax rfl | exact Aw rfl)) (zar (JS.mk (zii (zhv (zab 5) (zaa (zbO zcM rfl b_tuple zbK (zaa (zcj rfl rfl (zbY (N':=["_law_sign","_law_state","_law_letters","_law_many"]) (nt:=1) (fr:=[0,3,4]) ["_law_state","_law_letters","_law_many"] rfl (by decide +kernel) (by decide +kernel) (by decide +kernel) rfl ⟨⟨rfl,by decide⟩,⟨⟨rfl,by decide⟩,⟨⟨rfl,by decide⟩,trivial⟩⟩⟩ ⟨by first | exact Ax rfl | exact Aw rfl,⟨by first | exact Ax rfl | exact Aw rfl,⟨by first | exact Ax rfl | exact Aw rfl,trivial⟩⟩⟩) (zbW (zab 3)) (fun C s0 H0 fp=>zbd (i:=0) znE rfl (by first | exact Ax rfl | exact Aw rfl)) (fun C s0 H0 fp=>zeN) (fun C s0 H0 fp=>zaN (zaa (zal h_q_law_next (hr.mono (by decide)) rfl (zaa (zab 1) (zaa (zaq zau rfl b_len zbL (zaa (zab 2) (zaf))) (zaf))) (zay.cons (zay.cons zay.nil))) (zaa (zal h_q_law_next (hr.mono (by decide)) rfl (zaa (zab 1) (zaa (zab 3) (zaf))) (zay.cons (zay.cons zay.nil))) (zaf))))) (zaf))) (zaf))))))) (zar (JS.mk (za1 (zaN (zaa (zab 3) (zaa (zbO zcM rfl b_tuple zbK (zaa (zab 5) (zaf))) (zaf)))))))))))
theorem zdo:FnScope ["_law_thing","_law_many","_law_one","_law_most"] ["_law_thing","_law_many"] (zan (top 14)):=⟨rfl,rfl,rfl,by decide +kernel,rfl,by decide +kernel,by decide +kernel⟩
theorem zdr(L:Laid K mg "_law_numbers" (top 14) ["_law_thing","_law_many"])(b_isinstance:mg "isinstance"=none)(b_tuple:mg "tuple"=none)(b_len:mg "len"=none)(b_zip:mg "zip"=none)(b_int:mg "int"=none)(b_bool:mg "bool"=none):zb9 P w K mg base 1 "_law_numbers" 2 zbq :=
 zcz (k:=0) L zdo fun f cdv A outer s H E hr=>JSs.out (zai (zea (SW.sb (zd7 (zci (zd8 (zcb (T:="tuple") (x:="isinstance") (by decide) rfl b_isinstance (zab 0) rfl b_tuple zbK))) (zcV (zbx (zel (zbe hr)) (zaq zau rfl b_len zbL (zaa (zab 0) (zaf))) (zaq zau rfl b_len zbL (zaa (zab 1) (zaf))) rfl)))) (zar (JS.mk (za1 (zdD)))) (zbk)) (zai (zfL Bz rfl (zlQ rfl b_zip (zab 0) (zab 1)) (ziZ rfl (zcC (zbd (i:=2) zm2 rfl (by first | exact Ax rfl | exact Aw rfl)) (zcC (zbd (i:=3) zm2 rfl (by first | exact Ax rfl | exact Aw rfl)) (zf9)))) (zar (zea (SW.sb (zd7 (zci (zd8 (zcb (T:="int") (x:="isinstance") (by decide) rfl b_isinstance (zab 2) rfl b_int zjW))) (zd7 (zd8 (zcb (T:="bool") (x:="isinstance") (by decide) rfl b_isinstance (zab 2) rfl b_bool zg3)) (zd7 (zbx zms (zab 2) (zag) rfl) (zcV (zbx zk2 (zab 2) (zab 3) rfl)))))) (zar (JS.mk (za1 (zdD)))) (zbk)))) (zar (JS.mk (za1 (zdD))))))
theorem zcE:FnScope ["_law_thing","_law_letters","_law_table","_law_signs_here","_law_entries"] ["_law_thing"] (zan (top 15)):=⟨rfl,rfl,rfl,by decide +kernel,rfl,by decide +kernel,by decide +kernel⟩
theorem zcH(L:Laid K mg "_law_is_walker" (top 15) ["_law_thing"])(b_isinstance:mg "isinstance"=none)(b_tuple:mg "tuple"=none)(b_len:mg "len"=none)(b_str:mg "str"=none)(b_all:mg "all"=none)(h_q_law_numbers:zb9 P w K mg base 1 "_law_numbers" 2 zbq):zb9 P w K mg base 2 "_law_is_walker" 1 zba :=
 zcz (k:=1) L zcE fun f cdv A outer s H E hr=>JSs.out (zai (zea (SW.sb (zd7 (zci (zd8 (zcb (T:="tuple") (x:="isinstance") (by decide) rfl b_isinstance (zab 0) rfl b_tuple zbK))) (zd7 (zbx (zel (zbe hr)) (zaq zau rfl b_len zbL (zaa (zab 0) (zaf))) (zag) rfl) (zcV (zci (zd8 (zcb (T:="str") (x:="isinstance") (by decide) rfl b_isinstance (za2 (zch hr) (zab 0) (zag)) rfl b_str zic))))))) (zar (JS.mk (za1 (zdD)))) (zbk)) (zai (JS.mk (zko (zab 0) (ziZ rfl (zcC (zbd (i:=1) zlx rfl (by first | exact Ax rfl | exact Aw rfl)) (zcC (zbd (i:=2) zlx rfl (by first | exact Ax rfl | exact Aw rfl)) (zf9)))))) (zai (JS.mk (zbV (i:=3) zlx rfl (by first | exact Ax rfl | exact Aw rfl) (zcu))) (zai (zea (SW.sb (zd7 (zbx (zdF (zbe hr)) (zaq zau rfl b_len zbL (zaa (zab 1) (zaf))) (zag) rfl) (zd7 (zbx zjl (zaq zau rfl b_len zbL (zaa (zab 1) (zaf))) (zag) rfl) (zcV (zbx (zel (zbe hr)) (zcj rfl rfl (zbY (N':=["_law_sign","_law_letters"]) (nt:=1) (fr:=[1]) ["_law_letters"] rfl (by decide +kernel) (by decide +kernel) (by decide +kernel) rfl ⟨⟨rfl,by decide⟩,trivial⟩ ⟨by first | exact Ax rfl | exact Aw rfl,trivial⟩) (zbW (zab 1)) (fun C s0 H0 fp=>zbd (i:=0) znD rfl (by first | exact Ax rfl | exact Aw rfl)) (fun C s0 H0 fp=>zi5 (zbx zjl (zkB PySem.F.slot_str_count PySem.F.type_str_count zhJ (zab 1) (zaa (zab 0) (zaf))) (zag) rfl)) (fun C s0 H0 fp=>zab 0)) (zcl (zaf)) rfl))))) (zar (JS.mk (za1 (zdD)))) (zbk)) (zai (zea (SW.sb (zd7 (zbx (zel (zbe hr)) (zcj rfl rfl (zbY (N':=["_law_sign","_law_signs_here"]) (nt:=1) (fr:=[3]) ["_law_signs_here"] rfl (by decide +kernel) (by decide +kernel) (by decide +kernel) rfl ⟨⟨rfl,by decide⟩,trivial⟩ ⟨by first | exact Ax rfl | exact Aw rfl,trivial⟩) (zbW (zab 1)) (fun C s0 H0 fp=>zbd (i:=0) znC rfl (by first | exact Ax rfl | exact Aw rfl)) (fun C s0 H0 fp=>zi5 (zhx (zbe hr) (zab 0) (zab 1))) (fun C s0 H0 fp=>zab 0)) (zcl (zaf)) rfl) (zcV (zci (zd8 (zcb (T:="tuple") (x:="isinstance") (by decide) rfl b_isinstance (zab 2) rfl b_tuple zbK)))))) (zar (JS.mk (za1 (zdD)))) (zbk)) (zai (zea (SW.sb (zd7 (zbx (zdF (zbe hr)) (zaq zau rfl b_len zbL (zaa (zab 2) (zaf))) (zag) rfl) (zcV (zbx zjl (zaq zau rfl b_len zbL (zaa (zab 2) (zaf))) (zag) rfl)))) (zar (JS.mk (za1 (zdD)))) (zbk)) (zai (zfL Bz rfl (zbW (zab 2)) (zbd (i:=4) zlx rfl (by first | exact Ax rfl | exact Aw rfl)) (zai (zea (SW.sb (zd7 (zci (zd8 (zcb (T:="tuple") (x:="isinstance") (by decide) rfl b_isinstance (zab 4) rfl b_tuple zbK))) (zcV (zbx (zel (zbe hr)) (zaq zau rfl b_len zbL (zaa (zab 4) (zaf))) (zaq zau rfl b_len zbL (zaa (zab 1) (zaf))) rfl)))) (zar (JS.mk (za1 (zdD)))) (zbk)) (zar (zea (zci (zd8 (zaq (zcA rfl) rfl b_all zg4 (zaa (zcj rfl rfl (zbY (N':=["_law_entry","_law_letters","_law_table"]) (nt:=1) (fr:=[1,2]) ["_law_letters","_law_table"] rfl (by decide +kernel) (by decide +kernel) (by decide +kernel) rfl ⟨⟨rfl,by decide⟩,⟨⟨rfl,by decide⟩,trivial⟩⟩ ⟨by first | exact Ax rfl | exact Aw rfl,⟨by first | exact Ax rfl | exact Aw rfl,trivial⟩⟩) (zbW (zab 4)) (fun C s0 H0 fp=>zbd (i:=0) znB rfl (by first | exact Ax rfl | exact Aw rfl)) (fun C s0 H0 fp=>zeN) (fun C s0 H0 fp=>zal h_q_law_numbers (hr.mono (by decide)) rfl (zaa (zab 0) (zaa (zaN (zaa (zaq zau rfl b_len zbL (zaa (zab 1) (zaf))) (zaa (zaq zau rfl b_len zbL (zaa (zab 2) (zaf))) (zaf)))) (zaf))) (zay.cons (zay.cons zay.nil)))) (zaf))))) (zar (JS.mk (za1 (zdD)))) (zbk))))) (zar (JS.mk (za1 (zdD)))))))))))
theorem zeM:FnScope ["_law_state","_law_thing","_law_sign","_law_at","_law_some"] ["_law_state","_law_thing"] (zan (top 16)):=⟨rfl,rfl,rfl,by decide +kernel,rfl,by decide +kernel,by decide +kernel⟩
theorem zeR(L:Laid K mg "_law_odd" (top 16) ["_law_state","_law_thing"])(b_isinstance:mg "isinstance"=none)(b_tuple:mg "tuple"=none)(b_list:mg "list"=none)(b_str:mg "str"=none)(b_len:mg "len"=none)(b_int:mg "int"=none)(h_q_law_next:zb9 P w K mg base 1 "_law_next" 2 zae):zb9 P w K mg base 2 "_law_odd" 2 zbn :=
 zcz (k:=1) L zeM fun f cdv A outer s H E hr=>JSs.out (zai (zea (SW.sb (zhn (zd8 (zcb (T:="tuple") (x:="isinstance") (by decide) rfl b_isinstance (zab 1) rfl b_tuple zbK)) (ze5 (zbx (zdF (zbe hr)) (zal h_q_law_next (hr.mono (by decide)) rfl (zaa (zab 0) (zaa (zag) (zaf))) (zay.cons (zay.cons zay.nil))) (zag) rfl)))) (zar (JS.mk (za1 (za2 (zch hr) (zcl (JA.out (zao (zbO (zew rfl) rfl b_list zg2 (zaa (zab 1) (zaf))) (zao (zbp (zab 1) (zb6) (zb5 (zhu (zag)))) (zao (zaD za3 (zab 1) (zbp (zab 1) (zb6) (zb5 (zag)))) (zao (zaD za3 (zab 1) (zaN (zaa (zag) (zaf)))) (zao (zaN (zaf)) (zao (zkx (zab 1) (zhu (zag))) (zfM))))))))) (zal h_q_law_next (hr.mono (by decide)) rfl (zaa (zab 0) (zaa (zag) (zaf))) (zay.cons (zay.cons zay.nil))))))) (zbk)) (zai (zea (SW.sb (zhn (zd8 (zcb (T:="str") (x:="isinstance") (by decide) rfl b_isinstance (zab 1) rfl b_str zic)) (ze5 (zbx (zdF (zbe hr)) (zal h_q_law_next (hr.mono (by decide)) rfl (zaa (zab 0) (zaa (zag) (zaf))) (zay.cons (zay.cons zay.nil))) (zag) rfl)))) (zai (JS.mk (zbV (i:=2) zmA rfl (by first | exact Ax rfl | exact Aw rfl) (za2 (zch hr) (zcu) (zal h_q_law_next (hr.mono (by decide)) rfl (zaa (zab 0) (zaa (zag) (zaf))) (zay.cons (zay.cons zay.nil)))))) (zai (JS.mk (zbV (i:=3) zmA rfl (by first | exact Ax rfl | exact Aw rfl) (zal h_q_law_next (hr.mono (by decide)) rfl (zaa (zab 0) (zaa (zaD za3 (zaq zau rfl b_len zbL (zaa (zab 1) (zaf))) (zag)) (zaf))) (zay.cons (zay.cons zay.nil))))) (zai (JS.mk (zbV (i:=4) zmA rfl (by first | exact Ax rfl | exact Aw rfl) (zcl (JA.out (zao (zaD za3 (zaD zfe (zbp (zab 1) (zb6) (zb5 (zab 3))) (zab 2)) (zbp (zab 1) (zb5 (zab 3)) (zb6))) (zao (zaD za3 (zaD zfe (zbp (zab 1) (zb6) (zb5 (zab 3))) (zab 2)) (zbp (zab 1) (zb5 (zaD za3 (zab 3) (zag))) (zb6))) (zao (zaD za3 (zab 1) (zbp (zab 1) (zb6) (zb5 (zag)))) (zao (zbp (zab 1) (zb5 (zag)) (zb6)) (zfM))))))))) (zar (JS.mk (za1 (za2 (zch hr) (zaD za3 (zab 4) (zcl (zaa (zbO (zew rfl) rfl b_list zg2 (zaa (zab 1) (zaf))) (zaa (zbO (zfP rfl) rfl b_tuple zbK (zaa (zab 1) (zaf))) (zaf))))) (zal h_q_law_next (hr.mono (by decide)) rfl (zaa (zab 0) (zaa (zag) (zaf))) (zay.cons (zay.cons zay.nil)))))))))) (zbk)) (zai (zea (SW.sb (zhn (zd8 (zcb (T:="int") (x:="isinstance") (by decide) rfl b_isinstance (zab 1) rfl b_int zjW)) (ze5 (zbx (zdF (zbe hr)) (zal h_q_law_next (hr.mono (by decide)) rfl (zaa (zab 0) (zaa (zag) (zaf))) (zay.cons (zay.cons zay.nil))) (zag) rfl)))) (zar (JS.mk (za1 (za2 (zch hr) (zcl (JA.out (zao (zaD za3 (zab 1) (zag)) (zao (zaD zfc (zab 1) (zag)) (zao (zhu (zag)) (zao (zdD) (zao (zdD) (zao (zbO zh9 rfl b_str zic (zaa (zab 1) (zaf))) (zao (zaD ziq (zag) (zag)) (zfM)))))))))) (zal h_q_law_next (hr.mono (by decide)) rfl (zaa (zab 0) (zaa (zag) (zaf))) (zay.cons (zay.cons zay.nil))))))) (zbk)) (zar (JS.mk (za1 (za2 (zch hr) (zcl (JA.out (zao (zkA) (zao (zdD) (zao (zag) (zao (zhu (zag)) (zao (zag) (zao (zag) (zao (zcu) (zao (zcu) (zao (zaN (zaf)) (zao (zcl (zaf)) (zao (zi3) (zao (zaN (zaa (zag) (zaa (zag) (zaf)))) (zao (zaN (zaa (zaN (zaa (zag) (zaa (zag) (zaf)))) (zaf))) (zfM)))))))))))))))) (zal h_q_law_next (hr.mono (by decide)) rfl (zaa (zab 0) (zaa (zag) (zaf))) (zay.cons (zay.cons zay.nil))))))))))
theorem zcD:FnScope ["_law_state","_law_thing","_law_at"] ["_law_state","_law_thing"] (zan (top 17)):=⟨rfl,rfl,rfl,by decide +kernel,rfl,by decide +kernel,by decide +kernel⟩
theorem zcG(L:Laid K mg "_law_otherwise" (top 17) ["_law_state","_law_thing"])(b_isinstance:mg "isinstance"=none)(b_tuple:mg "tuple"=none)(b_len:mg "len"=none)(h_q_law_next:zb9 P w K mg base 1 "_law_next" 2 zae)(h_q_law_odd:zb9 P w K mg base 2 "_law_odd" 2 zbn):zb9 P w K mg base 14 "_law_otherwise" 2 za9 :=
 ziB (j:=2) L zcD (fun i g hself f cdv A outer s H E hr=>JSs.out (zai (zea (SW.sb (zd7 (zci (zd8 (zcb (T:="tuple") (x:="isinstance") (by decide) rfl b_isinstance (zab 1) rfl b_tuple zbK))) (zd7 (zbx (zdF (zbe hr)) (zab 1) (zaN (zaf)) rfl) (zcV (zbx (zdF (zbe hr)) (zal h_q_law_next (hr.mono (by omega)) rfl (zaa (zab 0) (zaa (zag) (zaf))) (zay.cons (zay.cons zay.nil))) (zag) rfl))))) (zar (JS.mk (za1 (zal h_q_law_odd (hr.mono (by omega)) rfl (zaa (zab 0) (zaa (zab 1) (zaf))) (zay.cons (zay.cons zay.nil)))))) (zbk)) (zai (JS.mk (zbV (i:=2) znA rfl (by first | exact Ax rfl | exact Aw rfl) (zal h_q_law_next (hr.mono (by omega)) rfl (zaa (zab 0) (zaa (zaq zau rfl b_len zbL (zaa (zab 1) (zaf))) (zaf))) (zay.cons (zay.cons zay.nil))))) (zar (JS.mk (za1 (zaD za3 (zaD zfe (zbp (zab 1) (zb6) (zb5 (zab 2))) (zaN (zaa (zal hself hr rfl (zaa (zab 0) (zaa (za2 (zch hr) (zab 1) (zab 2)) (zaf))) (zay.cons (zay.cons zay.nil))) (zaf)))) (zbp (zab 1) (zb5 (zaD za3 (zab 2) (zag))) (zb6))))))))) 12
theorem zlX:FnScope ["_law_script","_law_state","_law_turn","_law_walker_here","_law_k","_law_thing","_law_found","_law_longer","_law_two","_law_some"] ["_law_script"] (zan (top 18)):=⟨rfl,rfl,rfl,by decide +kernel,rfl,by decide +kernel,by decide +kernel⟩
theorem zmQ{f:Addr}{fd:FuncData}(F:Fun K "law" "law" (top 18) f fd)(b_range:mg "range"=none)(b_isinstance:mg "isinstance"=none)(b_bool:mg "bool"=none)(b_len:mg "len"=none)(b_all:mg "all"=none)(h_q_law_start:zb9 P w K mg base 1 "_law_start" 1 zbQ)(h_q_law_walker:zb9 P w K mg base 3 "_law_walker" 3 zbI)(h_q_law_otherwise:zb9 P w K mg base 14 "_law_otherwise" 2 za9)(h_is_walker:zb9 P w K mg base 4 "is_walker" 1 zbo)(h_q_law_is_walker:zb9 P w K mg base 2 "_law_is_walker" 1 zba):FnOk P w K mg base CX0 15 f fd ["_law_script"] (spM K 1 zj4) :=
 fn_m (k:=14) F zlX fun cdv A outer s H E hr=>JSs.out (zai (JS.mk (zbV (i:=1) zhd rfl (by first | exact Ax rfl | exact Aw rfl) (zal h_q_law_start (hr.mono (by decide)) rfl (zaa (zab 0) (zaf)) (zay.cons zay.nil)))) (zai (zfL Bz rfl (zdi rfl b_range (zag)) (zbd (i:=2) zhd rfl (by first | exact Ax rfl | exact Aw rfl)) (zai (JS.mk (zbV (i:=3) zhd rfl (by first | exact Ax rfl | exact Aw rfl) (zal h_q_law_walker (hr.mono (by decide)) rfl (zaa (zab 1) (zaa (zag) (zaa (zag) (zaf)))) (zay.cons (zay.cons (zay.cons zay.nil)))))) (zai (zfL Bz rfl (zdi rfl b_range (zag)) (zbd (i:=4) zhd rfl (by first | exact Ax rfl | exact Aw rfl)) (zai (JS.mk (zbV (i:=5) zhd rfl (by first | exact Ax rfl | exact Aw rfl) (zal h_q_law_otherwise (hr.mono (by decide)) rfl (zaa (zab 1) (zaa (zab 3) (zaf))) (zay.cons (zay.cons zay.nil))))) (zai (JS.mk (zbV (i:=6) zhd rfl (by first | exact Ax rfl | exact Aw rfl) (zal h_is_walker (hr.mono (by decide)) rfl (zaa (zab 5) (zaf)) (zay.cons zay.nil)))) (zar (zea (SW.sb (zd7 (zci (zd8 (zcb (T:="bool") (x:="isinstance") (by decide) rfl b_isinstance (zab 6) rfl b_bool zg3))) (zd7 (zbx (zel (zbe hr)) (zab 6) (zal h_q_law_is_walker (hr.mono (by decide)) rfl (zaa (zab 5) (zaf)) (zay.cons zay.nil)) rfl) (zcV (zbx zji (zal h_is_walker (hr.mono (by decide)) rfl (zaa (zab 3) (zaf)) (zay.cons zay.nil)) (zdD) rfl))))) (zar (JS.mk (za1 (zdD)))) (zbk)))))) (zai (JS.mk (zbV (i:=7) zhd rfl (by first | exact Ax rfl | exact Aw rfl) (zaN (zaa (za2 (zch hr) (zab 3) (zag)) (zaa (zaD zfe (za2 (zch hr) (zab 3) (zag)) (zaD zgo (zaN (zaa (za2 (zch hr) (za2 (zch hr) (zab 3) (zag)) (zag)) (zaf))) (zaD zfc (zag) (zaq zau rfl b_len zbL (zaa (za2 (zch hr) (zab 3) (zag)) (zaf)))))) (zaf)))))) (zai (JS.mk (zbV (i:=8) zhd rfl (by first | exact Ax rfl | exact Aw rfl) (zaN (zaa (zaN (zaa (zag) (zaa (zag) (zaf)))) (zaa (zaN (zaa (zag) (zaa (zag) (zaf)))) (zaf)))))) (zai (JS.mk (zbV (i:=9) zhd rfl (by first | exact Ax rfl | exact Aw rfl) (zcl (JA.out (zao (zab 7) (zao (zaN (zaa (zcu) (zaa (zaN (zaa (zaD zgo (zaN (zaa (zaN (zaa (zag) (zaa (zag) (zaf)))) (zaf))) (zag)) (zaf))) (zaf)))) (zao (zaN (zaa (zcu) (zaa (zaD zgo (zaN (zaa (zab 8) (zaf))) (zag)) (zaf)))) (zao (zaN (zaa (zcu) (zaa (zaN (zaa (zab 8) (zaf))) (zaf)))) (zao (zaN (zaa (zcu) (zaa (zab 8) (zaf)))) (zfM)))))))))) (zai (JS.mk (zbV (i:=9) zhd rfl (by first | exact Ax rfl | exact Aw rfl) (zaD za3 (zab 9) (zcl (JA.out (zao (zaN (zaa (zab 3) (zaf))) (zao (zaD za3 (zab 3) (zaN (zaa (zaN (zaf)) (zaf)))) (zao (zaN (zaa (za2 (zch hr) (zab 3) (zag)) (zaa (za2 (zch hr) (zab 3) (zag)) (zaf)))) (zao (zaN (zaa (zcu) (zaa (zaN (zaa (zaN (zaf)) (zaf))) (zaf)))) (zao (zaN (zaa (zcu) (zaa (zaN (zaf)) (zaf)))) (zao (zkA) (zao (zcu) (zao (zag) (zao (zcl (zaf)) (zao (zaN (zaf)) (zfM)))))))))))))))) (zar (zea (zci (zd8 (zaq (zcA rfl) rfl b_all zg4 (zaa (zcj rfl rfl (zbY (N':=["_law_thing"]) (nt:=1) (fr:=[]) [] rfl (by decide +kernel) (by decide +kernel) (by decide +kernel) rfl trivial trivial) (zbW (zab 9)) (fun C s0 H0 fp=>zbd (i:=0) znz rfl (by first | exact Ax rfl | exact Aw rfl)) (fun C s0 H0 fp=>zeN) (fun C s0 H0 fp=>zgb zir (zal h_is_walker (hr.mono (by decide)) rfl (zaa (zab 0) (zaf)) (zay.cons zay.nil)) (zdD) rfl)) (zaf))))) (zar (JS.mk (za1 (zdD)))) (zbk)))))))))) (zar (JS.mk (za1 (zgb zir (zal h_is_walker (hr.mono (by decide)) rfl (zaa (zaN (zaa (zcu) (zaa (zaN (zaa (zaN (zaa (zaN (zaa (zag) (zaa (zag) (zaf)))) (zaf))) (zaf))) (zaf)))) (zaf)) (zay.cons zay.nil)) (zdD) rfl))))))
end
theorem zmW{P:Program}{w:World}{K:Ab}{mg:Str->Option Value}{base:Heap}{f:Addr}{fd:FuncData}(b_isinstance:mg "isinstance"=none)(b_int:mg "int"=none)(b_bool:mg "bool"=none)(b_tuple:mg "tuple"=none)(b_len:mg "len"=none)(b_str:mg "str"=none)(b_all:mg "all"=none)(b_set:mg "set"=none)(b_enumerate:mg "enumerate"=none)(b_abs:mg "abs"=none)(b_list:mg "list"=none)(b_range:mg "range"=none)(b_zip:mg "zip"=none){t_FACE_SIGNS:Tok}(g_FACE_SIGNS:mg "FACE_SIGNS"=some (.str "abcdefghijklmnopqrstuvwxyz0123456789" t_FACE_SIGNS))(L_is_whole:Laid K mg "is_whole" (top 2) ["thing","least","most"])(L_is_tuple:Laid K mg "is_tuple" (top 3) ["thing","size"])(L_are_letters:Laid K mg "are_letters" (top 5) ["thing"])(L_is_step:Laid K mg "is_step" (top 6) ["thing","letters","states"])(L_is_state:Laid K mg "is_state" (top 7) ["thing","letters","states"])(L_is_walker:Laid K mg "is_walker" (top 8) ["thing"])(L_q_law_start:Laid K mg "_law_start" (top 10) ["_law_script"])(L_q_law_next:Laid K mg "_law_next" (top 11) ["_law_state","_law_many"])(L_q_law_signs:Laid K mg "_law_signs" (top 12) ["_law_state","_law_many"])(L_q_law_walker:Laid K mg "_law_walker" (top 13) ["_law_state","_law_signs_here","_law_states"])(L_q_law_numbers:Laid K mg "_law_numbers" (top 14) ["_law_thing","_law_many"])(L_q_law_is_walker:Laid K mg "_law_is_walker" (top 15) ["_law_thing"])(L_q_law_odd:Laid K mg "_law_odd" (top 16) ["_law_state","_law_thing"])(L_q_law_otherwise:Laid K mg "_law_otherwise" (top 17) ["_law_state","_law_thing"])(F:Fun K "law" "law" (top 18) f fd):FnOk P w K mg base CX0 15 f fd ["_law_script"] (spM K 1 zj4):=by
 have h_is_whole:=zfD (P:=P) (w:=w) (base:=base) L_is_whole  b_isinstance b_int b_bool;have h_is_tuple:=zfE (P:=P) (w:=w) (base:=base) L_is_tuple  b_isinstance b_tuple b_len;have h_are_letters:=zd0 (P:=P) (w:=w) (base:=base) L_are_letters  b_isinstance b_str b_len b_all b_set g_FACE_SIGNS;have h_is_step:=zgs (P:=P) (w:=w) (base:=base) L_is_step    h_is_tuple h_is_whole;have h_is_state:=zfF (P:=P) (w:=w) (base:=base) L_is_state  b_all  h_is_tuple h_is_step;have h_is_walker:=zeS (P:=P) (w:=w) (base:=base) L_is_walker  b_isinstance b_tuple b_len b_all  h_is_tuple h_are_letters h_is_state;have h_q_law_start:=zdY (P:=P) (w:=w) (base:=base) L_q_law_start  b_enumerate b_abs;have h_q_law_next:=zep (P:=P) (w:=w) (base:=base) L_q_law_next;have h_q_law_signs:=zdZ (P:=P) (w:=w) (base:=base) L_q_law_signs  b_list b_range b_len  h_q_law_next;have h_q_law_walker:=zdG (P:=P) (w:=w) (base:=base) L_q_law_walker  b_range b_len b_tuple  h_q_law_next h_q_law_signs;have h_q_law_numbers:=zdr (P:=P) (w:=w) (base:=base) L_q_law_numbers  b_isinstance b_tuple b_len b_zip b_int b_bool;have h_q_law_is_walker:=zcH (P:=P) (w:=w) (base:=base) L_q_law_is_walker  b_isinstance b_tuple b_len b_str b_all  h_q_law_numbers;have h_q_law_odd:=zeR (P:=P) (w:=w) (base:=base) L_q_law_odd  b_isinstance b_tuple b_list b_str b_len b_int  h_q_law_next;have h_q_law_otherwise:=zcG (P:=P) (w:=w) (base:=base) L_q_law_otherwise  b_isinstance b_tuple b_len  h_q_law_next h_q_law_odd;exact zmQ F b_range b_isinstance b_bool b_len b_all h_q_law_start h_q_law_walker h_q_law_otherwise h_is_walker h_q_law_is_walker
theorem all_mk{l:Dk}{w:World}{K:Ab}{h:Heap}{mg:Str->Option Value}{fa:Addr}(X:K.In h)(G:h.Ns mainGlobals mg)(hfa:mg "law"=some (.ref fa)){f0 f1 f2 f3 f4 f5 f6 f7 f8 f9 f10 f11 f12 f13 f14:Addr}
   (a0:FdIn K "is_whole" (top 2) f0)
   (a1:FdIn K "is_tuple" (top 3) f1)
   (a2:FdIn K "are_letters" (top 5) f2)
   (a3:FdIn K "is_step" (top 6) f3)
   (a4:FdIn K "is_state" (top 7) f4)
   (a5:FdIn K "is_walker" (top 8) f5)
   (a6:FdIn K "_law_start" (top 10) f6)
   (a7:FdIn K "_law_next" (top 11) f7)
   (a8:FdIn K "_law_signs" (top 12) f8)
   (a9:FdIn K "_law_walker" (top 13) f9)
   (a10:FdIn K "_law_numbers" (top 14) f10)
   (a11:FdIn K "_law_is_walker" (top 15) f11)
   (a12:FdIn K "_law_odd" (top 16) f12)
   (a13:FdIn K "_law_otherwise" (top 17) f13)
   (a14:FdIn K "law" (top 18) f14)
   (z0:AX K mainGlobals "isinstance"=some none)
   (z1:AX K mainGlobals "int"=some none)
   (z2:AX K mainGlobals "bool"=some none)
   (z3:AX K mainGlobals "tuple"=some none)
   (z4:AX K mainGlobals "len"=some none)
   (z5:AX K mainGlobals "str"=some none)
   (z6:AX K mainGlobals "all"=some none)
   (z7:AX K mainGlobals "set"=some none)
   (z8:AX K mainGlobals "enumerate"=some none)
   (z9:AX K mainGlobals "abs"=some none)
   (z10:AX K mainGlobals "list"=some none)
   (z11:AX K mainGlobals "range"=some none)
   (z12:AX K mainGlobals "zip"=some none)
   {tg0:Tok} (y0:AX K mainGlobals "FACE_SIGNS"=some (some (.str "abcdefghijklmnopqrstuvwxyz0123456789" tg0))) :
   ∃ fd:FuncData,(∀ (s:Shared) (v:Value),BindsTo s fd ⟨[v],[]⟩ [("_law_script",v)])/\∀ base:Heap,K.In base->base.Ns mainGlobals mg->FnOk l.prog w K mg base CX0 15 fa fd ["_law_script"] (spM K 1 zj4):=by
 obtain⟨⟨oc,od,kV,dc,pm,an,cd,ct,sl,l,c⟩,n,k⟩:=a14;have e:=hfa.symm.trans (DI X G n);cases e;exact⟨_,fun s v=>.of_eq rfl,fun base _ _=>zmW (AL X G z0) (AL X G z1) (AL X G z2) (AL X G z3) (AL X G z4) (AL X G z5) (AL X G z6) (AL X G z7) (AL X G z8) (AL X G z9) (AL X G z10) (AL X G z11) (AL X G z12) (DI X G y0)
   (zbP (ps:=["thing","least","most"]) a0 X G fun _ _ _ _ _ _=>len3 fun _ _ _=>rfl)
   (zbP (ps:=["thing","size"]) a1 X G fun _ _ _ _ _ _=>len2 fun _ _=>rfl)
   (zbP (ps:=["thing"]) a2 X G fun _ _ _ _ _ _=>len1 fun _=>rfl)
   (zbP (ps:=["thing","letters","states"]) a3 X G fun _ _ _ _ _ _=>len3 fun _ _ _=>rfl)
   (zbP (ps:=["thing","letters","states"]) a4 X G fun _ _ _ _ _ _=>len3 fun _ _ _=>rfl)
   (zbP (ps:=["thing"]) a5 X G fun _ _ _ _ _ _=>len1 fun _=>rfl)
   (zbP (ps:=["_law_script"]) a6 X G fun _ _ _ _ _ _=>len1 fun _=>rfl)
   (zbP (ps:=["_law_state","_law_many"]) a7 X G fun _ _ _ _ _ _=>len2 fun _ _=>rfl)
   (zbP (ps:=["_law_state","_law_many"]) a8 X G fun _ _ _ _ _ _=>len2 fun _ _=>rfl)
   (zbP (ps:=["_law_state","_law_signs_here","_law_states"]) a9 X G fun _ _ _ _ _ _=>len3 fun _ _ _=>rfl)
   (zbP (ps:=["_law_thing","_law_many"]) a10 X G fun _ _ _ _ _ _=>len2 fun _ _=>rfl)
   (zbP (ps:=["_law_thing"]) a11 X G fun _ _ _ _ _ _=>len1 fun _=>rfl)
   (zbP (ps:=["_law_state","_law_thing"]) a12 X G fun _ _ _ _ _ _=>len2 fun _ _=>rfl)
   (zbP (ps:=["_law_state","_law_thing"]) a13 X G fun _ _ _ _ _ _=>len2 fun _ _=>rfl)
   (zjH (st:=top 18) l c k)⟩
end L2.MP.stickytiles_k44_what_is_a_walker
namespace L2.MP.stickytiles_k44_what_is_a_walker
open PySem L2.MP L2.MP.Hb
structure RowOk(k m:Nat)(r:List (Nat×Nat)):Prop where
 len:r.length=k
 mem:∀ p∈r,p.1 < k/\p.2 < m
theorem zl0{n q:Nat}{st:Sto}{z:Str}{m:Nat}(h:PotB n q st)(hz1:1<=z.cps.toList.length)(hz2:z.cps.toList.length<=1000)(hm1:1<=m)(hm2:m<=1000) :
   ∃ (r:List (Nat×Nat)) (st':Sto),mCI ⟨signs z,[]⟩ (gNm 0) zd9 zaY (signs z) [none,some (.ref n),some (.str z),some (.int (m:Int))] st=some (r.map pD,st')/\RowOk z.cps.toList.length m r/\PotB n q st'/\FrB n q st st':=by
 have key:=zlo (W:=⟨signs z,[]⟩) (g:=gNm 0) (c:=zd9) (m:=zaY) (ds:=signs z) (acc:=[]) (st:=st) (ρ:=[none,some (.ref n),some (.str z),some (.int (m:Int))])
   (Inv:=fun k a ρ s=>(∃ x,ρ=[x,some (.ref n),some (.str z),some (.int (m:Int))])/\(∃ r:List (Nat×Nat),a=r.map pD/\r.length=k/\∀ p∈r,p.1 < z.cps.toList.length/\p.2 < m)/\PotB n q s/\FrB n q st s)
   ⟨⟨_,rfl⟩,⟨[],rfl,rfl,by simp⟩,h,FrB.refl _ _ _⟩ (fun _ _ _ _ _ _=>rfl) (fun k d a ρ s hd hI=>by
     obtain⟨⟨x,rfl⟩,⟨r,rfl,hlen,hmem⟩,hp,hf⟩:=hI;have hfz:fits z.length=true:=zat (by rw[len_list];omega);have el:lenD [.str z] s=some (.int z.length,s):=by simp[lenD,hfz]
     obtain⟨r1,s1,e1,r10,r11,p1,f1⟩:=zck (many:=(z.length:Int)) hp (by rw[len_list];omega) (by rw[len_list];omega);obtain⟨r2,s2,e2,r20,r21,p2,f2⟩:=zck (many:=(m:Int)) p1 (by omega) (by omega);rw[len_list] at r11;refine⟨[some d,some (.ref n),some (.str z),some (.int (m:Int))],s,true,s,by simp,rfl,.inl ⟨rfl,pD (r1.toNat,r2.toNat),s2,?_,⟨_,rfl⟩,⟨r++[(r1.toNat,r2.toNat)],by simp,by simp[hlen],?_⟩,p2,hf.trans (f1.trans f2)⟩⟩
     . unfold zaY;have q1:((r1.toNat:Nat):Int)=r1:=by omega
       have q2:((r2.toNat:Nat):Int)=r2:=by omega
       simp[el,e1,e2,pD,q1,q2]
     . intro p hp
       rcases List.mem_append.mp hp with hp | hp
       . exact hmem p hp
       . rw[List.mem_singleton.mp hp];exact⟨by show r1.toNat < _;omega,by show r2.toNat < _;omega⟩)
 obtain⟨xs,ρ',s',ec,_,⟨r,hx,hlen,hmem⟩,hp,hf⟩:=key;rw[B3] at hx;subst hx;refine⟨r,s',ec,⟨by rw[hlen,<-zdh];rfl,hmem⟩,hp,hf⟩
theorem zl3{m:ME}{ρ:Rho}{st:Sto}{k:Nat}(e:m ρ st=some (.int (k:Int),st))(hk:k<=1000):mR1 m ρ st=some (⟨run 0 k,[]⟩,st):=by
 have sm:small (k:Int)=true:=zdP (by omega) (by omega);rw[zcN,e,Ac];simp only[sm,if_true];rw[BO]
theorem zgP{m:ME}{g:MG}{b:MS}{ρ ρ':Rho}{st st':Sto}{k:Nat}(e:m ρ st=some (.int (k:Int),st))(hk:k<=1000)(el:zdj ⟨run 0 k,[]⟩ g b (run 0 k) ρ st=some (.nx ρ',st')):mFor (mR1 m) g b ρ st=some (.nx ρ',st'):=by
 rw[zbi,zl3 e hk];exact el
theorem zhg{n q:Nat}{st:Sto}(h:PotB n q st):∃ (z:Str) (T:Tab) (k:Nat) (st':Sto),zbI [.ref n,.int 10,.int 4] st=some (wkD z T,st')/\LetOk z k/\1<=k/\k<=10/\TabOk z T/\T.length<=4/\PotB n q st'/\FrB n q st st':=by
 obtain⟨r1,s1,e1,r10,r11,p1,f1⟩:=zck (many:=10) h (by decide) (by decide);obtain⟨z,s2,e2,hz,p2,f2⟩:=ziY (many:=1+r1) p1 (by omega) (by omega);obtain⟨r3,s3,e3,r30,r31,p3,f3⟩:=zck (many:=4) p2 (by decide) (by decide);generalize hk:(1+r1).toNat=k at hz;obtain⟨m,hm⟩:∃ m:Nat,1+r3=(m:Int):=⟨(1+r3).toNat,by omega⟩
 have hzl:=hz.len;have p4:=p3.gr (Gr.app s3 [.lst []]);have f4:=FrB.app n q s3 [.lst []];have a4:=zbh s3 (.lst []);obtain⟨hn3,hq3⟩:=p3.ne;generalize hs4:s3++[O.lst []]=s4 at p4 f4 a4;have key:=zeq (W:=⟨run 0 m,[]⟩) (g:=gNm 6) (m:=zbN) (ds:=run 0 m) (ρ:=[some (.ref n),some (.int 10),some (.int 4),some (.str z),some (.int (m:Int)),some (.ref s3.length),none]) (st:=s4)
   (Inv:=fun i ρ s=>(∃ x,ρ=[some (.ref n),some (.int 10),some (.int 4),some (.str z),some (.int (m:Int)),some (.ref s3.length),x])/\(∃ T:Tab,s[s3.length]?=some (.lst (T.map rowD))/\T.length=i/\∀ r∈T,RowOk z.cps.toList.length m r)/\i<=m/\PotB n q s/\FrB n q s3 s)
   ⟨⟨none,rfl⟩,⟨[],a4,rfl,by simp⟩,by omega,p4,f4⟩ (fun _ _ _ _ _=>rfl) (fun i d ρ s hd hI=>by
     obtain⟨⟨x,rfl⟩,⟨T,hat,hlen,hrow⟩,him,hp,hf⟩:=hI;have hi:i < m:=by
       have:=getElem?_lt hd
       rwa [zdp] at this
     obtain⟨r,s5,e5,hr,p5,f5⟩:=zl0 (z:=z) (m:=m) hp (by omega) (by omega) (by omega) (by omega);have fr:fits (r.map pD).length=true:=zat (by rw[Aq,hr.len];omega);have hat5:s5[s3.length]?=some (.lst (T.map rowD)):=(f5.old _ (getElem?_lt hat) (AM hn3) (AM hq3)).trans hat;have p6:=p5.gr (Gr.app s5 [.lst (r.map pD)]);have a6:(s5++[O.lst (r.map pD)])[s3.length]?=some (.lst (T.map rowD)):=by rw[Ah (getElem?_lt hat5)];exact hat5
     have t6:=ze3 (zbh s5 (.lst (r.map pD)));have f6:=FrB.app n q s5 [.lst (r.map pD)];generalize hs6:s5++[O.lst (r.map pD)]=s6 at p6 a6 t6 f6;have ea:=append_at (x:=rowD r) a6 (by rw[Aq,hlen];omega);have f36:FrB n q s3 s6:=hf.trans (f5.trans f6);refine⟨[some (.ref n),some (.int 10),some (.int 4),some (.str z),some (.int (m:Int)),some (.ref s3.length),some d],s,[some (.ref n),some (.int 10),some (.int 4),some (.str z),some (.int (m:Int)),some (.ref s3.length),some d],s6.set s3.length (.lst (T.map rowD++[rowD r])),by simp,?_,⟨_,rfl⟩,⟨T++[r],by rw[BM (getElem?_lt a6)];simp,by simp[hlen],?_⟩,by omega,p6.set (AM hn3) (AM hq3),?_⟩
     . unfold zbN;have ecm:zcW (mWA (mVar 3)) 1 [0,3,4] (gNm 0) (zd9) (zaY) [some (.ref n),some (.int 10),some (.int 4),some (.str z),some (.int (m:Int)),some (.ref s3.length),some d] s=some (.ref s5.length,s6):=by
         rw[zaE,zlq];simp only[zbb,Ac,Bn,Bo,zif,zb8];rw[show rho0 [some (.ref n),some (.int 10),some (.int 4),some (.str z),some (.int (m:Int)),some (.ref s3.length),some d] 1 [0,3,4]=[none,some (.ref n),some (.str z),some (.int (m:Int))] from rfl,e5];simp only[Ac,fr,if_true,hs6]
       have t6':zec [.ref s5.length] s6=some (rowD r,s6):=t6;simp[zcd,hat,ecm,t6',ea]
     . intro y hy
       rcases List.mem_append.mp hy with hy | hy
       . exact hrow y hy
       . rw[List.mem_singleton.mp hy];exact hr
     . exact⟨by rw[B0];exact f36.len,fun j hj h1 h2=>by rw[AB (by omega)];exact f36.old j hj h1 h2⟩)
 obtain⟨ρ',s7,el,⟨x,rfl⟩,⟨T,hat,hlen,hrow⟩,_,p7,f7⟩:=key;rw[zdp] at hlen;have t7:=ze3 hat;refine⟨z,T,k,s7,zb2 ?_,hz,by omega,by omega,⟨by omega,by omega,fun r hr=>⟨(hrow r hr).len,fun p hp=>⟨((hrow r hr).mem p hp).1,by rw[hlen];exact ((hrow r hr).mem p hp).2⟩⟩⟩,by omega,p7,(f1.trans f2).trans (f3.trans f7)⟩;show zb4 [some (.ref n),some (.int 10),some (.int 4),none,none,none,none] st=_;unfold zb4;refine zas (ρ1:=[some (.ref n),some (.int 10),some (.int 4),some (.str z),none,none,none]) (s1:=s2) (by simp[e1,e2]) ?_;refine zas (ρ1:=[some (.ref n),some (.int 10),some (.int 4),some (.str z),some (.int (m:Int)),none,none]) (s1:=s3) (by simp[e3,hm]) ?_;refine zas (ρ1:=[some (.ref n),some (.int 10),some (.int 4),some (.str z),some (.int (m:Int)),some (.ref s3.length),none]) (s1:=s4) (by simp[hs4]) ?_;refine zas (ρ1:=[some (.ref n),some (.int 10),some (.int 4),some (.str z),some (.int (m:Int)),some (.ref s3.length),x]) (s1:=s7) (zgP (by simp[zbb]) (by omega) el) ?_;simp[t7];rfl
inductive Fit (n q:Nat) (st:Sto):D->Prop
 | non:Fit n q st .non
 | bl (b:Bool):Fit n q st (.bl b)
 | int (i:Int):Fit n q st (.int i)
 | str (z:Str) (h:z.cps.toList.length<=100) (ok:∀ c∈z.cps.toList,c < 1114112):Fit n q st (.str z)
 | tup (ds:List D) (h:ds.length<=100) (f:∀ d∈ds,Fit n q st d):Fit n q st (.tup ds)
 | lst (k:Nat) (xs:List D) (h:st[k]?=some (.lst xs)) (h1:k≠n) (h2:k≠q):Fit n q st (.ref k)
 | dk (k:Nat) (xs:List (Key×D)) (h:st[k]?=some (.dk xs)) (h1:k≠n) (h2:k≠q):Fit n q st (.ref k)
theorem Fit.fr{n q:Nat}{st st':Sto}{d:D}(F:FrB n q st st')(h:Fit n q st d):Fit n q st' d:=by
 induction h with
 | non=>exact .non
 | bl b=>exact .bl b
 | int i=>exact .int i
 | str z h ok=>exact .str z h ok
 | tup ds h f ih=>exact .tup ds h ih
 | lst k xs h h1 h2=>exact .lst k xs ((F.old k (getElem?_lt h) h1 h2).trans h) h1 h2
 | dk k xs h h1 h2=>exact .dk k xs ((F.old k (getElem?_lt h) h1 h2).trans h) h1 h2
theorem Fit.gr{n q:Nat}{st st':Sto}{d:D}(g:Gr st st')(h:Fit n q st d):Fit n q st' d:=h.fr (FrB.of g)
theorem Fit.at{n q:Nat}{st:Sto}{ds:List D}(h:Fit n q st (.tup ds)):∀ d∈ds,Fit n q st d:=by
 cases h with
 | tup ds h f=>exact f
section
variable {n q:Nat} {st:Sto} {d:D}
theorem ziL:tyName st .non=some "NoneType":=rfl
theorem zlt{b:Bool}:tyName st (.bl b)=some "bool":=rfl
theorem zhj{k:Nat}{xs:List D}(h:st[k]?=some (.lst xs)):tyName st (.ref k)=some "list":=by unfold tyName;simp only[h]
theorem zls{k:Nat}{xs:List (Key×D)}(h:st[k]?=some (.dk xs)):tyName st (.ref k)=some "dict":=by unfold tyName;simp only[h]
noncomputable def whB(lo hi:Int):D->Bool
 | .int x=>decide (lo<=x)&&decide (x<=hi)
 | _=>false
theorem zfU{lo hi:Int}(h:Fit n q st d):zcf [d,.int lo,.int hi] st=some (.bl (whB lo hi d),st):=by
 refine zb2 ?_;unfold zeA
 cases h with
 | non=>simp[ziL,subT,whB]
 | bl b=>simp[zlt,subT,whB]
 | int x =>
   unfold whB
   by_cases h1:lo<=x
   . by_cases h2:x<=hi
     . simp[zcc,ty_int,subT,h1,h2]
     . simp[zcc,ty_int,subT,h1,h2]
   . simp[zcc,ty_int,subT,h1]
 | str z h ok=>simp[ty_str,subT,whB]
 | tup ds h f=>simp[zhi,subT,whB]
 | lst k xs h h1 h2=>simp[zhj h,subT,whB]
 | dk k xs h h1 h2=>simp[zls h,subT,whB]
noncomputable def tupB(N:Int):D->Bool
 | .tup ds=>(ds.length:Int)==N
 | _=>false
theorem zeE{N:Int}(h:Fit n q st d):zbf [d,.int N] st=some (.bl (tupB N d),st):=by
 refine zb2 ?_;unfold zeB
 cases h with
 | non=>simp[ziL,subT,tupB]
 | bl b=>simp[zlt,subT,tupB]
 | int x=>simp[ty_int,subT,tupB]
 | str z h ok=>simp[ty_str,subT,tupB]
 | tup ds h f=>simp[zhi,subT,tupB,zcy,eq_int]
 | lst k xs h h1 h2=>simp[zhj h,subT,tupB]
 | dk k xs h h1 h2=>simp[zls h,subT,tupB]
theorem zhk(d:D):(∃ x y,d=.tup [x,y])\/tupB 2 d=false:=by
 cases d with
 | tup ds =>
   match ds with
   | [x,y]=>exact .inl ⟨x,y,rfl⟩
   | []=>exact .inr rfl
   | [x]=>exact .inr rfl
   | x::y::z::r =>
     refine .inr ?_;show (((x::y::z::r).length:Int)==2)=false;apply beq_false_of_ne;simp only[BE];omega
 | _=>exact .inr rfl
noncomputable def ze6(a b:Int):D->Bool
 | .tup [x,y]=>whB 0 (a - 1) x&&whB 0 (b - 1) y
 | _=>false
theorem zf8{a b:Int}(h:tupB 2 d=false):ze6 a b d=false:=by
 unfold ze6
 split
 . exact absurd h (by simp[tupB])
 . rfl
theorem zkj{a b:Int}(h:Fit n q st d):zdm [d,.int a,.int b] st=some (.bl (ze6 a b d),st):=by
 refine zb2 ?_;have e:=zeE (N:=2) h;unfold zfw
 rcases zhk d with ⟨x,y,rfl⟩ | h2
 . have e0:=zfU (lo:=0) (hi:=a - 1) (h.at x (by simp));have e1:=zfU (lo:=0) (hi:=b - 1) (h.at y (by simp));have t:tupB 2 (.tup [x,y])=true:=rfl;have i0:ixA (.tup [x,y]) (.int 0) st=some (x,st):=zcX (by decide) rfl;have i1:ixA (.tup [x,y]) (.int 1) st=some (y,st):=zcX (by decide) rfl;rw[t] at e;unfold ze6
   cases hx:whB 0 (a - 1) x
   . rw[hx] at e0;simp[e,i0,e0,hx]
   . rw[hx] at e0;simp[e,i0,i1,e0,e1,hx]
 . rw[zf8 h2];rw[h2] at e;simp[e]
noncomputable def zb7(a b:Int):D->Bool
 | .tup ds=>((ds.length:Int)==a)&&ds.all (ze6 a b)
 | _=>false
theorem ziE{α:Type}(f:α->Bool):∀ as:List α,zjX (as.map fun a=>D.bl (f a))=some (as.map f)
 | []=>rfl
 | a::as=>by
   show (zjX (as.map fun a=>D.bl (f a))).map _=_;rw[ziE f as];rfl
theorem zmX{α:Type}{f:α->Bool}{as:List α}{n:Nat}{st:Sto}(h:st[n]?=some (.lst (as.map fun a=>D.bl (f a)))):allC [.ref n] st=some (.bl (as.all f),st):=by
 unfold allC;simp only[zcd,h,Ac,ziE,Ap,Dg];rfl
theorem zdA{mi:MI}{b:D->Bool}{as:List D}{fr:List Nat}{m:ME}{ρ0 ρ:Rho}{st:Sto}{gd:List (Nat×List D)}(hw:mi ρ st=some (⟨as,gd⟩,st))(hg:∀ s,Gr st s->walked ⟨as,gd⟩ s=true)(hρ:rho0 ρ 1 fr=none::ρ0)(hl:as.length<=10000)
   (h:∀ a∈as,∀ s,Gr st s->∃ s1,m (some a::ρ0) s=some (.bl (b a),s1)/\Gr s s1) :
   ∃ st',zav allC (zac (zcW mi 1 fr (gNm 0) zd9 m) mNil) ρ st=some (.bl (as.all b),st')/\Gr st st':=by
 obtain⟨s1,e,g⟩:=zm8 (W:=⟨as,gd⟩) (g:=gNm 0) (c:=zd9) (m:=m) (f:=fun x:D=>x) (h:=fun a=>D.bl (b a)) (R:=fun r=>∃ x,r=x::ρ0) (as:=as) (ρ:=none::ρ0) (st:=st) ⟨none,rfl⟩ hg (fun a ha r s hr gs=>by
   obtain⟨x,rfl⟩:=hr;obtain⟨s1,e,g⟩:=h a ha s gs;exact⟨some a::ρ0,s1,rfl,rfl,e,g,_,rfl⟩)
 rw[List.map_id'] at e;have fl:fits (as.map fun a=>D.bl (b a)).length=true:=zat (by rw[Aq];exact hl);have ec:zcW mi 1 fr (gNm 0) zd9 m ρ st=some (.ref s1.length,s1++[.lst (as.map fun a=>D.bl (b a))]):=by
   rw[zaE,hw];simp only[Ac];rw[hρ,e];simp only[Ac,fl,if_true]
 refine⟨_,?_,g.trans (Gr.app s1 [.lst (as.map fun a=>D.bl (b a))])⟩;simp only[zaL,zaI,zbm,ec,Ac];exact zmX (zbh s1 _)
theorem ziR{a b:Int}(h:Fit n q st d):∃ st',zcg [d,.int a,.int b] st=some (.bl (zb7 a b d),st')/\Gr st st':=by
 have e:=zeE (N:=a) h
 by_cases ht:tupB a d=true
 . cases h with
   | tup ds hl f =>
     obtain⟨s1,e1,g1⟩:=zdA (mi:=mWA (mVar 0)) (b:=ze6 a b) (as:=ds) (fr:=[1,2]) (m:=zcp) (ρ0:=[some (.int a),some (.int b)]) (ρ:=[some (.tup ds),some (.int a),some (.int b)]) (st:=st) (gd:=[]) rfl (fun _ _=>rfl) rfl (by omega) (fun x hx s g=>by
       refine⟨s,?_,Gr.refl s⟩;have:=zkj (a:=a) (b:=b) ((f x hx).gr g);unfold zcp;simp[this])
     have hb:zb7 a b (.tup ds)=ds.all (ze6 a b):=by
       have ht':((ds.length:Int)==a)=true:=ht;show (((ds.length:Int)==a)&&ds.all (ze6 a b))=_;rw[ht',A6]
     refine⟨s1,zb2 ?_,g1⟩;rw[ht] at e;rw[hb];show zcB [some (.tup ds),some (.int a),some (.int b)] st=_;unfold zcB;rw[za0,zaJ,zaO];have e':zav zbf (zac (mVar 0) (zac (mVar 1) (mNil))) [some (.tup ds),some (.int a),some (.int b)] st=some (.bl true,st):=by simp[e]
     simp only[e',Ac,if_true,e1,Ap]
   | _=>simp[tupB] at ht
 . refine⟨st,zb2 ?_,Gr.refl st⟩;have ht:tupB a d=false:=by simpa using ht
   have hb:zb7 a b d=false:=by
     unfold zb7
     split
     . have ht':_=false:=ht;unfold tupB at ht';simp only[ht',Bq]
     . rfl
   rw[ht] at e;rw[hb];unfold zcB;simp[e]
end
theorem zlh{z:Str}{c:Nat}{st:Sto}:inA (sgD c) (.str z) st=some (.bl (decide (c∈z.cps.toList)),st):=by
 have h:=D1 z c;unfold inA orG sgD;rw[ziA,zb8];show some (D.bl (!(Bm z ⟨#[c]⟩ 0 z.length 1).isEmpty),st)=_;rw[h]
theorem zjO(z:Str):dist z=z.cps.toList.length ↔ z.cps.toList.Nodup:=by
 unfold dist;rw[show z.cps.toList.length=z.cps.size from Ar,ziu,List.nodup_iff_pairwise_ne,List.pairwise_iff_getElem];have key:∀ i (hi:i < z.cps.toList.length),zj6 z i=⟨#[z.cps.toList[i]]⟩:=fun i hi=>by
   unfold zj6;have hi':i < z.cps.size:=by rw[Ar] at hi;exact hi
   rw[CN,B2 hi',Co];simp
 constructor
 . intro h i j hi hj hij e;refine h i j hij (by rw[Ar] at hj;exact hj) ?_;rw[key i hi,key j hj,e]
 . intro h i j hij hj e;have hj':j < z.cps.toList.length:=by rw[Ar];exact hj
   rw[key i (by omega),key j hj'] at e;exact h i j (by omega) hj' hij (by simpa using e)
section
variable {n q:Nat} {st:Sto} {d:D}
noncomputable def istB:D->Bool
 | .tup _=>true
 | _=>false
noncomputable def issB:D->Bool
 | .str _=>true
 | _=>false
theorem zig(h:Fit n q st d):∃ ty,tyName st d=some ty/\subT ty "tuple"=istB d/\subT ty "str"=issB d:=by
 cases h with
 | non=>exact⟨_,rfl,by simp[subT,istB,issB],by simp[subT,istB,issB]⟩
 | bl b=>exact⟨_,rfl,by simp[subT,istB,issB],by simp[subT,istB,issB]⟩
 | int x=>exact⟨_,rfl,by simp[subT,istB,issB],by simp[subT,istB,issB]⟩
 | str z h ok=>exact⟨_,rfl,by simp[subT,istB,issB],by simp[subT,istB,issB]⟩
 | tup ds h f=>exact⟨_,rfl,by simp[subT,istB,issB],by simp[subT,istB,issB]⟩
 | lst k xs h h1 h2=>exact⟨_,zhj h,by simp[subT,istB,issB],by simp[subT,istB,issB]⟩
 | dk k xs h h1 h2=>exact⟨_,zls h,by simp[subT,istB,issB],by simp[subT,istB,issB]⟩
noncomputable def letB:D->Bool
 | .str z=>decide (1<=z.cps.toList.length)&&decide (z.cps.toList.length<=10)&&z.cps.toList.all (fun c=>decide (c∈zcs.cps.toList))&&decide z.cps.toList.Nodup
 | _=>false
noncomputable def in36:D->Bool
 | .str y=>y.cps.toList.all (fun c=>decide (c∈zcs.cps.toList))
 | _=>false
theorem zhr(z:Str):(signs z).all in36=z.cps.toList.all (fun c=>decide (c∈zcs.cps.toList)):=by
 unfold signs;rw[Dg]
 congr 1
 funext c
 simp[in36]
theorem zgH(h:Fit n q st d):∃ st',zbS [d] st=some (.bl (letB d),st')/\Gr st st':=by
 obtain⟨ty,e1,_,e2⟩:=zig h
 by_cases hs:issB d=true
 . cases h with
   | str z hl ok =>
     have el:=len_str (z:=z) (st:=st) (by omega);rw[hs] at e2;obtain⟨k,hk⟩:∃ k,z.cps.toList.length=k:=⟨_,rfl⟩
     rw[hk] at el
     by_cases hr:1<=z.cps.toList.length/\z.cps.toList.length<=10
     . obtain⟨s1,ea,g1⟩:=zdA (mi:=mWA (mVar 0)) (b:=in36) (as:=signs z) (fr:=[]) (m:=zb0) (ρ0:=[]) (ρ:=[some (.str z)]) (st:=st) (gd:=[]) rfl (fun _ _=>rfl) rfl (by rw[<-zdh,<-Ar];omega) (fun x hx s g=>by
         refine⟨s,?_,Gr.refl s⟩;unfold signs at hx;obtain⟨c,hc,rfl⟩:=List.mem_map.mp hx;have:=zlh (z:=zcs) (c:=c) (st:=s);unfold sgD at this;unfold zb0;simp[this,in36])
       rw[zhr] at ea;have hb:letB (.str z)=(z.cps.toList.all (fun c=>decide (c∈zcs.cps.toList))&&decide z.cps.toList.Nodup):=by
         show (decide (1<=z.cps.toList.length)&&decide (z.cps.toList.length<=10)&&z.cps.toList.all (fun c=>decide (c∈zcs.cps.toList))&&decide z.cps.toList.Nodup)=_;rw[decide_eq_true hr.1,decide_eq_true hr.2];rfl
       have c1:(1:Int)<=(k:Int):=by omega
       have c2:(k:Int)<=10:=by omega
       have head:mIf (mOrT (zcI (mTst (mIsi "str" (mVar 0)))) (zcI (mTst (zcc leD leD (mCon (.int 1)) (zav lenD (zac (mVar 0) (mNil))) (mCon (.int 10)))))) (mRet (mCon (.bl false))) (zcr) [some (.str z)] st=some (.nx [some (.str z)],st):=by
         simp[e1,e2,zcc,el,c1,c2,leD,cmpD]
       have set_:zkw [.str z] s1=some (.ref s1.length,s1++[.sz (dist z)]):=by
         unfold zkw;dsimp only;rw[if_pos (by rw[<-Ar];omega)]
       have len_:lenE [.ref s1.length] (s1++[.sz (dist z)])=some (.int (dist z),s1++[.sz (dist z)]):=by
         have a:=zbh s1 (.sz (dist z));unfold lenE orN;have l1:lenD [.ref s1.length] (s1++[.sz (dist z)])=none:=by simp[lenD,zcd,a]
         rw[l1,zb8];simp[zlC,a]
       have el2:=len_str (z:=z) (st:=s1++[.sz (dist z)]) (by omega);rw[hk] at el2
       cases hall:z.cps.toList.all (fun c=>decide (c∈zcs.cps.toList)) with
       | false =>
         refine⟨s1,zb2 ?_,g1⟩;rw[hb,hall];rw[hall] at ea;show zaM [some (.str z)] st=_;unfold zaM;refine zas head ?_;rw[za0,zaJ,zaO,ea];rfl
       | true =>
         refine⟨s1++[.sz (dist z)],zb2 ?_,g1.trans (Gr.app s1 _)⟩;rw[hb,hall];rw[hall] at ea;show zaM [some (.str z)] st=_;unfold zaM;refine zas head ?_;rw[za0,zaJ,zaO,ea];have hd:((dist z:Int)==(k:Int))=decide z.cps.toList.Nodup:=by
           rw[Bi,beq_iff_eq,decide_eq_true_iff,<-zjO,hk];omega
         simp[set_,len_,el2,eq_int,hd]
     . refine⟨st,zb2 ?_,Gr.refl st⟩;have hb:letB (.str z)=false:=by
         show (decide (1<=z.cps.toList.length)&&decide (z.cps.toList.length<=10)&&z.cps.toList.all (fun c=>decide (c∈zcs.cps.toList))&&decide z.cps.toList.Nodup)=_;rw[Ci];intro a;rw[Ag,Ag,Ag,decide_eq_true_iff,decide_eq_true_iff] at a;exact hr a.1.1
       rw[hb];show zaM [some (.str z)] st=_;unfold zaM;refine zbs ?_
       by_cases c1:(1:Int)<=(k:Int)
       . have c2:¬ (k:Int)<=10:=by omega
         simp[e1,e2,zcc,el,c1,c2,leD,cmpD]
       . simp[e1,e2,zcc,el,c1,leD,cmpD]
   | _=>simp[issB] at hs
 . have hs:issB d=false:=by simpa using hs
   refine⟨st,zb2 ?_,Gr.refl st⟩;have hb:letB d=false:=by
     cases d with
     | str z=>simp[issB] at hs
     | _=>rfl
   rw[hs] at e2;rw[hb];unfold zaM;refine zbs ?_;simp[e1,e2]
noncomputable def slen:D->Int
 | .str z=>(z.cps.toList.length:Int)
 | _=>0
noncomputable def tabB(k:Int):D->Bool
 | .tup ts=>decide (1<=ts.length)&&decide (ts.length<=4)&&ts.all (zb7 k (ts.length:Int))
 | _=>false
noncomputable def zcT:D->Bool
 | .tup [l,t]=>letB l&&tabB (slen l) t
 | _=>false
theorem zfW(h:tupB 2 d=false):zcT d=false:=by
 unfold zcT
 split
 . exact absurd h (by simp[tupB])
 . rfl
theorem zdf(h:Fit n q st d):∃ st',zbo [d] st=some (.bl (zcT d),st')/\Gr st st':=by
 have e:=zeE (N:=2) h
 rcases zhk d with ⟨l,t,rfl⟩ | h2
 . have t2:tupB 2 (.tup [l,t])=true:=rfl;rw[t2] at e;obtain⟨s1,e1,g1⟩:=zgH (h.at l (by simp));have i0:ixA (.tup [l,t]) (.int 0) st=some (l,st):=zcX (by decide) rfl;have i1:∀ s,ixA (.tup [l,t]) (.int 1) s=some (t,s):=fun s=>zcX (by decide) rfl;have hw:zcT (.tup [l,t])=(letB l&&tabB (slen l) t):=rfl;rw[hw]
   cases hl:letB l with
   | false =>
     refine⟨s1,zb2 ?_,g1⟩;rw[hl] at e1;show zbJ [some (.tup [l,t]),none] st=_;unfold zbJ;refine zbs ?_;simp[e,i0,e1]
   | true =>
     rw[hl] at e1;have ft:=(h.at t (by simp)).gr g1;obtain⟨ty,y1,y2,_⟩:=zig ft;have head:∀ r,zbJ [some (.tup [l,t]),none] st=r ↔ (mSeq (mIf (mOrT (zcI (mTst (mIsi "tuple" (mVar 1)))) (zcI (mTst (zcc leD leD (mCon (.int 1)) (zav lenD (zac (mVar 1) (mNil))) (mCon (.int 4)))))) (mRet (mCon (.bl false))) (zcr)) (mRet (zav allC (zac (zcW (mWA (mVar 1)) 1 [0,1] (gNm 0) (zd9) (zbT)) (mNil)))) [some (.tup [l,t]),some t] s1)=r:=by
       intro r;unfold zbJ;rw[zas (ρ1:=[some (.tup [l,t]),none]) (s1:=s1) (by simp[e,i0,e1]) rfl];rw[zas (ρ1:=[some (.tup [l,t]),some t]) (s1:=s1) (by simp[i1]) rfl]
     by_cases hi:istB t=true
     . cases ft with
       | tup ts hts f =>
         rw[hi] at y2;have el:∀ s,lenD [.tup ts] s=some (.int (ts.length:Int),s):=fun s=>zcy
         by_cases hr:1<=ts.length/\ts.length<=4
         . have c1:(1:Int)<=(ts.length:Int):=by omega
           have c2:(ts.length:Int)<=4:=by omega
           obtain⟨z,rfl⟩:∃ z,l=.str z:=by
             cases l with
             | str z=>exact⟨z,rfl⟩
             | _=>simp[letB] at hl
           have hz:z.cps.toList.length<=10:=by
             have hl':(decide (1<=z.cps.toList.length)&&decide (z.cps.toList.length<=10)&&z.cps.toList.all (fun c=>decide (c∈zcs.cps.toList))&&decide z.cps.toList.Nodup)=true:=hl;rw[Ag,Ag,Ag,decide_eq_true_iff,decide_eq_true_iff] at hl';exact hl'.1.1.2
           obtain⟨s2,ea,g2⟩:=zdA (mi:=mWA (mVar 1)) (b:=zb7 (slen (.str z)) (ts.length:Int)) (as:=ts) (fr:=[0,1]) (m:=zbT) (ρ0:=[some (.tup [.str z,.tup ts]),some (.tup ts)]) (ρ:=[some (.tup [.str z,.tup ts]),some (.tup ts)]) (st:=s1) (gd:=[]) rfl (fun _ _=>rfl) rfl (by omega) (fun x hx s g=>by
             obtain⟨s3,e3,g3⟩:=ziR (a:=slen (.str z)) (b:=(ts.length:Int)) ((f x hx).gr g);refine⟨s3,?_,g3⟩;have i0':ixA (.tup [.str z,.tup ts]) (.int 0) s=some (.str z,s):=zcX (by decide) rfl;have elz:=len_str (z:=z) (st:=s) (by omega);obtain⟨k,hk⟩:∃ k,z.cps.toList.length=k:=⟨_,rfl⟩
             have e3':zcg [x,.int (z.cps.toList.length:Int),.int (ts.length:Int)] s=some (.bl (zb7 (slen (.str z)) (ts.length:Int) x),s3):=e3;rw[hk] at elz e3';unfold zbT;simp[i0',elz,el,e3'])
           refine⟨s2,zb2 ((head _).mpr ?_),g1.trans g2⟩;have hb:tabB (slen (.str z)) (.tup ts)=ts.all (zb7 (slen (.str z)) (ts.length:Int)):=by
             show (decide (1<=ts.length)&&decide (ts.length<=4)&&ts.all (zb7 (slen (.str z)) (ts.length:Int)))=_;rw[decide_eq_true hr.1,decide_eq_true hr.2];rfl
           rw[hb,A6];refine zas (ρ1:=[some (.tup [.str z,.tup ts]),some (.tup ts)]) (s1:=s1) (by simp[y1,y2,zcc,el,c1,c2,leD,cmpD]) ?_;rw[za0,ea];rfl
         . refine⟨s1,zb2 ((head _).mpr ?_),g1⟩;have hb:tabB (slen l) (.tup ts)=false:=by
             show (decide (1<=ts.length)&&decide (ts.length<=4)&&ts.all (zb7 (slen l) (ts.length:Int)))=_;rw[Ci];intro a;rw[Ag,Ag,decide_eq_true_iff,decide_eq_true_iff] at a;exact hr a.1
           rw[hb];refine zbs ?_
           by_cases c1:(1:Int)<=(ts.length:Int)
           . have c2:¬ (ts.length:Int)<=4:=by omega
             simp[y1,y2,zcc,el,c1,c2,leD,cmpD]
           . simp[y1,y2,zcc,el,c1,leD,cmpD]
       | _=>simp[istB] at hi
     . have hi:istB t=false:=by simpa using hi
       rw[hi] at y2;refine⟨s1,zb2 ((head _).mpr ?_),g1⟩;have hb:tabB (slen l) t=false:=by
         cases t with
         | tup ts=>simp[istB] at hi
         | _=>rfl
       rw[hb];refine zbs ?_;simp[y1,y2]
 . refine⟨st,zb2 ?_,Gr.refl st⟩;rw[zfW h2];rw[h2] at e;unfold zbJ;refine zbs ?_;simp[e]
end
theorem zlj(c:Nat):c∈zdk.cps.toList ↔ c∈zcs.cps.toList:=⟨(by decide +kernel:∀ c∈zdk.cps.toList,c∈zcs.cps.toList) c,zh1 c⟩
theorem zfo(c:Nat):∀ l:List Nat,PyProof.Rows.cnt c l=(l.count c:Int)
 | []=>rfl
 | a::l=>by
   rw[PyProof.Rows.cnt_cons,zfo c l,List.count_cons]
   by_cases h:a=c
   . subst h;simp;omega
   . have h':(a==c)=false:=beq_false_of_ne h;rw[if_neg h,h'];simp
theorem zln(z:Str)(c:Nat):Txt.count z ⟨#[c]⟩=(z.cps.toList.count c:Int):=(PyProof.Rows.count_is z c).trans (zfo c _)
theorem zll(l:List Nat):(l.any fun c=>decide (1 < l.count c))=!decide l.Nodup:=by
 rw[Bi,Eb];rw[D2,decide_eq_false_iff_not,List.nodup_iff_count]
 constructor
 . rintro ⟨c,_,h⟩ q;have:=q c;have h:=of_decide_eq_true h;omega
 . intro h;obtain⟨c,hc⟩:=Classical.not_forall.mp h;have hc:1 < l.count c:=by omega
   exact⟨c,List.count_pos_iff.mp (by omega),decide_eq_true hc⟩
section
variable {n q:Nat} {st:Sto} {d:D}
theorem zih{f:D->Option PyData}:∀ cs:List Nat,(∀ c∈cs,f (sgD c)=some (.str ⟨#[c]⟩))->toPs f (cs.map sgD)=some (cs.map fun c=>EF ⟨#[c]⟩)
 | [],_=>rfl
 | x::as,hf=>by
   rw[Az,toPs,hf x Au,Ac,zih as fun c hc=>hf c (Am _ hc)];rfl
theorem zjr{f g:Nat}{cs:List Nat}(hf:st[f]?=some (.lst (cs.map sgD)))(hg:st[g]?=some (.lst []))(ok:∀ c∈cs,c < 1114112):neD (.ref f) (.ref g) st=some (.bl (!cs.isEmpty),st):=by
 unfold neD;have e1:toP 100 st (.ref f)=some (.list (cs.map fun c=>EF ⟨#[c]⟩)):=by
   rw[toP];simp only[zcd,hf,Ac];rw[zih cs fun c hc=>by
     have:BR ⟨#[c]⟩=true:=by
       unfold BR;simp[ok c hc]
     rw[toP];simp[this]]
   rfl
 rw[e1,zeH (n:=98) (as:=[]) hg]
 cases cs <;> rfl
theorem ze7{z:Str}{fr:List Nat}{T:MT}{C:ME}{p:Nat->Bool}{ρ ρ0:Rho}(hv:mVar 1 ρ st=some (.str z,st))(hρ:rho0 ρ 1 fr=none::ρ0)(hT:∀ c∈z.cps.toList,T (some (sgD c)::ρ0) st=some (p c,st))(hC:∀ x,C (some x::ρ0) st=some (x,st))
   (ok:∀ c∈z.cps.toList,c < 1114112) (hl:z.cps.toList.length<=100):∃ st',mTst (mBin neD (zcW (mWA (mVar 1)) 1 fr (gNm 0) T C) (mLst mNil)) ρ st=some (z.cps.toList.any p,st')/\Gr st st':=by
 have ec:=zfp (W:=⟨signs z,[]⟩) (g:=gNm 0) (c:=T) (m:=C) (f:=sgD) (h:=sgD) (p:=p) (R:=fun r=>∃ x,r=x::ρ0) (as:=z.cps.toList) (ρ:=none::ρ0) (st:=st) ⟨none,rfl⟩ rfl (fun c hc r hr=>by
   obtain⟨x,rfl⟩:=hr;exact⟨some (sgD c)::ρ0,rfl,hT c hc,fun _=>hC _,_,rfl⟩)
 have fl:fits ((z.cps.toList.filter p).map sgD).length=true:=zat (by rw[Aq];have:=List.length_filter_le p z.cps.toList;omega);have ew:mWA (mVar 1) ρ st=some (⟨signs z,[]⟩,st):=by
   rw[zlq,hv];rfl
 have ecm:zcW (mWA (mVar 1)) 1 fr (gNm 0) T C ρ st=some (.ref st.length,st++[.lst ((z.cps.toList.filter p).map sgD)]):=by
   rw[zaE,ew];simp only[Ac];rw[hρ];have ec':mCI ⟨signs z,[]⟩ (gNm 0) T C (signs z) (none::ρ0) st=some ((z.cps.toList.filter p).map sgD,st):=ec;rw[ec'];simp only[Ac,fl,if_true]
 generalize hs:st++[O.lst ((z.cps.toList.filter p).map sgD)]=s1 at ecm;have hlen:s1.length=st.length+1:=by rw[<-hs];simp
 have a1:s1[st.length]?=some (.lst ((z.cps.toList.filter p).map sgD)):=by rw[<-hs];exact zbh _ _
 have n1:=zjr (st:=s1++[.lst []]) (f:=st.length) (g:=s1.length) (by rw[Ah (by omega)];exact a1) (zbh _ _) (fun c hc=>ok c (List.mem_filter.mp hc).1);refine⟨s1++[.lst []],?_,?_⟩
 . rw[zaO,zbc,ecm];have el:mLst mNil ρ s1=some (.ref s1.length,s1++[.lst []]):=by simp
   simp only[Ac,el,n1]
   congr 2
   rw[Bi,D2,Eb]
   cases hq:z.cps.toList.filter p with
   | nil =>
     simp only[List.isEmpty_nil,Bool.true_eq_false,false_iff];rintro ⟨c,hc,hp⟩;have:c∈z.cps.toList.filter p:=List.mem_filter.mpr ⟨hc,hp⟩;rw[hq] at this;simp at this
   | cons c r =>
     simp only[List.isEmpty_cons,true_iff];have:c∈z.cps.toList.filter p:=by rw[hq];simp
     exact⟨c,List.mem_filter.mp this⟩
 . rw[<-hs];exact (Gr.app _ _).trans (Gr.app _ _)
theorem zgu{x:D}{a:Int}{a0 a1:Option D}(h:Fit n q st x):zaT [a0,a1,some x,some (.int a)] st=some (if whB 0 (a - 1) x=true then .nx [a0,a1,some x,some (.int a)] else .rt (.bl false),st):=by
 unfold zaT
 cases h with
 | non=>simp[ziL,subT,whB]
 | bl b=>simp[zlt,subT,whB]
 | int i =>
   unfold whB
   by_cases h1:i < 0
   . have:¬ (0<=i):=by omega
     simp[ty_int,subT,h1,this,ltD,geD,cmpD]
   . by_cases h2:a<=i
     . have q1:0<=i:=by omega
       have q2:¬ (i<=a - 1):=by omega
       simp[ty_int,subT,h1,h2,q1,q2,ltD,geD,cmpD]
     . have q1:0<=i:=by omega
       have q2:i<=a - 1:=by omega
       simp[ty_int,subT,h1,h2,q1,q2,ltD,geD,cmpD]
 | str z h ok=>simp[ty_str,subT,whB]
 | tup ds h f=>simp[zhi,subT,whB]
 | lst k xs h h1 h2=>simp[zhj h,subT,whB]
 | dk k xs h h1 h2=>simp[zls h,subT,whB]
theorem zgt{a b:Int}(h:Fit n q st d):zbq [d,.tup [.int a,.int b]] st=some (.bl (ze6 a b d),st):=by
 refine zb2 ?_;obtain⟨ty,y1,y2,_⟩:=zig h;have l2:lenD [.tup [.int a,.int b]] st=some (.int 2,st):=rfl
 rcases zhk d with ⟨x,y,rfl⟩ | h2
 . have fx:=h.at x (by simp);have fy:=h.at y (by simp);have l1:lenD [.tup [x,y]] st=some (.int 2,st):=rfl;have n1:=ne_int 2 2 st;have ez:zipW (.tup [x,y]) (.tup [.int a,.int b]) st=some (⟨[.tup [x,.int a],.tup [y,.int b]],[]⟩,st):=by
     simp[zipW,seqD,pairD]
   show za8 [some (.tup [x,y]),some (.tup [.int a,.int b]),none,none] st=_;unfold za8;refine zas (ρ1:=[some (.tup [x,y]),some (.tup [.int a,.int b]),none,none]) (s1:=st) (by simp[zhi,subT,l1,l2,n1]) ?_;have s1:=zgu (a:=a) (a0:=some (.tup [x,y])) (a1:=some (.tup [.int a,.int b])) fx;have s2:=zgu (a:=b) (a0:=some (.tup [x,y])) (a1:=some (.tup [.int a,.int b])) fy;have wk:walked ⟨[.tup [x,.int a],.tup [y,.int b]],[]⟩ st=true:=rfl;rw[show ze6 a b (.tup [x,y])=(whB 0 (a - 1) x&&whB 0 (b - 1) y) from rfl];have ef:mFor (mZip (mVar 0) (mVar 1)) (gTp 2 (gC (gNm 2) (gC (gNm 3) (gN0)))) (zaT) [some (.tup [x,y]),some (.tup [.int a,.int b]),none,none] st=zdj ⟨[.tup [x,.int a],.tup [y,.int b]],[]⟩ (gTp 2 (gC (gNm 2) (gC (gNm 3) (gN0)))) (zaT) [.tup [x,.int a],.tup [y,.int b]] [some (.tup [x,y]),some (.tup [.int a,.int b]),none,none] st:=by
     rw[zbi,zbt];simp only[zbb,Ac,Bn,Bo,ez]
   have t1:∀ u v:Option D,gTp 2 (gC (gNm 2) (gC (gNm 3) (gN0))) (.tup [x,.int a]) [some (.tup [x,y]),some (.tup [.int a,.int b]),u,v] st=some ([some (.tup [x,y]),some (.tup [.int a,.int b]),some x,some (.int a)],st):=by intro u v;simp
   have t2:∀ u v:Option D,gTp 2 (gC (gNm 2) (gC (gNm 3) (gN0))) (.tup [y,.int b]) [some (.tup [x,y]),some (.tup [.int a,.int b]),u,v] st=some ([some (.tup [x,y]),some (.tup [.int a,.int b]),some y,some (.int b)],st):=by intro u v;simp
   cases hx:whB 0 (a - 1) x with
   | false =>
     rw[hx] at s1;refine zbs ?_;rw[ef,zdj,if_pos wk,t1];simp only[Ac,s1];rfl
   | true =>
     rw[hx] at s1
     cases hy:whB 0 (b - 1) y with
     | false =>
       rw[hy] at s2;refine zbs ?_;rw[ef,zdj,if_pos wk,t1];simp only[Ac,s1,if_true];rw[zdj,if_pos wk,t2];simp only[Ac,s2];rfl
     | true =>
       rw[hy] at s2;refine zas (ρ1:=[some (.tup [x,y]),some (.tup [.int a,.int b]),some y,some (.int b)]) (s1:=st) ?_ rfl;rw[ef,zdj,if_pos wk,t1];simp only[Ac,s1,if_true];rw[zdj,if_pos wk,t2];simp only[Ac,s2,if_true];rw[zdj,if_pos wk]
 . rw[zf8 h2];show za8 [some d,some (.tup [.int a,.int b]),none,none] st=_;unfold za8;refine zbs ?_
   cases hi:istB d with
   | false=>rw[hi] at y2;simp[y1,y2]
   | true =>
     rw[hi] at y2
     cases d with
     | tup ds =>
       have l1:lenD [.tup ds] st=some (.int (ds.length:Int),st):=zcy;have n1:=ne_int (ds.length:Int) 2 st;have h2':((ds.length:Int)==2)=false:=h2;rw[h2'] at n1;simp[y1,y2,l1,l2,n1]
     | _=>simp[istB] at hi
end
section
variable {n q:Nat} {st:Sto} {d:D}
theorem zl1{z:Str}{ts:List D}{e:D}{a0 a3:Option D}{k:Nat}(hk:z.cps.toList.length=k)(hl:k<=100)(h:Fit n q st e) :
   ∃ st',zak [a0,some (.str z),some (.tup ts),a3,some e] st=some (if zb7 (k:Int) (ts.length:Int) e=true then .nx [a0,some (.str z),some (.tup ts),a3,some e] else .rt (.bl false),st')/\Gr st st':=by
 obtain⟨ty,y1,y2,_⟩:=zig h;have ez:∀ s:Sto,lenD [.str z] s=some (.int (k:Int),s):=fun s=>by rw[len_str (by omega),hk]
 have eT:∀ s:Sto,lenD [.tup ts] s=some (.int (ts.length:Int),s):=fun s=>zcy
 cases hi:istB e with
 | false =>
   refine⟨st,?_,Gr.refl st⟩;have hb:zb7 (k:Int) (ts.length:Int) e=false:=by
     cases e with
     | tup ds=>simp[istB] at hi
     | _=>rfl
   rw[hi] at y2;rw[hb,if_neg (by simp)];unfold zak;refine zbs ?_;simp[y1,y2]
 | true =>
   rw[hi] at y2
   cases h with
   | tup ds hds f =>
     have eD:lenD [.tup ds] st=some (.int (ds.length:Int),st):=zcy;have n1:=ne_int (ds.length:Int) (k:Int) st;have hst:zb7 (k:Int) (ts.length:Int) (.tup ds)=(((ds.length:Int)==(k:Int))&&ds.all (ze6 (k:Int) (ts.length:Int))):=rfl;rw[hst]
     cases hlen:((ds.length:Int)==(k:Int)) with
     | false =>
       refine⟨st,?_,Gr.refl st⟩;rw[hlen] at n1;rw[Bq,if_neg (by simp)];unfold zak;refine zbs ?_;simp[y1,y2,eD,ez,n1]
     | true =>
       rw[hlen] at n1;obtain⟨s1,ea,g1⟩:=zdA (mi:=mWA (mVar 4)) (b:=ze6 (k:Int) (ts.length:Int)) (as:=ds) (fr:=[1,2]) (m:=zbg) (ρ0:=[some (.str z),some (.tup ts)]) (ρ:=[a0,some (.str z),some (.tup ts),a3,some (.tup ds)]) (st:=st) (gd:=[]) rfl (fun _ _=>rfl) rfl (by omega) (fun x hx s g=>by
         refine⟨s,?_,Gr.refl s⟩;have:=zgt (a:=(k:Int)) (b:=(ts.length:Int)) ((f x hx).gr g);unfold zbg;simp[ez,eT,this])
       refine⟨s1,?_,g1⟩;unfold zak;refine zas (ρ1:=[a0,some (.str z),some (.tup ts),a3,some (.tup ds)]) (s1:=st) (by simp[y1,y2,eD,ez,n1]) ?_;rw[zbw,zaK,zaO,ea,A6]
       cases ds.all (ze6 (k:Int) (ts.length:Int)) <;> rfl
   | _=>simp[istB] at hi
theorem zim{z:Str}{ts:List D}{a0 a3:Option D}{k:Nat}(hk:z.cps.toList.length=k)(hl:k<=100):∀ (rs:List D) (x:Option D) (s:Sto),(∀ d∈rs,Fit n q s d) ->
   ∃ y s',zdj ⟨ts,[]⟩ (gNm 4) zak rs [a0,some (.str z),some (.tup ts),a3,x] s=some (if rs.all (zb7 (k:Int) (ts.length:Int))=true then .nx [a0,some (.str z),some (.tup ts),a3,y] else .rt (.bl false),s')/\Gr s s'
 | [],x,s,_=>⟨x,s,by rw[zdj,if_pos (show walked ⟨ts,[]⟩ s=true from rfl)];rfl,Gr.refl s⟩
 | e::rs,x,s,h=>by
   obtain⟨s1,e1,g1⟩:=zl1 (ts:=ts) (a0:=a0) (a3:=a3) hk hl (h e Au);have wk:walked ⟨ts,[]⟩ s=true:=rfl;have t:gNm 4 e [a0,some (.str z),some (.tup ts),a3,x] s=some ([a0,some (.str z),some (.tup ts),a3,some e],s):=rfl;rw[Ew]
   cases hb:zb7 (k:Int) (ts.length:Int) e with
   | false =>
     rw[hb,if_neg (by simp)] at e1;refine⟨x,s1,?_,g1⟩;rw[zdj,if_pos wk,t];simp only[Ac,e1];rfl
   | true =>
     rw[hb,if_pos rfl] at e1;obtain⟨y,s2,e2,g2⟩:=zim (ts:=ts) (a0:=a0) (a3:=a3) hk hl rs (some e) s1 fun d hd=>(h d (Am _ hd)).gr g1;refine⟨y,s2,?_,g1.trans g2⟩;rw[zdj,if_pos wk,t];simp only[Ac,e1];rw[e2,A6]
theorem zgD(h:Fit n q st d):∃ st',zba [d] st=some (.bl (zcT d),st')/\Gr st st':=by
 obtain⟨ty,y1,y2,_⟩:=zig h
 rcases zhk d with ⟨l,t,rfl⟩ | h2
 . have l1:lenD [.tup [l,t]] st=some (.int 2,st):=rfl;have n1:=ne_int 2 2 st;have i0:ixA (.tup [l,t]) (.int 0) st=some (l,st):=zcX (by decide) rfl;have hw:zcT (.tup [l,t])=(letB l&&tabB (slen l) t):=rfl;have y2':subT ty "tuple"=true:=y2;obtain⟨tl,w1,_,w2⟩:=zig (h.at l (by simp));rw[hw]
   cases hs:issB l with
   | false =>
     refine⟨st,zb2 ?_,Gr.refl st⟩;have hb:letB l=false:=by
       cases l with
       | str z=>simp[issB] at hs
       | _=>rfl
     rw[hb,Bq];rw[hs] at w2;show zaB [some (.tup [l,t]),none,none,none,none] st=_;unfold zaB;refine zbs ?_;simp[y1,y2',l1,n1,i0,w1,w2]
   | true =>
     rw[hs] at w2;have fl:=h.at l (by simp)
     cases fl with
     | str z hl ok =>
       obtain⟨k,hk⟩:∃ k,z.cps.toList.length=k:=⟨_,rfl⟩
       have ez:∀ s:Sto,lenD [.str z] s=some (.int (k:Int),s):=fun s=>by rw[len_str (by omega),hk]
       have hlet:letB (.str z)=(decide (1<=z.cps.toList.length)&&decide (z.cps.toList.length<=10)&&z.cps.toList.all (fun c=>decide (c∈zcs.cps.toList))&&decide z.cps.toList.Nodup):=rfl;have head:∀ r,zaB [some (.tup [.str z,t]),none,none,none,none] st=r ↔ (mSeq (mIf (mOrT (mTst (mBin eqD (zav lenD (zac (mVar 1) (mNil))) (mCon (.int 0)))) (mOrT (mTst (mBin gtD (zav lenD (zac (mVar 1) (mNil))) (mCon (.int 10)))) (mTst (mBin neD (zcW (mWA (mVar 1)) 1 [1] (gNm 0) (zaH) (zaV)) (mLst (mNil)))))) (mRet (mCon (.bl false))) (zcr)) (mSeq (mIf (mOrT (mTst (mBin neD (zcW (mWA (mVar 1)) 1 [3] (gNm 0) (zaG) (zaU)) (mLst (mNil)))) (zcI (mTst (mIsi "tuple" (mVar 2))))) (mRet (mCon (.bl false))) (zcr)) (mSeq (mIf (mOrT (mTst (mBin eqD (zav lenD (zac (mVar 2) (mNil))) (mCon (.int 0)))) (mTst (mBin gtD (zav lenD (zac (mVar 2) (mNil))) (mCon (.int 4))))) (mRet (mCon (.bl false))) (zcr)) (mSeq (mFor (mWA (mVar 2)) (gNm 4) (zak)) (mRet (mCon (.bl true)))))) [some (.tup [.str z,t]),some (.str z),some t,some (.str zdk),none] st)=r:=by
         intro r;unfold zaB;rw[zas (ρ1:=[some (.tup [.str z,t]),none,none,none,none]) (s1:=st) (by simp[y1,y2',l1,n1,i0,w1,w2]) rfl];rw[zas (ρ1:=[some (.tup [.str z,t]),some (.str z),some t,none,none]) (s1:=st) (by simp) rfl];rw[zas (ρ1:=[some (.tup [.str z,t]),some (.str z),some t,some (.str zdk),none]) (s1:=st) (by simp) rfl]
       by_cases hr:1<=k/\k<=10
       . have k0:((k:Int)==0)=false:=by simp;omega
         have k10:¬ ((10:Int) < (k:Int)):=by omega
         obtain⟨s1,e1,g1⟩:=ze7 (z:=z) (fr:=[1]) (T:=zaH) (C:=zaV) (p:=fun c=>decide (1 < z.cps.toList.count c)) (ρ:=[some (.tup [.str z,t]),some (.str z),some t,some (.str zdk),none]) (ρ0:=[some (.str z)]) (st:=st) rfl rfl (fun c hc=>by
           have e:=zln z c;unfold zaH;have q:decide ((1:Int) < (z.cps.toList.count c:Int))=decide (1 < z.cps.toList.count c):=by
             rw[Bi,decide_eq_true_iff,decide_eq_true_iff];omega
           generalize z.cps.toList.count c=N at *;simp[ziG,zh5,e,gtD,cmpD,q]) (fun x=>rfl) ok (by omega)
         rw[zll] at e1;have q1:mOrT (mTst (mBin eqD (zav lenD (zac (mVar 1) (mNil))) (mCon (.int 0)))) (mOrT (mTst (mBin gtD (zav lenD (zac (mVar 1) (mNil))) (mCon (.int 10)))) (mTst (mBin neD (zcW (mWA (mVar 1)) 1 [1] (gNm 0) (zaH) (zaV)) (mLst (mNil))))) [some (.tup [.str z,t]),some (.str z),some t,some (.str zdk),none] st=some (!decide z.cps.toList.Nodup,s1):=by
           have qa:mTst (mBin eqD (zav lenD (zac (mVar 1) (mNil))) (mCon (.int 0))) [some (.tup [.str z,t]),some (.str z),some t,some (.str zdk),none] st=some (false,st):=by simp[ez,eq_int,k0]
           have qb:mTst (mBin gtD (zav lenD (zac (mVar 1) (mNil))) (mCon (.int 10))) [some (.tup [.str z,t]),some (.str z),some t,some (.str zdk),none] st=some (false,st):=by simp[ez,gtD,cmpD,k10]
           rw[za4,qa];simp only[Ac,A1,if_false];rw[za4,qb];simp only[Ac,A1,if_false];exact e1
         by_cases hn:z.cps.toList.Nodup
         . rw[decide_eq_true hn] at q1 hlet;obtain⟨s2,e2,g2⟩:=ze7 (z:=z) (fr:=[3]) (T:=zaG) (C:=zaU) (p:=fun c=>!decide (c∈zcs.cps.toList)) (ρ:=[some (.tup [.str z,t]),some (.str z),some t,some (.str zdk),none]) (ρ0:=[some (.str zdk)]) (st:=s1) rfl rfl (fun c hc=>by
             have e:=zgv (z:=zdk) (c:=c) (st:=s1);have q:decide (c∈zdk.cps.toList)=decide (c∈zcs.cps.toList):=by
               rw[Bi,decide_eq_true_iff,decide_eq_true_iff,zlj]
             rw[q] at e;unfold zaG;rw[zaO,zbc];simp only[zbb,Ac,Bn,Bo,e]) (fun x=>rfl) ok (by omega)
           have hany:(z.cps.toList.any fun c=>!decide (c∈zcs.cps.toList))=!(z.cps.toList.all fun c=>decide (c∈zcs.cps.toList)):=by
             rw[List.not_all_eq_any_not]
           rw[hany] at e2
           cases ha:z.cps.toList.all (fun c=>decide (c∈zcs.cps.toList)) with
           | false =>
             rw[ha] at e2 hlet;refine⟨s2,zb2 ((head _).mpr ?_),g1.trans g2⟩;rw[hlet];refine zas (ρ1:=[some (.tup [.str z,t]),some (.str z),some t,some (.str zdk),none]) (s1:=s1) (by rw[zbw,q1];rfl) ?_;refine zbs ?_;rw[zbw,za4,e2];simp
           | true =>
             rw[ha] at e2 hlet;have hlet1:letB (.str z)=true:=by
               rw[hlet,hk,decide_eq_true hr.1,decide_eq_true hr.2];rfl
             rw[hlet1,A6];have ft:=((h.at t (by simp)).gr g1).gr g2;obtain⟨tt,v1,v2,_⟩:=zig ft
             cases hi:istB t with
             | false =>
               refine⟨s2,zb2 ((head _).mpr ?_),g1.trans g2⟩;have hb:tabB (slen (.str z)) t=false:=by
                 cases t with
                 | tup ts=>simp[istB] at hi
                 | _=>rfl
               rw[hi] at v2;rw[hb];refine zas (ρ1:=[some (.tup [.str z,t]),some (.str z),some t,some (.str zdk),none]) (s1:=s1) (by rw[zbw,q1];rfl) ?_;refine zbs ?_;rw[zbw,za4,e2];simp[v1,v2]
             | true =>
               rw[hi] at v2
               cases ft with
               | tup ts hts f =>
                 have eT:∀ s:Sto,lenD [.tup ts] s=some (.int (ts.length:Int),s):=fun s=>zcy;have sl:slen (.str z)=(k:Int):=by show ((z.cps.toList.length:Nat):Int)=_;rw[hk]
                 have htab:tabB (slen (.str z)) (.tup ts)=(decide (1<=ts.length)&&decide (ts.length<=4)&&ts.all (zb7 (slen (.str z)) (ts.length:Int))):=rfl;rw[htab,sl];have step2:mIf (mOrT (mTst (mBin neD (zcW (mWA (mVar 1)) 1 [3] (gNm 0) (zaG) (zaU)) (mLst (mNil)))) (zcI (mTst (mIsi "tuple" (mVar 2))))) (mRet (mCon (.bl false))) (zcr) [some (.tup [.str z,.tup ts]),some (.str z),some (.tup ts),some (.str zdk),none] s1=some (.nx [some (.tup [.str z,.tup ts]),some (.str z),some (.tup ts),some (.str zdk),none],s2):=by
                   rw[zbw,za4,e2];simp[v1,v2]
                 obtain⟨m,hm0⟩:∃ m,ts.length=m:=⟨_,rfl⟩
                 have eM:∀ s:Sto,lenD [.tup ts] s=some (.int (m:Int),s):=fun s=>by rw[eT,hm0]
                 by_cases hm:1<=m/\m<=4
                 . have m0:((m:Int)==0)=false:=by simp;omega
                   have m4:¬ ((4:Int) < (m:Int)):=by omega
                   obtain⟨y,s3,e3,g3⟩:=zim (ts:=ts) (a0:=some (.tup [.str z,.tup ts])) (a3:=some (.str zdk)) hk (by omega) ts none s2 f;have step3:mIf (mOrT (mTst (mBin eqD (zav lenD (zac (mVar 2) (mNil))) (mCon (.int 0)))) (mTst (mBin gtD (zav lenD (zac (mVar 2) (mNil))) (mCon (.int 4))))) (mRet (mCon (.bl false))) (zcr) [some (.tup [.str z,.tup ts]),some (.str z),some (.tup ts),some (.str zdk),none] s2=some (.nx [some (.tup [.str z,.tup ts]),some (.str z),some (.tup ts),some (.str zdk),none],s2):=by
                     simp[eM,eq_int,m0,gtD,cmpD,m4]
                   refine⟨s3,zb2 ((head _).mpr ?_),(g1.trans g2).trans g3⟩;refine zas (ρ1:=[some (.tup [.str z,.tup ts]),some (.str z),some (.tup ts),some (.str zdk),none]) (s1:=s1) (by rw[zbw,q1];rfl) ?_;refine zas step2 ?_;refine zas step3 ?_;have ef:mFor (mWA (mVar 2)) (gNm 4) (zak) [some (.tup [.str z,.tup ts]),some (.str z),some (.tup ts),some (.str zdk),none] s2=zdj ⟨ts,[]⟩ (gNm 4) zak ts [some (.tup [.str z,.tup ts]),some (.str z),some (.tup ts),some (.str zdk),none] s2:=rfl;have hd:(decide (1<=ts.length)&&decide (ts.length<=4))=true:=by rw[hm0,decide_eq_true hm.1,decide_eq_true hm.2];rfl
                   rw[hd,A6]
                   cases hal:ts.all (zb7 (k:Int) (ts.length:Int)) with
                   | false =>
                     rw[hal,if_neg (by simp)] at e3;exact zbs (ef.trans e3)
                   | true =>
                     rw[hal,if_pos rfl] at e3;exact zas (ef.trans e3) rfl
                 . refine⟨s2,zb2 ((head _).mpr ?_),g1.trans g2⟩;have hd:(decide (1<=ts.length)&&decide (ts.length<=4))=false:=by
                     rw[hm0,Ci];intro a;rw[Ag,decide_eq_true_iff,decide_eq_true_iff] at a;exact hm a
                   rw[hd,Bq];refine zas (ρ1:=[some (.tup [.str z,.tup ts]),some (.str z),some (.tup ts),some (.str zdk),none]) (s1:=s1) (by rw[zbw,q1];rfl) ?_;refine zas step2 ?_;refine zbs ?_
                   by_cases m0:m=0
                   . have m0':((m:Int)==0)=true:=by simp[m0]
                     simp[eM,eq_int,m0']
                   . have m0':((m:Int)==0)=false:=by simp[m0]
                     have m4:(4:Int) < (m:Int):=by omega
                     simp[eM,eq_int,m0',m4,gtD,cmpD]
               | _=>simp[istB] at hi
         . refine⟨s1,zb2 ((head _).mpr ?_),g1⟩;rw[decide_eq_false hn] at q1;rw[hlet,decide_eq_false hn,DA,Bq];refine zbs ?_;rw[zbw,q1];rfl
       . refine⟨st,zb2 ((head _).mpr ?_),Gr.refl st⟩;have hb:letB (.str z)=false:=by
           rw[hlet,hk,Ci];intro a;rw[Ag,Ag,Ag,decide_eq_true_iff,decide_eq_true_iff] at a;exact hr a.1.1
         rw[hb,Bq];refine zbs ?_
         by_cases k0:k=0
         . have k0':((k:Int)==0)=true:=by simp[k0]
           simp[ez,eq_int,k0']
         . have k0':((k:Int)==0)=false:=by simp[k0]
           have k10:(10:Int) < (k:Int):=by omega
           simp[ez,eq_int,k0',k10,gtD,cmpD]
     | _=>simp[issB] at hs
 . refine⟨st,zb2 ?_,Gr.refl st⟩;rw[zfW h2];show zaB [some d,none,none,none,none] st=_;unfold zaB;refine zbs ?_
   cases hi:istB d with
   | false=>rw[hi] at y2;simp[y1,y2]
   | true =>
     rw[hi] at y2
     cases d with
     | tup ds =>
       have l1:lenD [.tup ds] st=some (.int (ds.length:Int),st):=zcy;have n1:=ne_int (ds.length:Int) 2 st;have h2':((ds.length:Int)==2)=false:=h2;rw[h2'] at n1;simp[y1,y2,l1,n1]
     | _=>simp[istB] at hi
end
noncomputable def slT(ds:List D)(lo hi:Option Int):List D:=if (decide (HT.sIx ds.length 0 lo=0)&&decide (HT.sIx ds.length ds.length hi=ds.length))=true then ds else cutD ds lo hi
theorem zik{ds:List D}{lo hi:Option Int}{st:Sto}:slC (.tup ds) lo hi st=some (.tup (slT ds lo hi),st):=by
 unfold slC slB slA slD slS slK slW slT
 by_cases h:(decide (HT.sIx ds.length 0 lo=0)&&decide (HT.sIx ds.length ds.length hi=ds.length))=true
 . simp only[h,if_true,zb8]
 . simp only[h,if_false,zca,A1]
theorem ze8{ds:List D}{lo hi:Option Int}{d:D}(h:d∈slT ds lo hi):d∈ds:=by
 unfold slT at h
 split at h
 . exact h
 . unfold cutD at h;exact List.mem_of_mem_drop (List.mem_of_mem_take h)
theorem zeg{ds:List D}{lo hi:Option Int}:(slT ds lo hi).length<=ds.length:=by
 unfold slT
 split
 . exact Af _
 . unfold cutD;rw[BS,Cn];omega
theorem zkp{z:Str}{lo hi:Option Int}{st:Sto}(h:z.cps.toList.length<=1000):slC (.str z) lo hi st=some (.str (Bd z lo hi),st):=by
 have:fits z.length=true:=zat (by rw[len_list];omega);unfold slC slB slA slD slS;simp only[this,if_true,zb8,zca]
theorem zhp{z:Str}{lo hi:Option Int}{c:Nat}(h:c∈(Bd z lo hi).cps.toList):c∈z.cps.toList:=by
 unfold Bd at h
 split at h
 . exact h
 . have h':c∈(Builtin.Str.strSliceIndices lo hi 1 z.length).filterMap (z.cps[·]?):=by simpa using h
   obtain⟨i,_,e⟩:=List.mem_filterMap.mp h';rw[<-Bc] at e;exact BC e
theorem zhq{z:Str}{lo hi:Option Int}:(Bd z lo hi).cps.toList.length<=z.cps.toList.length:=by
 have:=Cz z lo hi;rw[len_list,len_list] at this;exact this
theorem zg9{a b:List D}{st:Sto}(h:a.length+b.length<=10000):addE (.tup a) (.tup b) st=some (.tup (a++b),st):=by
 unfold addE orG
 cases a with
 | nil =>
   have e1:addD (.tup []) (.tup b) st=none:=rfl;have hf:fits b.length=true:=zat (by simpa using h);rw[e1,zb8];simp[zlE,hf]
 | cons x a=>rw[zey (by simp) h,zca]
theorem zj3{a b:Str}{st:Sto}(h:a.cps.toList.length+b.cps.toList.length<=1000):addE (.str a) (.str b) st=some (.str (a++b),st):=by
 unfold addE orG;rw[add_str (by rw[len_list,len_list];omega),zca]
def TxOk(z:Str)(m:Nat):Prop:=z.cps.toList.length<=m/\∀ c∈z.cps.toList,c < 1114112
theorem TxOk.app{a b:Str}{m k:Nat}(h:TxOk a m)(h':TxOk b k):TxOk (a++b) (m+k):=by
 refine⟨by rw[app_list,AA];have:=h.1;have:=h'.1;omega,fun c hc=>?_⟩;rw[app_list] at hc
 rcases List.mem_append.mp hc with hc | hc
 . exact h.2 c hc
 . exact h'.2 c hc
theorem TxOk.sl{z:Str}{m:Nat}{lo hi:Option Int}(h:TxOk z m):TxOk (Bd z lo hi) m:=⟨AD zhq h.1,fun c hc=>h.2 c (zhp hc)⟩
section
variable {n q:Nat} {st:Sto}
theorem TxOk.fit{z:Str}{m:Nat}(h:TxOk z m)(hm:m<=100):Fit n q st (.str z):=.str z (AD h.1 hm) h.2
structure Got(n q:Nat)(st:Sto)(e:D)(st':Sto):Prop where
 fit:Fit n q st' e
 pot:PotB n q st'
 fr:FrB n q st st'
theorem zfa{m:ME}{ρ:Rho}{l:Nat}{s1:Sto}{xs:List D}{N:Int}(hm:m ρ st=some (.ref l,s1))(h0:ρ[0]?=some (some (.ref n)))(hp:PotB n q s1)(hl:s1[l]?=some (.lst xs))(h1:l≠n)(h2:l≠q)(hN:(xs.length:Int)=N)(hN0:0 < N)(hN1:N<=100)(hx:∀ x∈xs,Fit n q s1 x) :
   ∃ e s2,mBin ixA m (zav zae (zac (mVar 0) (zac (mCon (.int N)) (mNil)))) ρ st=some (e,s2)/\Got n q s1 e s2:=by
 obtain⟨r,s2,e2,r0,r1,p2,f2⟩:=zck (many:=N) hp hN0 (by omega);have hl2:s2[l]?=some (.lst xs):=(f2.old l (getElem?_lt hl) h1 h2).trans hl;have hr:r.toNat < xs.length:=by omega
 have hget:xs[r.toNat]?=some xs[r.toNat]:=AW hr;refine⟨xs[r.toNat],s2,?_,⟨(hx _ (Df hr)).fr f2,p2,f2⟩⟩;rw[zbc,hm];have ev:zav zae (zac (mVar 0) (zac (mCon (.int N)) (mNil))) ρ s1=some (.int r,s2):=by
   simp[h0,e2]
 simp only[Ac,ev];exact zd4 hl2 r0 hget
theorem zfn{ρ:Rho}{N:Int}(h0:ρ[0]?=some (some (.ref n)))(hp:PotB n q st)(hN0:0 < N)(hN1:N<=100) :
   ∃ b s1,mTst (mBin eqD (zav zae (zac (mVar 0) (zac (mCon (.int N)) (mNil)))) (mCon (.int 0))) ρ st=some (b,s1)/\PotB n q s1/\FrB n q st s1:=by
 obtain⟨r,s2,e2,r0,r1,p2,f2⟩:=zck (many:=N) hp hN0 (by omega);exact⟨r==0,s2,by simp[h0,e2,eq_int],p2,f2⟩
theorem zjJ{ρ:Rho}(h0:ρ[0]?=some (some (.ref n)))(hp:PotB n q st) :
   ∃ e s',mRet (mBin ixA (mLst (zac (mCon .non) (zac (mCon (.bl true)) (zac (mCon (.int 0)) (zac (mNeg (mCon (.int 1))) (zac (mCon (.int 4)) (zac (mCon (.int 10)) (zac (mCon (.str "")) (zac (mCon (.str "a")) (zac (mTup (mNil)) (zac (mLst (mNil)) (zac (zj8 false) (zac (mTup (zac (mCon (.int 0)) (zac (mCon (.int 0)) (mNil)))) (zac (mTup (zac (mTup (zac (mCon (.int 0)) (zac (mCon (.int 0)) (mNil)))) (mNil))) (mNil))))))))))))))) (zav zae (zac (mVar 0) (zac (mCon (.int 13)) (mNil))))) ρ st=some (.rt e,s')/\Got n q st e s':=by
 obtain⟨nn,nq⟩:=hp.ne;have g1:=Gr.app st [.lst []];have p1:=hp.gr g1;have a1:=zbh st (.lst []);have el:∀ r,r=st++[O.lst []]->r.length=st.length+1:=fun r h=>by rw[h];simp
 generalize hs1:st++[O.lst []]=s1 at g1 p1 a1;have g2:=Gr.app s1 [.dk []];have p2:=p1.gr g2;have a2:=zbh s1 (.dk []);obtain⟨nn1,nq1⟩:=p1.ne;generalize hs2:s1++[O.dk []]=s2 at g2 p2 a2;obtain⟨nn2,nq2⟩:=p2.ne;have b1:s2[st.length]?=some (.lst []):=(g2.old _ (getElem?_lt a1)).trans a1;have g3:=Gr.app s2 [.lst [.non,.bl true,.int 0,.int (-1),.int 4,.int 10,.str "",.str "a",.tup [],.ref st.length,.ref s1.length,.tup [.int 0,.int 0],.tup [.tup [.int 0,.int 0]]]];have p3:=p2.gr g3;obtain⟨e,s4,e4,G⟩:=zfa (N:=13) (ρ:=ρ) (m:=mLst (zac (mCon .non) (zac (mCon (.bl true)) (zac (mCon (.int 0)) (zac (mNeg (mCon (.int 1))) (zac (mCon (.int 4)) (zac (mCon (.int 10)) (zac (mCon (.str "")) (zac (mCon (.str "a")) (zac (mTup (mNil)) (zac (mLst (mNil)) (zac (zj8 false) (zac (mTup (zac (mCon (.int 0)) (zac (mCon (.int 0)) (mNil)))) (zac (mTup (zac (mTup (zac (mCon (.int 0)) (zac (mCon (.int 0)) (mNil)))) (mNil))) (mNil))))))))))))))) (st:=st) (l:=s2.length) (s1:=s2++[.lst [.non,.bl true,.int 0,.int (-1),.int 4,.int 10,.str "",.str "a",.tup [],.ref st.length,.ref s1.length,.tup [.int 0,.int 0],.tup [.tup [.int 0,.int 0]]]])
   (by subst hs2;subst hs1;rfl) h0 p3 (zbh _ _) (AM nn2) (AM nq2) (by simp) (by decide) (by decide) (by
     intro x hx;have fz:Fit n q (s2++[.lst [.non,.bl true,.int 0,.int (-1),.int 4,.int 10,.str "",.str "a",.tup [],.ref st.length,.ref s1.length,.tup [.int 0,.int 0],.tup [.tup [.int 0,.int 0]]]]) (.tup [.int 0,.int 0]):=.tup _ (by decide) (by intro d hd;simp at hd;subst hd;exact .int 0);simp only[AQ,AI,or_false] at hx
     rcases hx with rfl | rfl | rfl | rfl | rfl | rfl | rfl | rfl | rfl | rfl | rfl | rfl | rfl
     . exact .non
     . exact .bl _
     . exact .int _
     . exact .int _
     . exact .int _
     . exact .int _
     . exact .str _ (by decide) (by decide)
     . exact .str _ (by decide) (by decide)
     . exact .tup _ (by decide) (by simp)
     . exact .lst _ _ ((g3.old _ (getElem?_lt b1)).trans b1) (AM nn) (AM nq)
     . exact .dk _ _ ((g3.old _ (getElem?_lt a2)).trans a2) (AM nn1) (AM nq1)
     . exact fz
     . exact .tup _ (by decide) (by intro d hd;simp at hd;subst hd;exact fz))
 refine⟨e,s4,?_,⟨G.fit,G.pot,((FrB.of g1).trans (FrB.of g2)).trans ((FrB.of g3).trans G.fr)⟩⟩;rw[za0,e4];rfl
end
section
variable {n q:Nat} {st:Sto}
theorem zhN{ds:List D}{s:Sto}(h:ds.length<=10000):zfT [.tup ds] s=some (.ref s.length,s++[.lst ds]):=by
 have:fits ds.length=true:=zat h;simp[zfT,orN,zjy,zla,this,zca]
theorem zhO{z:Str}{s:Sto}(h:z.cps.toList.length<=10000):zfT [.str z] s=some (.ref s.length,s++[.lst (signs z)]):=by
 have:fits z.cps.size=true:=zat (by rw[<-Ar];exact h);simp[zfT,orN,zjy,zla,zgG,this,zca,zb8]
theorem zf4{z:Str}{s:Sto}(h:z.cps.toList.length<=10000):zeF [.str z] s=some (.tup (signs z),s):=by
 have:fits z.cps.size=true:=zat (by rw[<-Ar];exact h);simp[zeF,orN,zec,zlu,this,zca,zb8]
theorem zjY{m:ME}{ml mh:MO}{ρ:Rho}{st:Sto}:mSlC m ml mh ρ st=(m ρ st).bind fun p=>(ml ρ p.2).bind fun q=>(mh ρ q.2).bind fun r=>slC p.1 q.1 r.1 r.2:=rfl
theorem zlr{m mk:ME}{ρ:Rho}{st:Sto}:zj7 m mk ρ st=(m ρ st).bind fun p=>(mk ρ p.2).bind fun q=>match p.1,q.1 with
 | .tup ds,.int i=>if (decide (i=-1))=true then some (.tup ds.reverse,q.2) else none
 | _,_=>none:=rfl
theorem neg1{s:Sto}:negD (.int 1) s=some (.int (-1),s):=rfl
theorem zgS{a b:List D}{s:Sto}(ha:∀ d∈a,Fit n q s d)(hb:∀ d∈b,Fit n q s d)(hl:a.length+b.length<=100):Fit n q s (.tup (a++b)) :=
 .tup _ (by rw[AA];exact hl) fun d hd=>(List.mem_append.mp hd).elim (ha d) (hb d)
theorem zk5{ds:List D}(hp:PotB n q st)(hne:ds≠[])(hl:ds.length<=10)(f:∀ d∈ds,∀ s,Fit n q s d):∃ e st',zbn [.ref n,.tup ds] st=some (e,st')/\Got n q st e st':=by
 obtain⟨b,s1,ec,p1,f1⟩:=zfn (N:=2) (ρ:=[some (.ref n),some (.tup ds),none,none,none]) rfl hp (by decide) (by decide);have tt:∀ s,tyName s (.tup ds)=some "tuple":=fun _=>rfl
 cases b with
 | true =>
   obtain⟨nn,nq⟩:=p1.ne;have g2:=Gr.app s1 [.lst ds];have p2:=p1.gr g2;have a2:=zbh s1 (.lst ds);generalize hs2:s1++[O.lst ds]=s2 at g2 p2 a2;obtain⟨nn2,nq2⟩:=p2.ne;have h1:ds.length+(slT ds none (some 1)).length<=10000:=by have:=zeg (ds:=ds) (lo:=none) (hi:=some 1);omega
   have e1:∀ s,addD (.tup ds) (.tup (slT ds none (some 1))) s=some (.tup (ds++slT ds none (some 1)),s):=fun s=>zey hne h1;have e2:∀ s,addD (.tup ds) (.tup [.int 0]) s=some (.tup (ds++[.int 0]),s):=fun s=>zey hne (by simp;omega);have e3:=zhN (ds:=ds) (s:=s1) (by omega);rw[hs2] at e3;generalize hxs:[D.ref s1.length,.tup (slT ds none (some (-1))),.tup (ds++slT ds none (some 1)),.tup (ds++[.int 0]),.tup [],.tup ds.reverse]=xs;have g3:=Gr.app s2 [.lst xs];have p3:=p2.gr g3;have em:mLst (zac (zav zfT (zac (mVar 1) (mNil))) (zac (mSlC (mVar 1) (zcw) (zcv (mNeg (mCon (.int 1))))) (zac (mBin addD (mVar 1) (mSlC (mVar 1) (zcw) (zcv (mCon (.int 1))))) (zac (mBin addD (mVar 1) (mTup (zac (mCon (.int 0)) (mNil)))) (zac (mTup (mNil)) (zac (zj7 (mVar 1) (mNeg (mCon (.int 1)))) (mNil))))))) [some (.ref n),some (.tup ds),none,none,none] s1=some (.ref s2.length,s2++[.lst xs]):=by
     subst hxs;simp[e3,zjY,zik,neg1,e1,e2,zlr]
   obtain⟨e,s4,e4,G⟩:=zfa (N:=6) em rfl p3 (zbh _ _) (AM nn2) (AM nq2) (by subst hxs;simp) (by decide) (by decide) (by
     intro x hx;subst hxs;simp only[AQ,AI,or_false] at hx
     rcases hx with rfl | rfl | rfl | rfl | rfl | rfl
     . exact .lst _ _ ((g3.old _ (getElem?_lt a2)).trans a2) (AM nn) (AM nq)
     . exact .tup _ (by have:=zeg (ds:=ds) (lo:=none) (hi:=some (-1));omega) fun d hd=>f d (ze8 hd) _
     . exact zgS (fun d hd=>f d hd _) (fun d hd=>f d (ze8 hd) _) (by have:=zeg (ds:=ds) (lo:=none) (hi:=some 1);omega)
     . exact zgS (fun d hd=>f d hd _) (fun d hd=>by rw[List.mem_singleton.mp hd];exact .int 0) (by simp;omega)
     . exact .tup _ (by decide) (by simp)
     . exact .tup _ (by rw[CF];omega) fun d hd=>f d (List.mem_reverse.mp hd) _)
   refine⟨e,s4,zb2 ?_,⟨G.fit,G.pot,(f1.trans (FrB.of g2)).trans ((FrB.of g3).trans G.fr)⟩⟩;show zaC [some (.ref n),some (.tup ds),none,none,none] st=_;unfold zaC;refine zbs ?_;have eA:mTst (mIsi "tuple" (mVar 1)) [some (.ref n),some (.tup ds),none,none,none] st=some (true,st):=by simp[tt,subT]
   rw[zbw,zaw,eA];simp only[Ac,if_true,ec];rw[za0,e4];rfl
 | false =>
   obtain⟨e,s4,e4,G⟩:=zjJ (ρ:=[some (.ref n),some (.tup ds),none,none,none]) rfl p1;refine⟨e,s4,zb2 ?_,⟨G.fit,G.pot,f1.trans G.fr⟩⟩;show zaC [some (.ref n),some (.tup ds),none,none,none] st=_;unfold zaC;have eA:mTst (mIsi "tuple" (mVar 1)) [some (.ref n),some (.tup ds),none,none,none] st=some (true,st):=by simp[tt,subT]
   refine zas (ρ1:=[some (.ref n),some (.tup ds),none,none,none]) (s1:=s1) (by
     rw[zbw,zaw,eA];simp only[Ac,if_true,ec]
     rfl) ?_
   refine zas (ρ1:=[some (.ref n),some (.tup ds),none,none,none]) (s1:=s1) (by
     rw[zbw,zaw,zaO,za5];simp[tt,subT]) ?_
   refine zas (ρ1:=[some (.ref n),some (.tup ds),none,none,none]) (s1:=s1) (by
     rw[zbw,zaw,zaO,za5];simp[tt,subT]) ?_
   exact e4
theorem zk7{i:Int}(hp:PotB n q st)(h0:0<=i)(h1:i<=1000):∃ e st',zbn [.ref n,.int i] st=some (e,st')/\Got n q st e st':=by
 obtain⟨b,s1,ec,p1,f1⟩:=zfn (N:=2) (ρ:=[some (.ref n),some (.int i),none,none,none]) rfl hp (by decide) (by decide);have tt:∀ s,tyName s (.int i)=some "int":=fun _=>rfl;have sA:mIf (ziv (mTst (mIsi "tuple" (mVar 1))) (mTst (mBin eqD (zav zae (zac (mVar 0) (zac (mCon (.int 2)) (mNil)))) (mCon (.int 0))))) (mRet (mBin ixA (mLst (zac (zav zfT (zac (mVar 1) (mNil))) (zac (mSlC (mVar 1) (zcw) (zcv (mNeg (mCon (.int 1))))) (zac (mBin addD (mVar 1) (mSlC (mVar 1) (zcw) (zcv (mCon (.int 1))))) (zac (mBin addD (mVar 1) (mTup (zac (mCon (.int 0)) (mNil)))) (zac (mTup (mNil)) (zac (zj7 (mVar 1) (mNeg (mCon (.int 1)))) (mNil)))))))) (zav zae (zac (mVar 0) (zac (mCon (.int 6)) (mNil)))))) (zcr) [some (.ref n),some (.int i),none,none,none] st=some (.nx [some (.ref n),some (.int i),none,none,none],st):=by
   rw[zbw,zaw,zaO,za5];simp[tt,subT]
 cases b with
 | true =>
   have e1:=zeI (s:=s1) h0 (by omega:i<=1000000);have e2:powB (.int 10) (.int 30) s1=some (.int 1000000000000000000000000000000,s1):=rfl;generalize hxs:[D.int (i+1),.int (i - 1),.int (-1),.bl true,.bl false,.str (itos i),.int 1000000000000000000000000000000]=xs;have g3:=Gr.app s1 [.lst xs];have p3:=p1.gr g3;obtain⟨nn,nq⟩:=p1.ne;have em:mLst (zac (mBin addD (mVar 1) (mCon (.int 1))) (zac (mBin subD (mVar 1) (mCon (.int 1))) (zac (mNeg (mCon (.int 1))) (zac (mCon (.bl true)) (zac (mCon (.bl false)) (zac (zav strC (zac (mVar 1) (mNil))) (zac (mBin powB (mCon (.int 10)) (mCon (.int 30))) (mNil)))))))) [some (.ref n),some (.int i),none,none,none] s1=some (.ref s1.length,s1++[.lst xs]):=by
     subst hxs;simp[e1,e2,neg1]
   obtain⟨e,s4,e4,G⟩:=zfa (N:=7) em rfl p3 (zbh _ _) (AM nn) (AM nq) (by subst hxs;simp) (by decide) (by decide) (by
     intro x hx;subst hxs;simp only[AQ,AI,or_false] at hx
     rcases hx with rfl | rfl | rfl | rfl | rfl | rfl | rfl
     . exact .int _
     . exact .int _
     . exact .int _
     . exact .bl _
     . exact .bl _
     . refine .str _ ?_ fun c hc=>?_
       . have:=zjD h0 (by omega:i<=1000000);rw[len_list] at this;omega
       . have:=zjE h0 c hc;omega
     . exact .int _)
   refine⟨e,s4,zb2 ?_,⟨G.fit,G.pot,f1.trans ((FrB.of g3).trans G.fr)⟩⟩;show zaC [some (.ref n),some (.int i),none,none,none] st=_;unfold zaC;refine zas sA ?_;refine zas (ρ1:=[some (.ref n),some (.int i),none,none,none]) (s1:=st) (by
     rw[zbw,zaw,zaO,za5];simp[tt,subT]) ?_
   refine zbs ?_;have eA:mTst (mIsi "int" (mVar 1)) [some (.ref n),some (.int i),none,none,none] st=some (true,st):=by simp[tt,subT]
   rw[zbw,zaw,eA];simp only[Ac,if_true,ec];rw[za0,e4];rfl
 | false =>
   obtain⟨e,s4,e4,G⟩:=zjJ (ρ:=[some (.ref n),some (.int i),none,none,none]) rfl p1;refine⟨e,s4,zb2 ?_,⟨G.fit,G.pot,f1.trans G.fr⟩⟩;show zaC [some (.ref n),some (.int i),none,none,none] st=_;unfold zaC;refine zas sA ?_;refine zas (ρ1:=[some (.ref n),some (.int i),none,none,none]) (s1:=st) (by
     rw[zbw,zaw,zaO,za5];simp[tt,subT]) ?_
   have eA:mTst (mIsi "int" (mVar 1)) [some (.ref n),some (.int i),none,none,none] st=some (true,st):=by simp[tt,subT]
   refine zas (ρ1:=[some (.ref n),some (.int i),none,none,none]) (s1:=s1) (by
     rw[zbw,zaw,eA];simp only[Ac,if_true,ec]
     rfl) ?_
   exact e4
theorem zk6{z:Str}(hp:PotB n q st)(hz:TxOk z 10):∃ e st',zbn [.ref n,.str z] st=some (e,st')/\Got n q st e st':=by
 obtain⟨b,s1,ec,p1,f1⟩:=zfn (N:=2) (ρ:=[some (.ref n),some (.str z),none,none,none]) rfl hp (by decide) (by decide);have tt:∀ s,tyName s (.str z)=some "str":=fun _=>rfl;have hl:=hz.1;obtain⟨k,hk⟩:∃ k,z.cps.toList.length=k:=⟨_,rfl⟩
 have ez:∀ s:Sto,lenD [.str z] s=some (.int (k:Int),s):=fun s=>by rw[len_str (by omega),hk]
 have sA:mIf (ziv (mTst (mIsi "tuple" (mVar 1))) (mTst (mBin eqD (zav zae (zac (mVar 0) (zac (mCon (.int 2)) (mNil)))) (mCon (.int 0))))) (mRet (mBin ixA (mLst (zac (zav zfT (zac (mVar 1) (mNil))) (zac (mSlC (mVar 1) (zcw) (zcv (mNeg (mCon (.int 1))))) (zac (mBin addD (mVar 1) (mSlC (mVar 1) (zcw) (zcv (mCon (.int 1))))) (zac (mBin addD (mVar 1) (mTup (zac (mCon (.int 0)) (mNil)))) (zac (mTup (mNil)) (zac (zj7 (mVar 1) (mNeg (mCon (.int 1)))) (mNil)))))))) (zav zae (zac (mVar 0) (zac (mCon (.int 6)) (mNil)))))) (zcr) [some (.ref n),some (.str z),none,none,none] st=some (.nx [some (.ref n),some (.str z),none,none,none],st):=by
   rw[zbw,zaw,zaO,za5];simp[tt,subT]
 have eA:mTst (mIsi "str" (mVar 1)) [some (.ref n),some (.str z),none,none,none] st=some (true,st):=by simp[tt,subT]
 cases b with
 | true =>
   obtain⟨r2,s2,e2,r20,r21,p2,f2⟩:=zck (many:=11) p1 (by decide) (by decide);obtain⟨r3,s3,e3,r30,r31,p3,f3⟩:=zck (many:=(k:Int)+1) p2 (by omega) (by omega);obtain⟨c,hc,hcok⟩:∃ c,(("A-_ .\n~09az":Str)).cps[r2.toNat]?=some c/\c < 1114112:=by
     have h11:r2.toNat < 11:=by omega
     have all:∀ j:Nat,j < 11->∃ c,(("A-_ .\n~09az":Str)).cps[j]?=some c/\c < 1114112:=by
       intro j hj;have hs:(("A-_ .\n~09az":Str)).cps.size=11:=by decide +kernel
       refine⟨(("A-_ .\n~09az":Str)).cps[j]'(by rw[hs];exact hj),B2 _,?_⟩;have al:∀ c∈(("A-_ .\n~09az":Str)).cps.toList,c < 1114112:=by decide +kernel
       exact al _ (by simp)
     exact all _ h11
   have hsg:TxOk ⟨#[c]⟩ 1:=⟨by simp,fun x hx=>by
     have:x=c:=by simpa using hx
     subst this;exact hcok⟩
   have i2:ixA (.str "A-_ .\n~09az") (.int r2) s2=some (.str ⟨#[c]⟩,s2):=zjC (by decide +kernel) r20 hc;have t1:=TxOk.sl (lo:=none) (hi:=some r3) hz;have t2:=TxOk.sl (lo:=some r3) (hi:=none) hz;have t3:=TxOk.sl (lo:=some (r3+1)) (hi:=none) hz;have t4:=TxOk.sl (lo:=none) (hi:=some 1) hz;have t5:=TxOk.sl (lo:=some 1) (hi:=none) hz;have sl:∀ lo hi s,slC (.str z) lo hi s=some (.str (Bd z lo hi),s):=fun lo hi s=>zkp (by omega);generalize hxa:Bd z none (some r3)=xa at *;generalize hxb:Bd z (some r3) none=xb at *;generalize hxc:Bd z (some (r3+1)) none=xc at *;generalize hxd:Bd z none (some 1)=xd at *;generalize hxe:Bd z (some 1) none=xe at *;have a1:=t1.1;have a2:=t2.1;have a3:=t3.1;have a4:=t4.1;have as:=hsg.1;have m1:∀ s,addE (.str xa) (.str ⟨#[c]⟩) s=some (.str (xa++⟨#[c]⟩),s):=fun s=>zj3 (by omega);have u1:=t1.app hsg;have m2:∀ s,addD (.str (xa++⟨#[c]⟩)) (.str xb) s=some (.str (xa++⟨#[c]⟩++xb),s):=fun s=>add_str (by rw[len_list,len_list];have:=u1.1;omega);have m3:∀ s,addD (.str (xa++⟨#[c]⟩)) (.str xc) s=some (.str (xa++⟨#[c]⟩++xc),s):=fun s=>add_str (by rw[len_list,len_list];have:=u1.1;omega);have m4:∀ s,addD (.str z) (.str xd) s=some (.str (z++xd),s):=fun s=>add_str (by rw[len_list,len_list];omega);generalize hxs:[D.str (xa++⟨#[c]⟩++xb),.str (xa++⟨#[c]⟩++xc),.str (z++xd),.str xe]=xs;have g4:=Gr.app s3 [.lst xs];have p4:=p3.gr g4;have at4:=zbh s3 (.lst xs);generalize hs4:s3++[O.lst xs]=s4 at g4 p4 at4;have g5:=Gr.app s4 [.lst (signs z)];have p5:=p4.gr g5;have at5:=zbh s4 (.lst (signs z));obtain⟨nn4,nq4⟩:=p4.ne;have l5:=zhO (z:=z) (s:=s4) (by omega);generalize hs5:s4++[O.lst (signs z)]=s5 at g5 p5 at5 l5;have l6:∀ s,zeF [.str z] s=some (.tup (signs z),s):=fun s=>zf4 (by omega);have g6:=Gr.app s5 [.lst [.ref s4.length,.tup (signs z)]];have p6:=p5.gr g6;have at6:=zbh s5 (.lst [.ref s4.length,.tup (signs z)]);generalize hs6:s5++[O.lst [.ref s4.length,.tup (signs z)]]=s6 at g6 p6 at6;obtain⟨nn6,nq6⟩:=p6.ne;have at4':s6[s3.length]?=some (.lst xs):=(g6.old _ (Ao (getElem?_lt at4) g5.len)).trans ((g5.old _ (getElem?_lt at4)).trans at4);have hxl:xs.length=4:=by subst hxs;rfl
   have ad:=ziI at4' at6 (by rw[hxl];simp);have g7:=Gr.app s6 [.lst (xs++[.ref s4.length,.tup (signs z)])];have p7:=p6.gr g7;have blk1:mAsg (mBin ixA (mCon (.str "A-_ .\n~09az")) (zav zae (zac (mVar 0) (zac (mCon (.int 11)) (mNil))))) (gNm 2) [some (.ref n),some (.str z),none,none,none] s1=some (.nx [some (.ref n),some (.str z),some (.str ⟨#[c]⟩),none,none],s2):=by
     rw[zbj,zbc];have ev:zav zae (zac (mVar 0) (zac (mCon (.int 11)) (mNil))) [some (.ref n),some (.str z),none,none,none] s1=some (.int r2,s2):=by simp[e2]
     simp only[zbv,Ac,ev,i2];rfl
   have blk2:mAsg (zav zae (zac (mVar 0) (zac (mBin addD (zav lenD (zac (mVar 1) (mNil))) (mCon (.int 1))) (mNil)))) (gNm 3) [some (.ref n),some (.str z),some (.str ⟨#[c]⟩),none,none] s2=some (.nx [some (.ref n),some (.str z),some (.str ⟨#[c]⟩),some (.int r3),none],s3):=by
     simp[ez,e3]
   have blk3:mAsg (mLst (zac (mBin addD (mBin addE (mSlC (mVar 1) (zcw) (zcv (mVar 3))) (mVar 2)) (mSlC (mVar 1) (zcv (mVar 3)) (zcw))) (zac (mBin addD (mBin addE (mSlC (mVar 1) (zcw) (zcv (mVar 3))) (mVar 2)) (mSlC (mVar 1) (zcv (mBin addD (mVar 3) (mCon (.int 1)))) (zcw))) (zac (mBin addD (mVar 1) (mSlC (mVar 1) (zcw) (zcv (mCon (.int 1))))) (zac (mSlC (mVar 1) (zcv (mCon (.int 1))) (zcw)) (mNil)))))) (gNm 4) [some (.ref n),some (.str z),some (.str ⟨#[c]⟩),some (.int r3),none] s3=some (.nx [some (.ref n),some (.str z),some (.str ⟨#[c]⟩),some (.int r3),some (.ref s3.length)],s4):=by
     rw[<-hs4];subst hxs;simp[zjY,sl,hxa,hxb,hxc,hxd,hxe,m1,m2,m3,m4]
   have em:mBin addD (mVar 4) (mLst (zac (zav zfT (zac (mVar 1) (mNil))) (zac (zav zeF (zac (mVar 1) (mNil))) (mNil)))) [some (.ref n),some (.str z),some (.str ⟨#[c]⟩),some (.int r3),some (.ref s3.length)] s4=some (.ref s6.length,s6++[.lst (xs++[.ref s4.length,.tup (signs z)])]):=by
     have em1:mLst (zac (zav zfT (zac (mVar 1) (mNil))) (zac (zav zeF (zac (mVar 1) (mNil))) (mNil))) [some (.ref n),some (.str z),some (.str ⟨#[c]⟩),some (.int r3),some (.ref s3.length)] s4=some (.ref s5.length,s6):=by
       rw[<-hs6];simp[l5,l6]
     have ev:mVar 4 [some (.ref n),some (.str z),some (.str ⟨#[c]⟩),some (.int r3),some (.ref s3.length)] s4=some (.ref s3.length,s4):=rfl;rw[zbc,ev];simp only[Ac,em1];exact ad
   obtain⟨e,s8,e8,G⟩:=zfa (N:=6) em rfl p7 (zbh _ _) (AM nn6) (AM nq6) (by rw[AA,hxl];rfl) (by decide) (by decide) (by
     intro x hx;subst hxs;simp only[Ec,B3,AQ,AI,or_false] at hx
     rcases hx with rfl | rfl | rfl | rfl | rfl | rfl
     . exact (u1.app t2).fit (by decide)
     . exact (u1.app t3).fit (by decide)
     . exact (hz.app t4).fit (by decide)
     . exact t5.fit (by decide)
     . exact .lst _ _ ((g7.old _ (Ao (getElem?_lt at5) g6.len)).trans ((g6.old _ (getElem?_lt at5)).trans at5)) (AM nn4) (AM nq4)
     . refine .tup _ (by rw[<-zdh,<-Ar];omega) fun d hd=>?_;unfold signs at hd;obtain⟨y,hy,rfl⟩:=List.mem_map.mp hd;refine .str _ (by simp) fun x hx=>?_;have:x=y:=by simpa using hx
       subst this;exact hz.2 _ hy)
   refine⟨e,s8,zb2 ?_,⟨G.fit,G.pot,((f1.trans f2).trans (f3.trans (FrB.of g4))).trans (((FrB.of g5).trans (FrB.of g6)).trans ((FrB.of g7).trans G.fr))⟩⟩;show zaC [some (.ref n),some (.str z),none,none,none] st=_;unfold zaC;refine zas sA ?_;refine zbs ?_;rw[zbw,zaw,eA];simp only[Ac,if_true,ec];refine zas blk1 ?_;refine zas blk2 ?_;refine zas blk3 ?_;rw[za0,e8];rfl
 | false =>
   obtain⟨e,s4,e4,G⟩:=zjJ (ρ:=[some (.ref n),some (.str z),none,none,none]) rfl p1;refine⟨e,s4,zb2 ?_,⟨G.fit,G.pot,f1.trans G.fr⟩⟩;show zaC [some (.ref n),some (.str z),none,none,none] st=_;unfold zaC;refine zas sA ?_;refine zas (ρ1:=[some (.ref n),some (.str z),none,none,none]) (s1:=s1) (by
     rw[zbw,zaw,eA];simp only[Ac,if_true,ec]
     rfl) ?_
   refine zas (ρ1:=[some (.ref n),some (.str z),none,none,none]) (s1:=s1) (by
     rw[zbw,zaw,zaO,za5];simp[tt,subT]) ?_
   exact e4
end
theorem zj2:∀ c∈zcs.cps.toList,c < 1114112:=by decide +kernel
inductive Pl:Nat->D->Prop
 | int (k:Nat) (i:Int) (h0:0<=i) (h1:i<=1000):Pl k (.int i)
 | str (k:Nat) (z:Str) (h:TxOk z 10):Pl k (.str z)
 | tup (k:Nat) (ds:List D) (hne:ds≠[]) (hl:ds.length<=10) (f:∀ d∈ds,Pl k d):Pl (k+1) (.tup ds)
theorem Pl.fit{n q k:Nat}{d:D}(h:Pl k d):∀ st,Fit n q st d:=by
 induction h with
 | int k i h0 h1=>exact fun st=>.int i
 | str k z h=>exact fun st=>h.fit (by decide)
 | tup k ds hne hl f ih=>exact fun st=>.tup ds (by omega) fun d hd=>ih d hd st
theorem zdO{f:D->Option PyData}:∀ ds:List D,(∀ d∈ds,∃ p,f d=some p)->∃ ps,toPs f ds=some ps/\ps.length=ds.length
 | [],_=>⟨[],rfl,rfl⟩
 | d::ds,h=>by
   obtain⟨p,e⟩:=h d Au;obtain⟨ps,e2,hl⟩:=zdO ds fun x hx=>h x (Am _ hx);refine⟨p::ps,?_,by simp[hl]⟩;rw[toPs,e,Ac,e2];rfl
theorem Pl.toP{k:Nat}{d:D}{st:Sto}(h:Pl k d):∀ N,k < N->∃ p,toP N st d=some p:=by
 induction h with
 | int k i h0 h1=>intro N hN;obtain⟨M,rfl⟩:∃ M,N=M+1:=⟨N - 1,by omega⟩;exact⟨_,rfl⟩
 | str k z h =>
   intro N hN;obtain⟨M,rfl⟩:∃ M,N=M+1:=⟨N - 1,by omega⟩
   have:BR z=true:=by
     unfold BR;rw[Array.all_eq_true'];intro c hc;have:=h.2 c (by simpa using hc);simp;exact this
   exact⟨.str z,by rw[L2.MP.toP];simp[this]⟩
 | tup k ds hne hl f ih =>
   intro N hN;obtain⟨M,rfl⟩:∃ M,N=M+1:=⟨N - 1,by omega⟩
   obtain⟨ps,e,_⟩:=zdO (f:=L2.MP.toP M st) ds fun d hd=>ih d hd M (by omega);exact⟨.tuple ps,by rw[L2.MP.toP];simp[e]⟩
theorem zlk{k:Nat}{ds:List D}{st:Sto}(h:Pl k (.tup ds))(hk:k < 50):eqD (.tup ds) (.tup []) st=some (.bl false,st):=by
 cases h with
 | tup k ds hne hl f =>
   obtain⟨ps,e,hlen⟩:=zdO (f:=toP 99 st) ds fun d hd=>(f d hd).toP 99 (by omega);have e1:toP 100 st (.tup ds)=some (.tuple ps):=by rw[toP];simp[e]
   have e2:toP 100 st (.tup [])=some (.tuple []):=rfl;unfold eqD;rw[e1,e2]
   cases ps with
   | nil =>
     cases ds with
     | nil=>exact absurd rfl hne
     | cons a b=>simp at hlen
   | cons a b=>rfl
section
variable {n q:Nat}
theorem zjn{k:Nat}{d:D}{st:Sto}(hp:PotB n q st)(h:Pl k d):∃ e st',zbn [.ref n,d] st=some (e,st')/\Got n q st e st':=by
 cases h with
 | int k i h0 h1=>exact zk7 hp h0 h1
 | str k z h=>exact zk6 hp h
 | tup k ds hne hl f=>exact zk5 hp hne hl fun d hd s=>(f d hd).fit s
theorem zjg:∀ (k:Nat) (d:D) (j:Nat) (st:Sto),Pl k d->k < j->k < 50->PotB n q st->∃ e st',recG 3 zaj j [.ref n,d] st=some (e,st')/\Got n q st e st':=by
 intro k
 induction k with
 | zero =>
   intro d j st h hj hk hp;obtain⟨i,rfl⟩:∃ i,j=i+1:=⟨j - 1,by omega⟩
   obtain⟨e,s1,e1,G⟩:=zjn hp h;have ht:∃ ty,tyName st d=some ty/\subT ty "tuple"=false:=by
     cases h with
     | int k i h0 h1=>exact⟨"int",rfl,by simp[subT]⟩
     | str k z h=>exact⟨"str",rfl,by simp[subT]⟩
   obtain⟨ty,y1,y2⟩:=ht;refine⟨e,s1,zb2 ?_,G⟩;show zaj _ [some (.ref n),some d,none] st=_;unfold zaj;refine zbs ?_;simp[y1,y2,e1]
 | succ k ih =>
   intro d j st h hj hk hp;obtain⟨i,rfl⟩:∃ i,j=i+1:=⟨j - 1,by omega⟩
   cases hi:istB d with
   | false =>
     obtain⟨e,s1,e1,G⟩:=zjn hp h;obtain⟨ty,y1,y2,_⟩:=zig (h.fit (n:=n) (q:=q) st);rw[hi] at y2;refine⟨e,s1,zb2 ?_,G⟩;show zaj _ [some (.ref n),some d,none] st=_;unfold zaj;refine zbs ?_;simp[y1,y2,e1]
   | true =>
     have h':=h
     cases h with
     | tup k ds hne hl f =>
       have tt:tyName st (.tup ds)=some "tuple":=rfl;have eu:=zlk (st:=st) h' hk;obtain⟨b,s1,ec,p1,f1⟩:=zfn (N:=5) (ρ:=[some (.ref n),some (.tup ds),none]) rfl hp (by decide) (by decide);have test:mOrT (zcI (mTst (mIsi "tuple" (mVar 1)))) (mOrT (mTst (mBin eqD (mVar 1) (mTup (mNil)))) (mTst (mBin eqD (zav zae (zac (mVar 0) (zac (mCon (.int 5)) (mNil)))) (mCon (.int 0))))) [some (.ref n),some (.tup ds),none] st=some (b,s1):=by
         have q1:zcI (mTst (mIsi "tuple" (mVar 1))) [some (.ref n),some (.tup ds),none] st=some (false,st):=by simp[tt,subT]
         have q2:mTst (mBin eqD (mVar 1) (mTup (mNil))) [some (.ref n),some (.tup ds),none] st=some (false,st):=by simp[eu]
         rw[za4,q1];simp only[Ac,A1,if_false];rw[za4,q2];simp only[Ac,A1,if_false];exact ec
       cases b with
       | true =>
         obtain⟨e,s2,e2,G⟩:=zjn p1 h';refine⟨e,s2,zb2 ?_,⟨G.fit,G.pot,f1.trans G.fr⟩⟩;show zaj _ [some (.ref n),some (.tup ds),none] st=_;unfold zaj;refine zbs ?_;rw[zbw,test];simp[e2]
       | false =>
         have hlp:0 < ds.length:=List.length_pos_iff.mpr hne;obtain⟨r,s2,e2,r0,r1,p2,f2⟩:=zck (many:=(ds.length:Int)) p1 (by omega) (by omega);have hr:r.toNat < ds.length:=by omega
         have hget:ds[r.toNat]?=some ds[r.toNat]:=AW hr;obtain⟨e,s3,e3,G⟩:=ih ds[r.toNat] i s2 (f _ (Df hr)) (by omega) (by omega) p2;have ix:ixA (.tup ds) (.int r) s2=some (ds[r.toNat],s2):=zcX r0 hget;generalize ds[r.toNat]=dr at e3 ix;have l1:=zeg (ds:=ds) (lo:=none) (hi:=some r);have l2:=zeg (ds:=ds) (lo:=some (r+1)) (hi:=none);have a1:∀ s,addE (.tup (slT ds none (some r))) (.tup [e]) s=some (.tup (slT ds none (some r)++[e]),s):=fun s=>zg9 (by simp;omega);have a2:∀ s,addD (.tup (slT ds none (some r)++[e])) (.tup (slT ds (some (r+1)) none)) s=some (.tup (slT ds none (some r)++[e]++slT ds (some (r+1)) none),s):=fun s=>zey (by simp) (by simp;omega);refine⟨.tup (slT ds none (some r)++[e]++slT ds (some (r+1)) none),s3,zb2 ?_,⟨?_,G.pot,(f1.trans f2).trans G.fr⟩⟩
         . show zaj (recG 3 zaj i) [some (.ref n),some (.tup ds),none] st=_;generalize recG 3 zaj i=g at e3;unfold zaj;refine zas (ρ1:=[some (.ref n),some (.tup ds),none]) (s1:=s1) (by rw[zbw,test];rfl) ?_;have el:lenD [.tup ds] s1=some (.int (ds.length:Int),s1):=zcy;refine zas (ρ1:=[some (.ref n),some (.tup ds),some (.int r)]) (s1:=s2) (by
             have ev:zav zae (zac (mVar 0) (zac (zav lenD (zac (mVar 1) (mNil))) (mNil))) [some (.ref n),some (.tup ds),none] s1=some (.int r,s2):=by
               simp only[zaL,zaI,zbm,zbb,Bn,Bo,Ac,el,e2]
             rw[zbj,ev]
             rfl) ?_
           simp[zjY,zik,ix,e3,a1,a2]
         . refine .tup _ (by simp;omega) fun d hd=>?_
           rcases List.mem_append.mp hd with hd | hd
           . rcases List.mem_append.mp hd with hd | hd
             . exact (f d (ze8 hd)).fit _
             . rw[List.mem_singleton.mp hd];exact G.fit
           . exact (f d (ze8 hd)).fit _
     | _=>simp[istB] at hi
theorem zlF{z:Str}{T:Tab}{k:Nat}(hz:LetOk z k)(hk1:1<=k)(hk:k<=10)(h:TabOk z T)(hT:T.length<=4):Pl 4 (wkD z T):=by
 have hzl:=hz.len;have tz:TxOk z 10:=⟨by omega,fun c hc=>zj2 c (hz.mem c hc)⟩
 have hlo:=h.lo;refine .tup 3 _ (by simp) (by simp) fun d hd=>?_;simp only[AQ,AI,or_false] at hd
 rcases hd with rfl | rfl
 . exact .str 3 z tz
 . refine .tup 2 _ (by intro e;rw[DN] at e;rw[e] at hlo;simp at hlo) (by rw[Aq];omega) fun d hd=>?_;obtain⟨r,hr,rfl⟩:=List.mem_map.mp hd;obtain⟨rl,rm⟩:=h.row r hr;refine .tup 1 _ (by intro e;rw[DN] at e;rw[e] at rl;have:(0:Nat)=z.cps.toList.length:=rl;omega) (by rw[Aq];omega) fun d hd=>?_;obtain⟨p,hp,rfl⟩:=List.mem_map.mp hd;obtain⟨q1,q2⟩:=rm p hp;refine .tup 0 _ (by simp) (by simp) fun d hd=>?_;simp only[AQ,AI,or_false] at hd
   rcases hd with rfl | rfl
   . exact .int 0 _ (by omega) (by omega)
   . exact .int 0 _ (by omega) (by omega)
theorem zke{z:Str}{T:Tab}{k:Nat}(hz:LetOk z k)(hk1:1<=k)(hk:k<=10)(h:TabOk z T)(hT:T.length<=4):zcT (wkD z T)=true:=by
 have hzl:=hz.len;have hlo:=h.lo;have h1:letB (.str z)=true:=by
   show (decide (1<=z.cps.toList.length)&&decide (z.cps.toList.length<=10)&&z.cps.toList.all (fun c=>decide (c∈zcs.cps.toList))&&decide z.cps.toList.Nodup)=true;rw[hzl,decide_eq_true hk1,decide_eq_true hk,decide_eq_true hz.nd,Ex,A6,A6,BF];exact fun c hc=>decide_eq_true (hz.mem c hc)
 have h2:tabB (slen (.str z)) (.tup (T.map rowD))=true:=by
   show (decide (1<=(T.map rowD).length)&&decide ((T.map rowD).length<=4)&&(T.map rowD).all (zb7 ((z.cps.toList.length:Nat):Int) ((T.map rowD).length:Int)))=true;rw[Aq,decide_eq_true hlo,decide_eq_true hT,A6,A6,Dg,BF];intro r hr;obtain⟨rl,rm⟩:=h.row r hr;show (((r.map pD).length:Int)==((z.cps.toList.length:Nat):Int)&&(r.map pD).all (ze6 ((z.cps.toList.length:Nat):Int) (T.length:Int)))=true;rw[Aq,rl,beq_self_eq_true,A6,Dg,BF];intro p hp;obtain⟨q1,q2⟩:=rm p hp;show (decide ((0:Int)<=(p.1:Int))&&decide ((p.1:Int)<=((z.cps.toList.length:Nat):Int) - 1)&&(decide ((0:Int)<=(p.2:Int))&&decide ((p.2:Int)<=(T.length:Int) - 1)))=true;rw[decide_eq_true (by omega),decide_eq_true (by omega),decide_eq_true (by omega),decide_eq_true (by omega)];rfl
 show (letB (.str z)&&tabB (slen (.str z)) (.tup (T.map rowD)))=true;rw[h1,h2];rfl
end
theorem zk8(b:Bool)(st:Sto):neD (.bl b) (.bl b) st=some (.bl false,st):=by cases b <;> rfl
theorem zeT{ds:List D}{N:Int}{st:Sto}(h0:ds≠[])(h1:1<=N)(h2:N<=1000)(h3:ds.length*N.toNat<=1000):mulU (.tup ds) (.int N) st=some (.tup (Av N.toNat ds).flatten,st):=by
 have e:mulA (.tup ds) (.int N) st=none:=rfl;have he:ds.isEmpty=false:=by
   cases ds with
   | nil=>exact absurd rfl h0
   | cons a b=>rfl
 unfold mulU orG;rw[e,zb8];unfold zly;dsimp only;rw[decide_eq_true h1,decide_eq_true h2,decide_eq_true h3,he];rfl
section
variable {n q:Nat} {z:Str} {T:Tab} {k:Nat}
theorem zkf{s:Sto}{a0 a2 a4 a5 a6 a7 a8 a9:Option D}(hp:PotB n q s)(hz:LetOk z k)(hk1:1<=k)(hk:k<=10)(h:TabOk z T)(hT:T.length<=4) :
   ∃ b5 b6 s',zez [a0,some (.ref n),a2,some (wkD z T),a4,a5,a6,a7,a8,a9] s=some (.nx [a0,some (.ref n),a2,some (wkD z T),a4,b5,b6,a7,a8,a9],s')/\PotB n q s'/\FrB n q s s':=by
 obtain⟨e,s1,e1,G⟩:=zjg (n:=n) (q:=q) 4 (wkD z T) 12 s (zlF hz hk1 hk h hT) (by decide) (by decide) hp;have e1':za9 [.ref n,wkD z T] s=some (e,s1):=e1;obtain⟨s2,e2,g2⟩:=zdf G.fit;obtain⟨s3,e3,g3⟩:=zgD (G.fit.gr g2);obtain⟨s4,e4,g4⟩:=zdf ((zlF hz hk1 hk h hT).fit (n:=n) (q:=q) s3);rw[zke hz hk1 hk h hT] at e4;refine⟨some e,some (.bl (zcT e)),s4,?_,(G.pot.gr g2).gr (g3.trans g4),G.fr.trans (FrB.of (g2.trans (g3.trans g4)))⟩;generalize wkD z T=wk at *;unfold zez;refine zas (ρ1:=[a0,some (.ref n),a2,some wk,a4,some e,a6,a7,a8,a9]) (s1:=s1) (by simp[e1']) ?_;refine zas (ρ1:=[a0,some (.ref n),a2,some wk,a4,some e,some (.bl (zcT e)),a7,a8,a9]) (s1:=s2) (by simp[e2]) ?_;have n1:=zk8 (zcT e) s3;generalize zcT e=b at *;have nb:zmy (.bl true) (.bl true) s4=some (.bl false,s4):=rfl;simp[zlt,subT,e3,n1,e4,nb]
theorem ziM{s:Sto}{a0 a2 a4 a5 a6 a7 a8 a9:Option D}(hp:PotB n q s)(hz:LetOk z k)(hk1:1<=k)(hk:k<=10)(h:TabOk z T)(hT:T.length<=4) :
   ∃ b4 b5 b6 s',mFor (mR1 (mCon (.int 12))) (gNm 4) (zez) [a0,some (.ref n),a2,some (wkD z T),a4,a5,a6,a7,a8,a9] s=some (.nx [a0,some (.ref n),a2,some (wkD z T),b4,b5,b6,a7,a8,a9],s')/\PotB n q s'/\FrB n q s s':=by
 have key:=zeq (W:=⟨run 0 12,[]⟩) (g:=gNm 4) (m:=zez) (ds:=run 0 12) (ρ:=[a0,some (.ref n),a2,some (wkD z T),a4,a5,a6,a7,a8,a9]) (st:=s)
   (Inv:=fun i ρ s'=>(∃ x y w,ρ=[a0,some (.ref n),a2,some (wkD z T),x,y,w,a7,a8,a9])/\PotB n q s'/\FrB n q s s') ⟨⟨_,_,_,rfl⟩,hp,FrB.refl _ _ _⟩ (fun _ _ _ _ _=>rfl) (fun i d ρ s' hd hI=>by
     obtain⟨⟨x,y,w,rfl⟩,p1,f1⟩:=hI;obtain⟨b5,b6,s2,e2,p2,f2⟩:=zkf (a0:=a0) (a2:=a2) (a4:=some d) (a5:=y) (a6:=w) (a7:=a7) (a8:=a8) (a9:=a9) p1 hz hk1 hk h hT;exact⟨[a0,some (.ref n),a2,some (wkD z T),some d,y,w,a7,a8,a9],s',_,s2,rfl,e2,⟨_,_,_,rfl⟩,p2,f1.trans f2⟩)
 obtain⟨ρ',s',el,⟨x,y,w,rfl⟩,p1,f1⟩:=key;exact⟨x,y,w,s',zgP (k:=12) (by simp) (by decide) el,p1,f1⟩
noncomputable def two:D:=.tup [.tup [.int 0,.int 0],.tup [.int 1,.int 0]]
noncomputable def z11:List D:=(Av 11 [D.tup [.int 0,.int 0]]).flatten
noncomputable def t5:List D:=(Av 5 [two]).flatten
theorem zmR:fits 10=true:=zat (by decide)
theorem no2:zcT (.tup [.str "abcdefghijk",.tup [.tup z11]])=false:=by decide +kernel
theorem no3:zcT (.tup [.str "ab",.tup t5])=false:=by decide +kernel
theorem no4:zcT (.tup [.str "aa",.tup [two]])=false:=by decide +kernel
theorem no5:zcT (.tup [.str "ab",two])=false:=by decide +kernel
theorem no6:zcT (.tup [.str "",.tup [.tup []]])=false:=by decide +kernel
theorem no7:zcT (.tup [.str "a",.tup []])=false:=by decide +kernel
theorem yes1:zcT (.tup [.str "z",.tup [.tup [.tup [.int 0,.int 0]]]])=true:=by decide +kernel
theorem zap{s:Sto}{d:D}{ds:List D}(h:Fit n q s d)(hs:Fit n q s (.tup ds))(hl:ds.length < 100):Fit n q s (.tup (d::ds)):=.tup _ (by simp;omega) fun x hx=>by
 rcases List.mem_cons.mp hx with rfl | hx
 . exact h
 . exact hs.at x hx
theorem zaX{s:Sto}:Fit n q s (.tup []):=.tup _ (by decide) (by simp)
theorem zjI{s:Sto}:Fit n q s (.tup [.int 0,.int 0]):=zap (.int 0) (zap (.int 0) zaX (by decide)) (by decide)
theorem zgR{s:Sto}:Fit n q s two:=zap zjI (zap (zap (.int 1) (zap (.int 0) zaX (by decide)) (by decide)) zaX (by decide)) (by decide)
theorem zli{s:Sto}:Fit n q s (.tup z11):=.tup _ (by decide) fun d hd=>by
 have:d=.tup [.int 0,.int 0]:=by
   unfold z11 at hd;simp at hd;exact hd
 rw[this];exact zjI
theorem zmS{s:Sto}:Fit n q s (.tup t5):=.tup _ (by decide) fun d hd=>by
 have:d=two:=by
   unfold t5 at hd;simp at hd;exact hd
 rw[this];exact zgR
theorem zcO{s:Sto}(x:Str)(h:x.cps.toList.length<=100/\∀ c∈x.cps.toList,c < 1114112):Fit n q s (.str x):=.str x h.1 h.2
theorem zhh{s:Sto}{a0 a2 a3 a4 a5 a6 a7 a8 a9:Option D}(hp:PotB n q s) :
   ∃ b3 b4 b5 b6 b7 b8 b9 s',zfv [a0,some (.ref n),a2,a3,a4,a5,a6,a7,a8,a9] s=some (.nx [a0,some (.ref n),a2,b3,b4,b5,b6,b7,b8,b9],s')/\PotB n q s'/\FrB n q s s':=by
 obtain⟨z,T,k,s1,e1,hz,hk1,hk,h,hT,p1,f1⟩:=zhg hp;obtain⟨b4,b5,b6,s2,e2,p2,f2⟩:=ziM (a0:=a0) (a2:=a2) (a4:=a4) (a5:=a5) (a6:=a6) (a7:=a7) (a8:=a8) (a9:=a9) p1 hz hk1 hk h hT;have pl:=zlF hz hk1 hk h hT;have hlo:=h.lo;have fz:∀ s,Fit n q s (.str z):=fun s=>by
   cases pl with
   | tup k ds hne hl f=>exact (f (.str z) (by simp)).fit s
 have frow:∀ d∈T.map rowD,∀ s,Fit n q s d:=fun d hd s=>by
   cases pl with
   | tup k ds hne hl f=>exact ((f (.tup (T.map rowD)) (by simp)).fit (n:=n) (q:=q) s).at d hd
 obtain⟨r0,hr0⟩:∃ r0,T[0]?=some r0:=⟨T[0],AW (by omega)⟩
 have hr0m:rowD r0∈T.map rowD:=List.mem_map_of_mem (BC hr0);obtain⟨m,hm⟩:∃ m,T.length=m:=⟨_,rfl⟩
 have eT:∀ s:Sto,lenD [.tup (T.map rowD)] s=some (.int (m:Int),s):=fun s=>by rw[zcy,Aq,hm]
 have i0:∀ s:Sto,ixA (.tup (T.map rowD)) (.int 0) s=some (rowD r0,s):=fun s=>zmI hr0;have mul1:∀ s:Sto,mulU (.tup [rowD r0]) (.int (5 - (m:Int))) s=some (.tup (Av (5 - (m:Int)).toNat [rowD r0]).flatten,s):=fun s=>zeT (by simp) (by omega) (by omega) (by simp;omega);have repl:(Av (5 - (m:Int)).toNat [rowD r0]).flatten.length=5 - m:=by
   rw[CG,CO,Ck];simp
 have repm:∀ d∈(Av (5 - (m:Int)).toNat [rowD r0]).flatten,d=rowD r0:=fun d hd=>by
   obtain⟨l,hl,hd⟩:=List.mem_flatten.mp hd;rw[(List.mem_replicate.mp hl).2] at hd;exact List.mem_singleton.mp hd
 generalize (Av (5 - (m:Int)).toNat [rowD r0]).flatten=rep at *;have add1:∀ s:Sto,addE (.tup (T.map rowD)) (.tup rep) s=some (.tup (T.map rowD++rep),s):=fun s=>zg9 (by rw[Aq];omega);have mul2:∀ s:Sto,mulU (.tup [.tup [.int 0,.int 0]]) (.int 11) s=some (.tup z11,s):=fun s=>zeT (by simp) (by decide) (by decide) (by decide);have mul3:∀ s:Sto,mulU (.tup [two]) (.int 5) s=some (.tup t5,s):=fun s=>zeT (by simp) (by decide) (by decide) (by decide);have add2:∀ s:Sto,addD (wkD z T) (.tup [.tup []]) s=some (.tup [.str z,.tup (T.map rowD),.tup []],s):=fun s=>zey (by simp) (by simp);generalize hX1:[D.tup [.str z,.tup (T.map rowD++rep)],.tup [.str "abcdefghijk",.tup [.tup z11]],.tup [.str "ab",.tup t5],.tup [.str "aa",.tup [two]],.tup [.str "ab",two]]=X1;have hX1l:X1.length=5:=by subst hX1;rfl
 have g3:=Gr.app s2 [.lst X1];have p3:=p2.gr g3;have at3:=zbh s2 (.lst X1);generalize hs3:s2++[O.lst X1]=s3 at g3 p3 at3;obtain⟨nn3,nq3⟩:=p3.ne;have g4:=Gr.app s3 [.lst []];have p4:=p3.gr g4;have at4:=zbh s3 (.lst []);generalize hs4:s3++[O.lst []]=s4 at g4 p4 at4;generalize hX2:[D.tup [wkD z T],.tup [.str z,.tup (T.map rowD),.tup []],.tup [.tup (T.map rowD),.str z],.tup [.str "",.tup [.tup []]],.tup [.str "a",.tup []],.non,.str "a",.int 5,.ref s3.length,.tup []]=X2;have hX2l:X2.length=10:=by subst hX2;rfl
 have g5:=Gr.app s4 [.lst X2];have p5:=p4.gr g5;have at5:=zbh s4 (.lst X2);generalize hs5:s4++[O.lst X2]=s5 at g5 p5 at5;have at3':s5[s2.length]?=some (.lst X1):=(g5.old _ (Ao (getElem?_lt at3) g4.len)).trans ((g4.old _ (getElem?_lt at3)).trans at3);have ad:=ziI at3' at5 (by rw[hX1l,hX2l];decide);have g6:=Gr.app s5 [.lst (X1++X2)];have p6:=p5.gr g6;have at6:=zbh s5 (.lst (X1++X2));generalize hs6:s5++[O.lst (X1++X2)]=s6 at g6 p6 at6;have at4':s6[s3.length]?=some (.lst []):=(g6.old _ (Ao (getElem?_lt at4) g5.len)).trans ((g5.old _ (getElem?_lt at4)).trans at4);rw[hs6] at ad;have fits_:∀ x∈X1++X2,Fit n q s6 x/\zcT x=false:=by
   intro x hx;have frows:Fit n q s6 (.tup (T.map rowD)):=.tup _ (by rw[Aq];omega) fun d hd=>frow d hd _;subst hX1;subst hX2;simp only[Ec,B3,AQ,AI,or_false] at hx
   rcases hx with rfl | rfl | rfl | rfl | rfl | rfl | rfl | rfl | rfl | rfl | rfl | rfl | rfl | rfl | rfl
   . refine⟨zap (fz _) (zap (zgS (fun d hd=>frow d hd _) (fun d hd=>by rw[repm d hd];exact frow _ hr0m _) (by rw[Aq];omega)) zaX (by simp)) (by simp),?_⟩;show (letB (.str z)&&(decide (1<=(T.map rowD++rep).length)&&decide ((T.map rowD++rep).length<=4)&&(T.map rowD++rep).all _))=false;have:¬ ((T.map rowD++rep).length<=4):=by rw[AA,Aq];omega
     rw[decide_eq_false this,DA,Bq,DA]
   . exact⟨zap (zcO _ (by decide +kernel)) (zap (zap zli zaX (by simp)) zaX (by simp)) (by simp),no2⟩
   . exact⟨zap (zcO _ (by decide +kernel)) (zap zmS zaX (by simp)) (by simp),no3⟩
   . exact⟨zap (zcO _ (by decide +kernel)) (zap (zap zgR zaX (by simp)) zaX (by simp)) (by simp),no4⟩
   . exact⟨zap (zcO _ (by decide +kernel)) (zap zgR zaX (by simp)) (by simp),no5⟩
   . exact⟨zap (pl.fit _) zaX (by simp),rfl⟩
   . exact⟨zap (fz _) (zap frows (zap zaX zaX (by simp)) (by simp)) (by simp),rfl⟩
   . exact⟨zap frows (zap (fz _) zaX (by simp)) (by simp),rfl⟩
   . exact⟨zap (zcO _ (by decide +kernel)) (zap (zap zaX zaX (by simp)) zaX (by simp)) (by simp),no6⟩
   . exact⟨zap (zcO _ (by decide +kernel)) (zap zaX zaX (by simp)) (by simp),no7⟩
   . exact⟨.non,rfl⟩
   . exact⟨zcO _ (by decide +kernel),rfl⟩
   . exact⟨.int 5,rfl⟩
   . exact⟨.lst _ _ at4' (AM nn3) (AM nq3),rfl⟩
   . exact⟨zaX,rfl⟩
 obtain⟨s7,e7,g7⟩:=zdA (mi:=mWA (mVar 9)) (b:=fun x=>!zcT x) (as:=X1++X2) (fr:=[]) (m:=zhc) (ρ0:=[]) (ρ:=[a0,some (.ref n),a2,some (wkD z T),b4,b5,b6,some (.tup [.str z,.tup (T.map rowD++rep)]),some two,some (.ref s5.length)]) (st:=s6) (gd:=[(s5.length,X1++X2)])
   (by
     rw[zlq];have ev:mVar 9 [a0,some (.ref n),a2,some (wkD z T),b4,b5,b6,some (.tup [.str z,.tup (T.map rowD++rep)]),some two,some (.ref s5.length)] s6=some (.ref s5.length,s6):=rfl;rw[ev,Ac];have ew:zif (.ref s5.length) s6=some (⟨X1++X2,[(s5.length,X1++X2)]⟩,s6):=by simp[zif,zcd,at6]
     simp only[ew,zca]) (fun s g=>zdn ((g.old _ (getElem?_lt at6)).trans at6)) rfl (by rw[AA,hX1l,hX2l];decide) (fun x hx s g=>by
     obtain⟨s8,e8,g8⟩:=zdf ((fits_ x hx).1.gr g);refine⟨s8,?_,g8⟩;have ib:=zm5 (st:=s8) (zcT x) false;have eb:(zcT x==false)=!zcT x:=by cases zcT x <;> rfl
     rw[eb] at ib;unfold zhc;simp[e8,ib])
 have hall:(X1++X2).all (fun x=>!zcT x)=true:=by
   rw[BF];intro x hx;rw[(fits_ x hx).2];rfl
 rw[hall] at e7;refine⟨some (wkD z T),b4,b5,b6,some (.tup [.str z,.tup (T.map rowD++rep)]),some two,some (.ref s5.length),s7,?_,p6.gr g7,(f1.trans f2).trans (FrB.of ((g3.trans g4).trans ((g5.trans g6).trans g7)))⟩;unfold zfv;refine zas (ρ1:=[a0,some (.ref n),a2,some (wkD z T),a4,a5,a6,a7,a8,a9]) (s1:=s1) (by simp[e1]) ?_;refine zas e2 ?_;refine zas (ρ1:=[a0,some (.ref n),a2,some (wkD z T),b4,b5,b6,some (.tup [.str z,.tup (T.map rowD++rep)]),a8,a9]) (s1:=s2) (by
   simp[zlf,zle,i0,eT,mul1,add1]) ?_
 refine zas (ρ1:=[a0,some (.ref n),a2,some (wkD z T),b4,b5,b6,some (.tup [.str z,.tup (T.map rowD++rep)]),some two,a9]) (s1:=s2) (by simp[two]) ?_;refine zas (ρ1:=[a0,some (.ref n),a2,some (wkD z T),b4,b5,b6,some (.tup [.str z,.tup (T.map rowD++rep)]),some two,some (.ref s2.length)]) (s1:=s3) (by
   rw[<-hs3];subst hX1;simp[mul2,mul3]) ?_
 have em2:mLst (zac (mTup (zac (mVar 3) (mNil))) (zac (mBin addD (mVar 3) (mTup (zac (mTup (mNil)) (mNil)))) (zac (mTup (zac (mBin ixA (mVar 3) (mCon (.int 1))) (zac (mBin ixA (mVar 3) (mCon (.int 0))) (mNil)))) (zac (mTup (zac (mCon (.str "")) (zac (mTup (zac (mTup (mNil)) (mNil))) (mNil)))) (zac (mTup (zac (mCon (.str "a")) (zac (mTup (mNil)) (mNil)))) (zac (mCon .non) (zac (mCon (.str "a")) (zac (mCon (.int 5)) (zac (mLst (mNil)) (zac (mTup (mNil)) (mNil))))))))))) [a0,some (.ref n),a2,some (wkD z T),b4,b5,b6,some (.tup [.str z,.tup (T.map rowD++rep)]),some two,some (.ref s2.length)] s3=some (.ref s4.length,s5):=by
   rw[<-hs5];subst hX2;simp[zlf,zle,add2,hs4,zmR]
 refine zas (ρ1:=[a0,some (.ref n),a2,some (wkD z T),b4,b5,b6,some (.tup [.str z,.tup (T.map rowD++rep)]),some two,some (.ref s5.length)]) (s1:=s6) (by
   have ev:mVar 9 [a0,some (.ref n),a2,some (wkD z T),b4,b5,b6,some (.tup [.str z,.tup (T.map rowD++rep)]),some two,some (.ref s2.length)] s3=some (.ref s2.length,s3):=rfl;rw[zbj,zbc,ev];simp only[Ac,em2,ad]
   rfl) ?_
 rw[zbw,zaK,zaO,e7];rfl
theorem zjz(ns:List Int)(hl:ns.length<=63):∃ st,zj4 [.kl (ns.map D.int)] []=some (.bl true,st):=by
 obtain⟨n,q,s1,e1,p1,g1⟩:=ziS (ns:=ns) [] hl;have key:=zeq (W:=⟨run 0 3,[]⟩) (g:=gNm 2) (m:=zfv) (ds:=run 0 3) (ρ:=[some (.kl (ns.map D.int)),some (.ref n),none,none,none,none,none,none,none,none]) (st:=s1)
   (Inv:=fun i ρ s=>(∃ x2 x3 x4 x5 x6 x7 x8 x9,ρ=[some (.kl (ns.map D.int)),some (.ref n),x2,x3,x4,x5,x6,x7,x8,x9])/\PotB n q s) ⟨⟨_,_,_,_,_,_,_,_,rfl⟩,p1⟩ (fun _ _ _ _ _=>rfl) (fun i d ρ s hd hI=>by
     obtain⟨⟨x2,x3,x4,x5,x6,x7,x8,x9,rfl⟩,p2⟩:=hI;obtain⟨b3,b4,b5,b6,b7,b8,b9,s3,e3,p3,f3⟩:=zhh (a0:=some (.kl (ns.map D.int))) (a2:=some d) (a3:=x3) (a4:=x4) (a5:=x5) (a6:=x6) (a7:=x7) (a8:=x8) (a9:=x9) p2;exact⟨[some (.kl (ns.map D.int)),some (.ref n),some d,x3,x4,x5,x6,x7,x8,x9],s,_,s3,rfl,e3,⟨_,_,_,_,_,_,_,_,rfl⟩,p3⟩)
 obtain⟨ρ',s2,el,⟨x2,x3,x4,x5,x6,x7,x8,x9,rfl⟩,p2⟩:=key;obtain⟨s4,e4,g4⟩:=zdf (n:=n) (q:=q) (st:=s2) (d:=.tup [.str "z",.tup [.tup [.tup [.int 0,.int 0]]]]) (zap (zcO _ (by decide +kernel)) (zap (zap (zap zjI zaX (by decide)) zaX (by decide)) zaX (by decide)) (by decide));rw[yes1] at e4;refine⟨s4,zb2 ?_⟩;show zmY [some (.kl (ns.map D.int)),none,none,none,none,none,none,none,none,none] []=_;unfold zmY;refine zas (ρ1:=[some (.kl (ns.map D.int)),some (.ref n),none,none,none,none,none,none,none,none]) (s1:=s1) (by simp[e1]) ?_;refine zas (ρ1:=[some (.kl (ns.map D.int)),some (.ref n),x2,x3,x4,x5,x6,x7,x8,x9]) (s1:=s2) (zgP (k:=3) (by simp) (by decide) el) ?_;have ib:=zm5 (st:=s4) true true;simp[e4,ib]
end
end L2.MP.stickytiles_k44_what_is_a_walker
namespace L2.MP.stickytiles_k44_what_is_a_walker
open PySem L2 L2.MP PySem.Spec PyProof.Rows
theorem zlN{K:Ab}{H:Hp}{a:Addr}{ns:List Int}(hl:ns.length<=63)(hO:Only H)(hS:SqL K H a (ns.map V.int)):spM K 1 zj4 [.ref a] H (fun v _=>v=.bl true) fun _ _ _=>False:=by
 obtain⟨st,e⟩:=zjz ns hl;exact ziW hO hS e
theorem walk{l:Dk}{q:Program}{loose:List Str}{XP:(Str->Option Value)->Heap->Prop}{YP:World->Heap->Prop}{d:DefRec}{K:Params->Ab}(hn:l.most=some 63)(hdf:d.params.defaults=[])
   (hY:∀ (w:World) (h:Heap),YP w h->(K w.params).In h)
   (F:∀ (w:World) (mg:Str->Option Value) (fa:Addr) (h:Heap),(K w.params).In h->h.Ns mainGlobals mg->mg d.name=some (.ref fa) ->
     ∃ fd:FuncData,(∀ (s:Shared) (u:Value),BindsTo s fd ⟨[u],[]⟩ [("_law_script",u)])/\∀ base:Heap,(K w.params).In base->base.Ns mainGlobals mg->FnOk l.prog w (K w.params) mg base CX0 15 fa fd ["_law_script"] (spM (K w.params) 1 zj4)) :
   Eu q loose XP YP l.row.toRowW d [] (fun f vs=>Eg f vs) :=
 L2.walk_of (n:=63) (k:=15) (x:="_law_script") (CX:=fun _=>CX0) (sp:=fun w=>spM (K w.params) 1 zj4) hn (by decide) hdf ⟨rfl,by decide,by decide,rfl⟩ hY F (fun _ _ a ns hl hO hS=>zlN hl hO hS) fun _ _ _ _ _ z=>z
end L2.MP.stickytiles_k44_what_is_a_walker
open PySem PySem.W PyProof.Rows
set_option maxRecDepth 100000 in
set_option maxHeartbeats 0 in
theorem PySem.Challenge.cw_stickytiles_k44_what_is_a_walker_holds : PySem.Challenge.rw_stickytiles_k44_what_is_a_walker.Holds := by
 w_on;o_law;k_head;(case hw=>w_witness2)
 k_fill
 refine L2.MP.stickytiles_k44_what_is_a_walker.walk (l:=PySem.Challenge.rw_stickytiles_k44_what_is_a_walker) rfl rfl (fun w h Y=>PySem.W.kIn_of Y) ?F
 case F =>
   intro w mg fa h KX G hmg;refine' L2.MP.stickytiles_k44_what_is_a_walker.all_mk KX G hmg (L2.MP.zeW ?a0 ?l0 ?c0 ?k0) (L2.MP.zeW ?a1 ?l1 ?c1 ?k1) (L2.MP.zeW ?a2 ?l2 ?c2 ?k2) (L2.MP.zeW ?a3 ?l3 ?c3 ?k3) (L2.MP.zeW ?a4 ?l4 ?c4 ?k4) (L2.MP.zeW ?a5 ?l5 ?c5 ?k5) (L2.MP.zeW ?a6 ?l6 ?c6 ?k6) (L2.MP.zeW ?a7 ?l7 ?c7 ?k7) (L2.MP.zeW ?a8 ?l8 ?c8 ?k8) (L2.MP.zeW ?a9 ?l9 ?c9 ?k9) (L2.MP.zeW ?a10 ?l10 ?c10 ?k10) (L2.MP.zeW ?a11 ?l11 ?c11 ?k11) (L2.MP.zeW ?a12 ?l12 ?c12 ?k12) (L2.MP.zeW ?a13 ?l13 ?c13 ?k13) (L2.MP.zeW ?a14 ?l14 ?c14 ?k14) ?z0 ?z1 ?z2 ?z3 ?z4 ?z5 ?z6 ?z7 ?z8 ?z9 ?z10 ?z11 ?z12 ?y0
   (case a0=>k_is);(case l0=>k_is);(case c0=>k_is);(case k0=>k_is)
   (case a1=>k_is);(case l1=>k_is);(case c1=>k_is);(case k1=>k_is)
   (case a2=>k_is);(case l2=>k_is);(case c2=>k_is);(case k2=>k_is)
   (case a3=>k_is);(case l3=>k_is);(case c3=>k_is);(case k3=>k_is)
   (case a4=>k_is);(case l4=>k_is);(case c4=>k_is);(case k4=>k_is)
   (case a5=>k_is);(case l5=>k_is);(case c5=>k_is);(case k5=>k_is)
   (case a6=>k_is);(case l6=>k_is);(case c6=>k_is);(case k6=>k_is)
   (case a7=>k_is);(case l7=>k_is);(case c7=>k_is);(case k7=>k_is)
   (case a8=>k_is);(case l8=>k_is);(case c8=>k_is);(case k8=>k_is)
   (case a9=>k_is);(case l9=>k_is);(case c9=>k_is);(case k9=>k_is)
   (case a10=>k_is);(case l10=>k_is);(case c10=>k_is);(case k10=>k_is)
   (case a11=>k_is);(case l11=>k_is);(case c11=>k_is);(case k11=>k_is)
   (case a12=>k_is);(case l12=>k_is);(case c12=>k_is);(case k12=>k_is)
   (case a13=>k_is);(case l13=>k_is);(case c13=>k_is);(case k13=>k_is)
   (case a14=>k_is);(case l14=>k_is);(case c14=>k_is);(case k14=>k_is)
   (case z0=>k_is);(case z1=>k_is);(case z2=>k_is);(case z3=>k_is);(case z4=>k_is);(case z5=>k_is);(case z6=>k_is);(case z7=>k_is);(case z8=>k_is);(case z9=>k_is);(case z10=>k_is);(case z11=>k_is);(case z12=>k_is);(case y0=>k_is)
