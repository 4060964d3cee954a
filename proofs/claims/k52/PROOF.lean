import PyProof.Rows.All
import Wide.All
import OpenK.AllK
import Wide.FinOn
import Lean
import PyProof.EqAt
import PyProof.EqKinds
import PyProof.TupleCall
import KE.KRevSl
import PyProof.AttrMissHeap
import KE.KDictOf
import PyProof.StrWalks
import PyProof.ListStr
import PyProof.EnumMake
import PyProof.Rows.Range3
import PyProof.Rows.StrIndexOr
import KE.KRevIter
import PyProof.SumWalk
import PyProof.ReprRoads
import PyProof.DictWalks
import PyProof.FitsBits
import PyProof.CallStr
import PyProof.Rows.FStr
import PyProof.Rows.StrNews
import KE.KIntText
import PyProof.Rows.MinMaxN
import PyProof.StrCalls
import KE.KDictList
import PyProof.RulesTry
import PyProof.Rows.RuleIs
import KE.KDictSum
import PyProof.DictTruth
import PyProof.MinMaxWalk
import PyProof.Rows.SetFrom
import PyProof.ListMulRoad
import PyProof.FactsAll.tuple_2
import PyProof.TupleOfStr
import PyProof.WalkInts
import PyProof.WalksMore
import PyProof.RowDictHeap
import PyProof.StrLawsIn
import PyProof.Rows.StrLawsPart
import PyProof.StrLawsChain
import PyProof.Rows.StrIntSpec
import PyProof.StrLawsTight
import PyProof.Rows.ReprOcc
import PySem.Challenge.RW_stickytiles_k52_shapes_or_not
set_option maxHeartbeats 8000000
set_option maxRecDepth 100000
open PySem renaming wpAny_bind→Aa,wpAny_pure→Ae,wpAny_newObj_type→AR,mem_of_lookup→AV,wpAny_callSpecial?_slot→A5,wpAny_field→Ba,wpAny_call_entry→Bc,wpAny_holding→Bi,wpAny_truthy_bool→Bl,wpAny_mono→BA,wpAny_typeNameOfWhole_keyiter→BH,wpAny_seqItems→BI,wpAny_setField_rec→BM,wpAny_passesOwn→BN,wpAny_getItem_str_slice→B7,post_val_or_str→Co,tupleKind_room_in1→Cr,wpAny_standAt→CI,wpAny_execs_nil→CO,pushCells_keeps→CS,wpAny_updateSeq_pair→CY,wpAny_setField→C7,wpAny_pyIter_tuple→Da,wpAny_Call_Name_kw→Dc,wpAny_newList→Di,wpAny_attempt→Dj,wpAny_onRaise→Dk,wpAny_pyIter_list→Do,wpAny_sequenceKey→Dq,wpAny_dictEntries→Du,wpAny_typeOf→DD,wpAny_dictEpoch→DQ,sizeLine_eq→DR,wpAny_isTrue_Compare1→D3,wpAny_newTuple→D8,wpAny_isOneOf_keyiter→Ed,wpAny_rule→Eg,call_meets→Ei,evalPart_none→Em,codeAny_mono→Ex,seqIndex_neg→EE,wpAny_assign_Name→EG,wpAny_pyIter_enum→EM,seqIndex_of→EN,wpAny_letGo→ET,wpAny_Name→Fe,typeIs_str→Ff,call→Fg
open PySem.W renaming Frag→Ab,mg_none_of→AO,nsIn→A6,fnOf→BJ,keepIn→BV,codeIn→Cz,methodObj→Dm,OpenLaw→DL,cellsFrom_some→DT,KitAt→En,kitx_list→EI,kitx_dict→EJ,kat_kind→EY,kas_ask→Fj,kitOne→Fq,WalkO→Fx,mg_of→Fz
open Option renaming bind_some→Ac,map_some→AD,isSome_map→Dp,getD_some→DE,isSome_some→Ey,getD_none→EV,map_none→Fo,bind→FH,map→FM
open PySem.Heap renaming get?_push_of_some→Ad,lt_size→Ak,get?_push_size→Ar,size_push→Bk,SameBut→Cq,get?_update_self→CM,get?_update_other→DX,ExtBut→ER
open Nat renaming le_refl→Af,lt_of_lt_of_le→Ap,le_trans→AC,ne_of_lt→AG,lt_irrefl→AU,lt_of_le_of_lt→Bs,zero_le→Bu,le_of_succ_le→BR,sub_self→BX,le_add_right→BY,le_of_lt→Cb,le_succ→Ci,lt_succ_of_lt→CC,succ_le_succ→CJ,lt_succ_self→CK,ne_of_gt→CP,add_le_add_left→C0,min_le_right→DC,not_lt_zero→DP,mul_le_mul_left→Es,lt_trans→Ez,log2_lt→EO,min_le_left→Fh
open List renaming getElem?_cons_zero→Ag,append_nil→Ah,mem_cons_of_mem→Ai,length_map→Aj,append_assoc→Al,size_toArray→Am,mem_cons_self→An,length_append→Aq,getElem?_append_left→As,getElem?_set_ne→Au,getElem?_cons_succ→Av,getElem?_eq_getElem→Aw,map_cons→Ax,getElem?_map→AE,getD_eq_getElem?_getD→AF,not_mem_nil→AH,length_take→AJ,mem_append_left→AK,getElem?_append_right→AL,mem_cons→AM,mem_append_right→AN,range→AQ,length_cons→AX,length_drop→AY,getElem?_set_self→AZ,mem_of_getElem?→A1,lookup_cons→Bf,length_singleton→Bo,eq_nil_of_length_eq_zero→Bq,map_nil→Br,find?_cons→Bz,any_cons→BG,toArray→BL,length_set→BO,mem_of_mem_take→BS,mem_of_mem_drop→BU,replicate→BW,filterMap_cons→B3,getElem?_replicate→B5,map_append→Ca,length_replicate→Cc,forIn_nil→Cd,getElem_mem→Ce,getElem_of_mem→Cj,length_nil→Cn,map_map→Cw,length_range→CB,reverse_cons→CD,take_of_length_le→CH,eraseIdxIfInBounds_toArray→CN,forIn_cons→CQ,mergeSort_perm→C1,length_reverse→C2,drop_zero→C5,all_cons→Dl,getElem?_set→Ds,nodup_append→Dt,drop_eq_getElem_cons→Dw,pairwise_mergeSort→DI,of_mem_zip→DK,nodup_cons→DM,length→DU,drop_eq_nil_of_le→DZ,length_pos_of_mem→D2,getElem?_toArray→D5,countP_mono_left→D6,dropLast_eq_take→Ee,length_filter_le→Ef,getElem?_range→Ep,map_congr_left→Et,mem_map_of_mem→Eu,zip_cons_cons→EB,filterMap_map→EC,all_eq_true→EW,countP_cons→EX,getElem_map→EZ,zipIdx_cons→Fb,filter_cons→Fc,zipIdx_nil→Fm,length_zip→Fn,nodup_nil→Fp,map_drop→FA
open Bool renaming and_eq_true→Ao,false_ne_true→A9,false_eq_true→Bt,not_eq_true'→BF,eq_iff_iff→CU,or_eq_true→DN,false_or→Fv,or_false→Fw,true_and→FB
open Option.some renaming inj→Ay
open Or renaming inr→Az,inl→AA
open PySem.NameKind renaming free→AI,cell→AW
open PySem.Builtin.SmallTypes renaming nextOf→AS,ownedTupleIsFree→Bw,ownedTupleHandOut→Cv
open PySem.PassesOwn renaming never→A2
open Array renaming length_toList→A3,getElem?_toList→Bp,getD_eq_getD_getElem?→BK,toList→FC
open PySem.Value renaming ref→A4,none→Bj,bool→Cy,int→CL,str→Ew,isStrOf→Fu,isInt→FE
open Ne renaming symm→A7
open PySem.Builtin.Slice renaming slicePlaces→A8,sliceAdjust→Bn,sliceApplied→BQ,sliceFields→Dv
open PySem.PyData renaming canLay0→Bb,canLayAll0→Bx,eqv→BD,showable→BE,intsShort→B0,weight→Cg,depth→Ct,intsShortAll→C3,showableAll→Df,weightAll→DG,depthAll→DO,eqvAll→Eo,strOk→EF,dict→EU,int→FL
open PySem.Builtin.Tuple renaming tupleExact→Bd,tupleItemsOf→Cf
open PyProof.Rows renaming slot_tuple_getitem→Be,callWith_type1→By,slot_tupleiter_next→Ck,entry_tuple_getitem→CZ,assignInOrder_cons→C9,args_tuple_getitem→De,listUpdate_at→Dh,intBits_le→DJ,subscriptTail_builtinR→DW,seqEpoch_at→D1,Subscript_→Eh,entry_tupleiter_next→Ek,tupleItemsOf_→El,args_tupleiter_next→Er,assignInOrder_nil→EH,lt_int→Fd,mul_int→Fs
open PySem.Builtin.Int renaming intBits→Bg
open Int renaming toNat_natCast→Bm,emod_nonneg→B8,emod_lt_of_pos→B9,le_refl→CG,le_trans→CV,le_of_lt→CW,le_antisymm→Fi
open PySem.Obj renaming mapSeq→Bv,data_mapFields→Cu,isFreed_of_fields→D9,cls_mapFields→EL,mapFields→Fy
open PySem.Str renaming ofString→BB
open PySem.Paired renaming length→BP,snoc→FG
open PySem.AutoSeq1 renaming wpAny_loadPart'→BZ
open PySem.Builtin.Str renaming occurrences→B4
open PySem.F renaming plainAttrs_list→B6,args_tuple_add_2→DB,entry_tuple_add→DH,slot_tuple_add→DV,slot_list_pop→Ea,type_list_pop→Eb
open PySem.Heap.SameBut renaming update→Cm
open Array.Perm renaming refl→Cp
open PySem.Builtin.List renaming listTooLong→Cs
open True renaming intro→CA
open Prod.mk renaming inj→CF
open ForInStep renaming yield→CT
open PySem.Builtin.Dict_items renaming ownsTuple→C8
open PySem.Calls renaming Name_function_global→Dg,call_function_entry→Dx,callWith_builtin→DY
open List.Pairwise renaming nil→Dr
open Classical renaming byContradiction→Dy
open Sum renaming inl→Dz,inr→DA
open PySem.Txt renaming slice_le→DF,slice→Ft
open PySem.W.Looks renaming of_pure→D7
open PySem.Builtin.Dict renaming showsAll→Ec
open PySem.W.KasFin renaming intro→Ej
open PySem.SeqAt.EqAt renaming int_int→EA
open PySem.Heap.IsSliceOf renaming new→ED
open PySem.W.UpdF renaming head→EK
open PySem.Shared renaming heap→ES
open StateT renaming run_pure→Fk
open Nat.succ renaming inj→FD
open PySem.Walks renaming tuple→FI
open PySem.W.KatTups renaming cons→FJ,nil→FN
open PyProof.Rows.SortSt renaming mk'→FK
open PySem.Heap.IsListIter renaming «at»→FO
set_option Elab.async false
set_option linter.all false
namespace L2
open PySem PySem.Spec PyProof.Rows
noncomputable abbrev Key:=Sum Int Str
noncomputable def zk2:Key->Value->Bool
 | .inl k,v=>FE k v
 | .inr x,v=>Fu x v
noncomputable def keyH(w:World):Key->Int
 | .inl k=>hashInt k
 | .inr x=>hashStr w x
theorem zaS:∀ {k:Key} {v:Value},zk2 k v=true->(∃ i t,k=Dz i/\v=CL i t)\/(∃ x t,k=DA x/\v=Ew x t)
 | .inl i,v,h=>by
   obtain⟨t,e⟩:=Value.isInt_shape (k:=i) (v:=v) h;exact .inl ⟨i,t,rfl,e⟩
 | .inr x,v,h=>by
   obtain⟨t,e⟩:=Value.isStrOf_shape (x:=x) (v:=v) h;exact .inr ⟨x,t,rfl,e⟩
theorem ziB(i:Int)(t:Tok):zk2 (.inl i) (.int i t)=true:=by simp[zk2,FE]
theorem ziA(x:Str)(t:Tok):zk2 (.inr x) (.str x t)=true:=by simp[zk2,Fu]
theorem zoa(a b:Int):decide ((Dz a:Key)=Dz b)=(a==b):=by
 by_cases e:a=b
 . subst e;simp
 . have h:¬ (Dz a:Key)=Dz b:=fun q=>e (Sum.inl.inj q);rw[decide_eq_false h];exact (beq_eq_false_iff_ne.mpr e).symm
theorem zn7(a b:Str):decide ((DA a:Key)=DA b)=decide (a=b):=by
 by_cases e:a=b
 . subst e;simp
 . have h:¬ (DA a:Key)=DA b:=fun q=>e (Sum.inr.inj q);rw[decide_eq_false h,decide_eq_false e]
theorem zn9(a:Int)(b:Str):decide ((Dz a:Key)=DA b)=false:=decide_eq_false (fun q=>nomatch q)
theorem zn8(a:Str)(b:Int):decide ((DA a:Key)=Dz b)=false:=decide_eq_false (fun q=>nomatch q)
noncomputable def za5(prog:Program)(w:World):PySem.KeyKind prog w Key where
 is:=zk2
 hash:=keyH w
 inj:=fun v a b ha hb=>by
   rcases zaS ha with ⟨i,t,rfl,rfl⟩ | ⟨x,t,rfl,rfl⟩
   . rcases zaS hb with ⟨j,u,rfl,e⟩ | ⟨y,u,rfl,e⟩
     . injection e with e1 _;rw[e1]
     . exact nomatch e
   . rcases zaS hb with ⟨j,u,rfl,e⟩ | ⟨y,u,rfl,e⟩
     . exact nomatch e
     . injection e with e1 _;rw[e1]
 byValue:=fun k v h=>by
   rcases zaS h with ⟨i,t,rfl,rfl⟩ | ⟨x,t,rfl,rfl⟩ <;> rfl
 pyHash:=fun hv h=>by
   rcases zaS hv with ⟨i,t,rfl,rfl⟩ | ⟨x,t,rfl,rfl⟩
   . exact wpAny_pyHash_int h
   . exact wpAny_pyHash_str h
 eqBool:=fun hu hv h=>by
   rcases zaS hu with ⟨i,t,rfl,rfl⟩ | ⟨x,t,rfl,rfl⟩
   . rcases zaS hv with ⟨j,u,rfl,rfl⟩ | ⟨y,u,rfl,rfl⟩
     . rw[zoa] at h;exact wpAny_eqBool_int h
     . rw[zn9] at h;exact SeqAt.EqAt.int_str i t y u _ _ _ _ h
   . rcases zaS hv with ⟨j,u,rfl,rfl⟩ | ⟨y,u,rfl,rfl⟩
     . rw[zn8] at h;exact SeqAt.EqAt.str_int x t j u _ _ _ _ h
     . rw[zn7] at h;exact wpAny_eqBool_str h
 «strs»:=fun k x t v h=>by
   rcases zaS h with ⟨i,u,rfl,e⟩ | ⟨y,u,rfl,e⟩
   . exact nomatch e
   . injection e with e1 _
     subst e1
     cases v <;> rfl
theorem zf5(prog:Program)(w:World)(i:Int)(t:Tok):(za5 prog w).is (.inl i) (.int i t)=true:=ziB i t
theorem zf4(prog:Program)(w:World)(x:Str)(t:Tok):(za5 prog w).is (.inr x) (.str x t)=true:=ziA x t
inductive V where
 | non | bl (b:Bool) | int (i:Int) | str (x:Str) | byt (b:Array UInt8) | flt (b:UInt64) | ref (a:Addr) | ty (n:String)
 deriving DecidableEq
noncomputable def RelV:V->Value->Prop
 | .non,u=>u=Bj
 | .bl b,u=>u=Cy b
 | .int i,u=>∃ t,u=CL i t
 | .str x,u=>∃ t,u=Ew x t
 | .byt b,u=>∃ t,u=Value.bytes b t
 | .flt b,u=>∃ t,u=Value.float b t
 | .ref a,u=>u=A4 a
 | .ty n,u=>u=Value.type n
noncomputable abbrev Vals:List V->List Value->Prop:=Paired RelV
theorem Vals.length{xs:List V}{us:List Value}(r:Vals xs us):xs.length=us.length:=BP r
theorem Vals.get:∀ {xs:List V} {us:List Value} {i:Nat} {x:V},Vals xs us->xs[i]?=some x->∃ u,us[i]?=some u/\RelV x u
 | _,_,_,_,.nil,e=>by simp at e
 | _,_,0,_,.cons r _,e=>by simp at e;subst e;exact⟨_,rfl,r⟩
 | _,_,i+1,x,.cons _ t,e=>by
   obtain⟨u,h1,h2⟩:=Vals.get (i:=i) (x:=x) t (by simpa using e);exact⟨u,by simpa using h1,h2⟩
theorem Vals.set{x:V}{u:Value}(r:RelV x u):∀ {xs:List V} {us:List Value} (i:Nat),Vals xs us->Vals (xs.set i x) (us.set i u)
 | _,_,_,.nil=>.nil
 | _,_,0,.cons _ t=>.cons r t
 | _,_,i+1,.cons q t=>.cons q (Vals.set r i t)
theorem Vals.append:∀ {xs ys:List V} {us ws:List Value},Vals xs us->Vals ys ws->Vals (xs++ys) (us++ws)
 | _,_,_,_,.nil,s=>s
 | _,_,_,_,.cons r t,s=>.cons r (Vals.append t s)
theorem Vals.take:∀ {xs:List V} {us:List Value} (n:Nat),Vals xs us->Vals (xs.take n) (us.take n)
 | _,_,0,_=>.nil
 | _,_,_+1,.nil=>.nil
 | _,_,n+1,.cons r t=>.cons r (Vals.take n t)
theorem Vals.drop:∀ {xs:List V} {us:List Value} (n:Nat),Vals xs us->Vals (xs.drop n) (us.drop n)
 | _,_,0,r=>r
 | _,_,_+1,.nil=>.nil
 | _,_,n+1,.cons _ t=>Vals.drop n t
noncomputable def RelO:Option V->Option Value->Prop
 | some v,some u=>RelV v u
 | none,none=>True
 | _,_=>False
noncomputable def KV{κ:Type}:List (κ×V)->List (κ×Value)->Prop:=Paired fun (p:κ×V) (q:κ×Value)=>p.1=q.1/\RelV p.2 q.2
noncomputable def kV:Key->V
 | .inl i=>.int i
 | .inr x=>.str x
inductive HO where
  | lst (xs:List V)
  | tup (xs:List V)
  | dK (kvs:List (Key×V)) | dT (kvs:List (List Key×V))
  | set (S:Int->Bool) (n:Nat)
  | ins (C dx:Addr) (fs:List (Str×V))
  | own (x:Addr)
  | xd (fs:List (Str×V))
  | met (f x:Addr)
  | rng (lo hi:Int)
  | frz (o:Obj) (u:HO)
  | tbl (ps:Array Value)
  | ext (φ:Heap->Prop)
noncomputable abbrev Hp:=Addr->Option HO
noncomputable def upd(H:Hp)(a:Addr)(o:HO):Hp:=fun b=>if b=a then some o else H b
theorem zbn{H:Hp}{a:Addr}{o:HO}:upd H a o a=some o:=by unfold upd;rw[if_pos rfl]
theorem zaG{H:Hp}{a b:Addr}{o:HO}(h:b≠a):upd H a o b=H b:=by unfold upd;rw[if_neg h]
theorem zmN{H:Hp}{a b:Addr}{o u:HO}(h:H a=some o)(h':H b=some u)(d:o≠u):a≠b:=by
 intro e;subst e;rw[h] at h';exact d (Ay h')
theorem zaq{H:Hp}{a b:Addr}{o:HO}(h:H a=some o)(h':H b=none):a≠b:=by
 intro e;subst e;rw[h] at h';cases h'
def zed(h:Heap)(a:Addr)(items:Array Value):Prop:=∃ o,h.get? a=some o/\o.cls=.type "tuple"/\o.dict=none/\∃ n,o.data=.seq items n
theorem zed.t{h:Heap}{a:Addr}{items:Array Value}(x:zed h a items):IsTup h a items:=let ⟨o,ho,hc,_,r⟩:=x;⟨o,ho,hc,r⟩
theorem zed.new(h:Heap)(items:Array Value):zed (h.push { cls:=.type "tuple",data:=.seq items }) h.objs.size items:=⟨_,Ar _ rfl,rfl,rfl,0,rfl⟩
section
variable (P:Program) (w:World)
noncomputable def zcA(H:Hp)(h:Heap)(a:Addr):HO->Prop
 | .lst xs=>xs.length<=sizeLine/\∃ (its:List Value) (n:Nat),Vals xs its/\h.get? a=some { cls:=.type "list",data:=.seq its.toArray n }
 | .tup xs=>xs.length<=sizeLine/\∃ its:List Value,Vals xs its/\zed h a its.toArray
 | .dK kvs=>kvs.length<=sizeLine/\(a==sysModules)=false/\∃ vs,KV kvs vs/\h.DictOf (za5 P w) a vs
 | .dT kvs=>kvs.length<=sizeLine/\(a==sysModules)=false/\∃ xs:List (List Key×Addr×Value),
     Paired (fun (p:List Key×V) (q:List Key×Addr×Value)=>p.1=q.1/\H q.2.1=some (.tup (p.1.map kV))/\RelV p.2 q.2.2) kvs xs /\
     ∃ o es ep,h.get? a=some o/\o.ExactDict/\o.data=.dict es ep/\es.toList=xs.map (entryOfKey (tupleKind (za5 P w)))/\(xs.map (·.1)).Nodup
 | .set S n=>h.SetOf (intKind P w) a S n
 | .ins C dx fs=>H dx=some (.own a)/\fs.length<=1000/\dx≠a/\h.get? a=some (PySem.W.instObj C dx) /\
     ∃ mA,h.Ns1 dx mA/\(∀ f,RelO (fs.lookup f) (mA f))/\PySem.Within mA (fs.map (·.1))
 | .own _=>∃ o,h.get? a=some o
 | .xd fs=>∃ mA,h.Ns1 a mA/\∀ f,RelO (fs.lookup f) (mA f)
 | .rng lo hi=>∃ t u v,h.get? a=some { cls:=.type "range",data:=.fields #[.int lo t,.int hi u,.int 1 v] }
 | .frz o u=>h.get? a=some o/\zcA H h a u
 | .tbl ps=>h.get? a=some { cls:=.none,data:=.fields ps }
 | .met f x=>h.get? a=some (Dm (.ref f) (.ref x))
 | .ext φ=>φ h/\(∃ o,h.get? a=some o)/\∀ h1 h2:Heap,φ h1->(∀ o,h1.get? a=some o->h2.get? a=some o)->φ h2
def HOk(H:Hp)(h:Heap):Prop:=∀ a o,H a=some o->zcA P w H h a o
end
section
variable {P:Program} {w:World} {H H':Hp} {h h':Heap} {a:Addr} {o:HO}
theorem zcA.lt(x:zcA P w H h a o):a < h.objs.size:=by
 cases o with
 | lst xs=>obtain⟨_,_,_,_,e⟩:=x;exact Ak e
 | tup xs=>obtain⟨_,_,_,p⟩:=x;exact p.t.lt
 | dK kvs=>obtain⟨_,_,_,_,o,_,_,e,_⟩:=x;exact Ak e
 | dT kvs=>obtain⟨_,_,_,_,o,_,_,e,_⟩:=x;exact Ak e
 | set S n=>obtain⟨o,_,_,_,e,_⟩:=x;exact Ak e
 | ins C dx fs=>obtain⟨_,_,_,e,_⟩:=x;exact Ak e
 | own y=>obtain⟨_,e⟩:=x;exact Ak e
 | xd fs=>obtain⟨_,⟨_,_,_,e,_⟩,_⟩:=x;exact Ak e
 | rng lo hi=>obtain⟨_,_,_,e⟩:=x;exact Ak e
 | frz ob u=>obtain⟨e,_⟩:=x;exact Ak e
 | tbl ps=>exact Ak (show h.get? a=some _ from x)
 | met f y=>exact Ak (show h.get? a=some _ from x)
 | ext φ=>obtain⟨_,⟨_,e⟩,_⟩:=x;exact Ak e
theorem Paired.mapP{α β:Type}{F G:α->β->Prop}:∀ {l₁:List α} {l₂:List β},Paired F l₁ l₂->(∀ a b,F a b->G a b)->Paired G l₁ l₂
 | _,_,.nil,_=>.nil
 | _,_,.cons r t,f=>.cons (f _ _ r) (Paired.mapP t f)
theorem zcA.stay(x:zcA P w H h a o)(k:∀ b u,(b=a\/H b=some (.own a))->h.get? b=some u->h'.get? b=some u)
   (ho:∀ b,H b=some (.own a)->H' b=some (.own a)) (ht:∀ b xs,H b=some (.tup xs)->H' b=some (.tup xs)):zcA P w H' h' a o:=by
 induction o with
 | lst xs=>obtain⟨z,its,n,r,e⟩:=x;exact⟨z,its,n,r,k _ _ (.inl rfl) e⟩
 | tup xs=>obtain⟨z,its,r,ob,e,c⟩:=x;exact⟨z,its,r,ob,k _ _ (.inl rfl) e,c⟩
 | dK kvs=>obtain⟨z,y,vs,r,ob,es,ep,e,c⟩:=x;exact⟨z,y,vs,r,ob,es,ep,k _ _ (.inl rfl) e,c⟩
 | dT kvs =>
   obtain⟨z,y,xs,r,ob,es,ep,e,c⟩:=x;exact⟨z,y,xs,Paired.mapP r fun p q z=>⟨z.1,ht _ _ z.2.1,z.2.2⟩,ob,es,ep,k _ _ (.inl rfl) e,c⟩
 | set S n=>obtain⟨ob,es,ep,t,e,c⟩:=x;exact⟨ob,es,ep,t,k _ _ (.inl rfl) e,c⟩
 | ins C dx fs =>
   obtain⟨d,z,ne,e,mA,⟨od,es,ep,e2,c⟩,r⟩:=x;exact⟨ho _ d,z,ne,k _ _ (.inl rfl) e,mA,⟨od,es,ep,k _ _ (.inr d) e2,c⟩,r⟩
 | own y=>obtain⟨ob,e⟩:=x;exact⟨ob,k _ _ (.inl rfl) e⟩
 | xd fs=>obtain⟨mA,⟨od,es,ep,e,c⟩,r⟩:=x;exact⟨mA,⟨od,es,ep,k _ _ (.inl rfl) e,c⟩,r⟩
 | rng lo hi=>obtain⟨t,u,v,e⟩:=x;exact⟨t,u,v,k _ _ (.inl rfl) e⟩
 | frz ob u ih=>obtain⟨e,q⟩:=x;exact⟨k _ _ (.inl rfl) e,ih q⟩
 | tbl ps =>
   have e:h.get? a=some { cls:=.none,data:=.fields ps }:=x;show h'.get? a=some { cls:=.none,data:=.fields ps };exact k a _ (.inl rfl) e
 | met f y =>
   have e:h.get? a=some (Dm (.ref f) (.ref y)):=x;show h'.get? a=some (Dm (.ref f) (.ref y));exact k a _ (.inl rfl) e
 | ext φ=>obtain⟨p,⟨o,e⟩,st⟩:=x;exact⟨st _ _ p fun o q=>k _ _ (.inl rfl) q,⟨o,k _ _ (.inl rfl) e⟩,st⟩
theorem HOk.lt(x:HOk P w H h)(e:H a=some o):a < h.objs.size:=(x a o e).lt
theorem HOk.fresh(x:HOk P w H h)(e:h.objs.size<=a):H a=none:=by
 cases q:H a with
 | none=>rfl
 | some u=>exact absurd (Ap (x.lt q) e) (AU _)
theorem HOk.kept(x:HOk P w H h)(k:∀ b u,h.get? b=some u->h'.get? b=some u):HOk P w H h':=fun a o e =>
 (x a o e).stay (fun b u _ q=>k b u q) (fun _ q=>q) fun _ _ q=>q
theorem HOk.laid(x:HOk P w H h)(k:∀ b u,h.get? b=some u->h'.get? b=some u)(hp:h.objs.size<=a)(new:zcA P w (upd H a o) h' a o):HOk P w (upd H a o) h':=fun b u e=>by
 have hn:=x.fresh hp
 by_cases hb:b=a
 . subst hb;rw[zbn] at e;cases e;exact new
 . rw[zaG hb] at e;exact (x b u e).stay (fun c v _ q=>k c v q) (fun c q=>by rw[zaG (zaq q hn)];exact q) fun c xs q=>by rw[zaG (zaq q hn)];exact q
end
def Rd(H:Hp)(a:Addr)(u:HO):Prop:=H a=some u\/∃ o,H a=some (.frz o u)
theorem Rd.ok{P:Program}{w:World}{H:Hp}{h:Heap}{a:Addr}{u:HO}(r:Rd H a u)(x:HOk P w H h):zcA P w H h a u:=by
 rcases r with r | ⟨o,r⟩
 . exact x a u r
 . obtain⟨_,q⟩:=x a _ r;exact q
noncomputable def Mut:Option HO->Prop
 | some (.lst _)=>True
 | some (.dK _)=>True
 | some (.dT _)=>True
 | some (.set _ _)=>True
 | some (.ins _ _ _)=>True
 | some (.ext _)=>True
 | _=>False
section
variable {P:Program} {w:World} {H:Hp} {h h':Heap} {x e:Addr} {o':HO}
theorem HOk.write(ok:HOk P w H h)(mu:Mut (H x))(he:e=x\/H e=some (.own x))(k:∀ b u,b≠e->h.get? b=some u->h'.get? b=some u)(heo:∃ u,h'.get? e=some u)
   (new:zcA P w (upd H x o') h' x o'):HOk P w (upd H x o') h':=fun b u q=>by
 have nown:∀ c y,H c=some (.own y)->c≠x:=fun c y r z=>by subst z;rw[r] at mu;exact mu
 have ntup:∀ c xs,H c=some (.tup xs)->c≠x:=fun c xs r z=>by subst z;rw[r] at mu;exact mu
 by_cases hb:b=x
 . subst hb;rw[zbn] at q;cases q;exact new
 . rw[zaG hb] at q
   by_cases hbe:b=e
   . have q':H b=some (.own x):=by
       rcases he with z | z
       . exact absurd (hbe.trans z) hb
       . rw[hbe];exact z
     rw[q] at q';cases q';obtain⟨v,hv⟩:=heo;exact⟨v,by rw[hbe];exact hv⟩
   . refine (ok b u q).stay (fun c v hc r=>k c v ?_ r) (fun c r=>by rw[zaG (nown c b r)];exact r) fun c xs r=>by rw[zaG (ntup c xs r)];exact r
     rcases hc with rfl | hc
     . exact hbe
     . rintro rfl
       rcases he with z | z
       . exact nown c b hc z
       . rw[hc] at z;cases z;exact hb rfl
end
structure Un(fs ex:List Addr)(H H':Hp)(h h':Heap):Prop where
 keep:∀ b o,h.get? b=some o->H b=none->b ∉ fs->b ∉ ex->h'.get? b=some o
 slot:∀ b o,h.get? b=some o->H b=none->b∈fs->b ∉ ex->∃ sl,h'.get? b=some { o with slots:=sl }
 free:∀ b o,h.get? b=some o->H b=none->b ∉ ex->H' b=none
 there:∀ b o,h.get? b=some o->b ∉ ex->∃ o',h'.get? b=some o'
 tups:∀ b xs,H b=some (.tup xs)->H' b=some (.tup xs)
 frzs:∀ b o u,H b=some (.frz o u)->H' b=some (.frz o u)
 tbls:∀ b ps,H b=some (.tbl ps)->∃ more,H' b=some (.tbl (ps++more))
section
variable {fs fs' ex ex':List Addr} {H H1 H2:Hp} {h h1 h2 h':Heap} {a x e:Addr} {o:HO}
theorem Un.any(u:Un fs ex H H1 h h1){b:Addr}{ob:Obj}(q:h.get? b=some ob)(n:H b=none)(hx:b ∉ ex):∃ sl,h1.get? b=some { ob with slots:=sl }:=by
 by_cases hb:b∈fs
 . exact u.slot b ob q n hb hx
 . exact⟨ob.slots,u.keep b ob q n hb hx⟩
theorem Un.kept(k:∀ b u,h.get? b=some u->h'.get? b=some u):Un fs ex H H h h' :=
 ⟨fun b ob q _ _ _=>k b ob q,fun b ob q _ _ _=>⟨ob.slots,k b ob q⟩,fun _ _ _ n _=>n,fun b ob q _=>⟨ob,k b ob q⟩,fun _ _ q=>q,fun _ _ _ q=>q,fun _ ps q=>⟨#[],by rw[q];simp⟩⟩
theorem Un.refl:Un fs ex H H h h:=Un.kept fun _ _ q=>q
theorem Un.laid(k:∀ b u,h.get? b=some u->h'.get? b=some u)(hp:h.objs.size<=a)(hn:H a=none):Un fs ex H (upd H a o) h h' where
 keep:=fun b u q _ _ _=>k b u q
 slot:=fun b u q _ _ _=>⟨u.slots,k b u q⟩
 free:=fun b u q n _=>by rw[zaG (AG (Ap (Ak q) hp))];exact n
 there:=fun b u q _=>⟨u,k b u q⟩
 tups:=fun b xs q=>by rw[zaG (zaq q hn)];exact q
 frzs:=fun b u xs q=>by rw[zaG (zaq q hn)];exact q
 tbls:=fun b ps q=>⟨#[],by rw[zaG (zaq q hn),q];simp⟩
theorem Un.write(mu:Mut (H x))(he:e=x\/H e=some (.own x))(k:∀ b u,b≠e->h.get? b=some u->h'.get? b=some u)(heo:∃ u,h'.get? e=some u):Un fs ex H (upd H x o) h h':=by
 have hx:∀ b,H b=none->b≠x:=fun b n z=>by subst z;rw[n] at mu;exact mu
 have hb:∀ b,H b=none->b≠e:=fun b n z=>by
   subst z
   rcases he with r | r
   . exact hx b n r
   . rw[n] at r;cases r
 have hm:∀ b u,H b=some u->¬ Mut (some u)->b≠x:=fun b u q nm z=>by subst z;rw[q] at mu;exact nm mu
 refine⟨fun b u q n _ _=>k b u (hb b n) q,fun b u q n _ _=>⟨u.slots,k b u (hb b n) q⟩,fun b u q n _=>by rw[zaG (hx b n)];exact n,fun b u q _=>?_,
   fun b xs q=>by rw[zaG (hm b _ q fun z=>z)];exact q,fun b u xs q=>by rw[zaG (hm b _ q fun z=>z)];exact q,fun b ps q=>⟨#[],by rw[zaG (hm b _ q fun z=>z),q];simp⟩⟩
 by_cases hbe:b=e
 . subst hbe;exact heo
 . exact⟨u,k b u hbe q⟩
end
noncomputable def trk(h:Heap)(H:Hp):List Addr:=(AQ h.objs.size).filter fun a=>(H a).isSome
noncomputable def hidT(h:Heap)(H:Hp):Heap:=PySem.W.hideAll h (trk h H)
theorem ziF(h:Heap)(H:Hp):(hidT h H).objs.size=h.objs.size:=PySem.W.hideAll_size _ _
theorem zky{h:Heap}{H:Hp}{b:Addr}{o:Obj}(e:h.get? b=some o)(n:H b=none):(hidT h H).get? b=some o :=
 PySem.W.hideAll_get _ e fun hm=>by
   have q:(H b).isSome=true:=(List.mem_filter.mp hm).2;rw[n] at q;simp at q
theorem zl8{h:Heap}{H:Hp}{b:Addr}{o:Obj}(e:(hidT h H).get? b=some o):h.get? b=some o/\H b=none:=by
 have e':h.get? b=some o:=PySem.W.of_hideAll (trk h H) e;refine⟨e',?_⟩
 cases q:H b with
 | none=>rfl
 | some x =>
   have hm:b∈trk h H:=List.mem_filter.mpr ⟨List.mem_range.mpr (Ak e'),by simp[q]⟩;have z:(hidT h H).get? b=none:=PySem.W.hideAll_none (trk h H) hm;rw[z] at e;cases e
noncomputable def zdg(g h:Heap)(L:Addr):List (Addr×Obj):=(AQ h.objs.size).filterMap fun a=>if a=L\/(g.get? a).isSome=true then none else (h.get? a).map fun o=>(a,o)
theorem zcp{g h:Heap}{L a:Addr}{o:Obj}(h1:a≠L)(h2:g.get? a=none)(h3:h.get? a=some o):(a,o)∈zdg g h L :=
 List.mem_filterMap.mpr ⟨a,List.mem_range.mpr (Ak h3),by simp[h1,h2,h3]⟩
theorem zd1{g h:Heap}{L:Addr}{p:Addr×Obj}(hp:p∈zdg g h L):p.1≠L/\g.get? p.1=none/\h.get? p.1=some p.2:=by
 obtain⟨b,_,e⟩:=List.mem_filterMap.mp hp
 split at e
 . cases e
 . rename_i hn
   cases q:h.get? b with
   | none=>rw[q] at e;simp at e
   | some u =>
     rw[q] at e;simp only[AD,Option.some.injEq] at e;subst e;refine⟨fun z=>hn (.inl z),?_,q⟩;show g.get? b=none
     cases r:g.get? b with
     | none=>rfl
     | some v=>exact (hn (.inr (by simp[r]))).elim
theorem zeY{g h:Heap}{L:Addr}:News g L h (zdg g h L):=fun p hp=>let ⟨a,b,c⟩:=zd1 hp;⟨c,a,b⟩
structure Mod(K:Ab)(mg:Str->Option Value)(base:Heap):Prop where
 kin:K.In base
 glob:base.Ns mainGlobals mg
 blt:∃ mb,base.Ns builtinsNs mb/\∀ x:Str,x≠"__name__"->mb x=bootBuiltins x
 nolimit:base.NoLimit
structure Cx where
 prog:Program
 w:World
 K:Ab
 mg:Str->Option Value
 base:Heap
 A:Around
 N:List Str
 s₀:Shared
 H₀:Hp
 env:Env
 outer:List Env
 stack:List Env
 ex:List Addr
 fn:Str->Bool
 calm:Bool
 pn:List (Addr×Obj)
 xe:Value->Shared->Prop
noncomputable def frs(l:List Env):List Addr:=l.filterMap (·.frame)
noncomputable abbrev Cx.fs (X:Cx):List Addr:=frs X.outer
def Vis(sc:Scope)(x:Str):Prop:=sc.names.lookup x=some .local\/sc.names.lookup x=some .cell\/sc.names.lookup x=some .free
def Loc(sc:Scope)(x:Str):Prop:=sc.names.lookup x=some .local\/sc.names.lookup x=some .cell
def Look(env:Env)(h:Heap)(m:Str->Option Value)(x:Str)(u:Value):Prop :=
 (env.kindOf x=some .local/\m x=some u)\/((env.kindOf x=some .cell\/env.kindOf x=some .free)/\∃ c,env.cells.lookup x=some c/\h.IsCell c (some u))
structure Cx.Ok(X:Cx):Prop where
 mod:Mod X.K X.mg X.base
 kind:X.env.scope.kind=.function
 glob:X.env.globals=mainGlobals
 blt:X.env.builtins=builtinsNs
 above:X.s₀.heap.objs.size<=X.env.locals
 inj:∀ x y c,X.env.cells.lookup x=some c->X.env.cells.lookup y=some c->x=y
 has:∀ x,(X.env.kindOf x=some .cell\/X.env.kindOf x=some .free)->∃ c,X.env.cells.lookup x=some c
 cab:∀ x c,X.fn x=true->X.env.cells.lookup x=some c->X.s₀.heap.objs.size<=c
 hd:X.calm=true->X.A.handled=none
 frames:X.A.frames=some X.stack
 stk:X.stack=X.outer\/(X.stack=X.env::X.outer/\X.env.frame=some X.env.locals)
 exf:∀ b∈X.ex,b≠X.env.locals/\∀ x c,X.env.cells.lookup x=some c->c≠b
 bs:∀ b o,X.base.get? b=some o->X.s₀.heap.get? b=some o/\X.H₀ b=none
 bsz:X.base.objs.size<=X.s₀.heap.objs.size
 noex:∀ b o,X.base.get? b=some o->b ∉ X.ex
 exfs:∀ b∈X.ex,b ∉ X.fs
 funs:X.s₀.heap.FunFrames X.base X.outer
 frf:∀ b∈X.fs,X.H₀ b=none
structure Inv(X:Cx)(pins:List (Addr×Obj))(σ:List (Option V))(H:Hp)(s:Shared):Prop where
 ok:X.Ok
 os:s.os=X.s₀.os
 bare:AllBare s.gens
 base:Un X.fs X.ex X.H₀ H X.s₀.heap s.heap
 loc:∃ m,s.heap.Ns X.env.locals m/\∀ (i:Nat) (x:Str) (v:V),X.N[i]?=some x->σ[i]?=some (some v)->Vis X.env.scope x->∃ u,RelV v u/\Look X.env s.heap m x u
 cell:∀ x c,X.env.cells.lookup x=some c->∃ v,s.heap.IsCell c v
 free:H X.env.locals=none
 freeC:∀ x c,X.env.cells.lookup x=some c->H c=none
 pin:∀ p∈X.pn++pins,s.heap.get? p.1=some p.2/\H p.1=none/\p.1≠X.env.locals/\p.1 ∉ X.fs/\∀ v,p.2.data≠.cell v
 hok:HOk X.prog X.w H s.heap
 len:σ.length=X.N.length
section
variable {X:Cx} {pins:List (Addr×Obj)} {σ:List (Option V)} {H H':Hp} {s:Shared} {h':Heap}
theorem Cx.Ok.nofr(ok:X.Ok){b:Addr}{o:Obj}(e:X.base.get? b=some o):b ∉ X.fs:=fun hb=>by
 have:=(ok.funs.mem hb).1;rw[e] at this;cases this
theorem Inv.bs(I:Inv X pins σ H s):∀ b o,X.base.get? b=some o->s.heap.get? b=some o/\H b=none:=fun b o e =>
 ⟨I.base.keep b o (I.ok.bs b o e).1 (I.ok.bs b o e).2 (I.ok.nofr e) (I.ok.noex b o e),I.base.free b o (I.ok.bs b o e).1 (I.ok.bs b o e).2 (I.ok.noex b o e)⟩
theorem Inv.bk(I:Inv X pins σ H s):∀ b o,X.base.get? b=some o->s.heap.get? b=some o:=fun b o e=>(I.bs b o e).1
theorem Inv.mod(I:Inv X pins σ H s):Mod X.K X.mg X.base:=I.ok.mod
theorem Inv.kIn(I:Inv X pins σ H s):X.K.In s.heap:=I.ok.mod.kin.keeps I.bk
theorem Inv.fr(I:Inv X pins σ H s):∃ m,Fr X.base X.env.locals s.heap m :=
 let ⟨m,hn,_⟩:=I.loc
 ⟨m,hn,I.bk,AC I.ok.bsz I.ok.above⟩
theorem Inv.lt(I:Inv X pins σ H s):X.env.locals < s.heap.objs.size:=let ⟨_,hn,_⟩:=I.loc;hn.lt
theorem Inv.sz(I:Inv X pins σ H s):X.s₀.heap.objs.size<=s.heap.objs.size:=AC I.ok.above (Cb I.lt)
theorem Inv.nofs(I:Inv X pins σ H s){a:Addr}(h:s.heap.objs.size<=a):a ∉ X.fs:=fun hb=>by
 obtain⟨_,o,ho,_⟩:=I.ok.funs.mem hb;exact absurd (Ap (Ak ho) (AC I.sz h)) (AU _)
theorem Inv.cne(I:Inv X pins σ H s):∀ x c,X.env.cells.lookup x=some c->c≠X.env.locals:=fun x c e z=>by
 obtain⟨v,o,ho,hd⟩:=I.cell x c e;obtain⟨m,⟨o',es,ep,ho',hd',_⟩,_⟩:=I.loc;rw[z,ho'] at ho;cases ho;rw[hd'] at hd;cases hd
theorem Inv.funs(I:Inv X pins σ H s):s.heap.FunFrames X.base X.outer:=by
 have all:∀ (l:List Env),(∀ b∈frs l,b∈X.fs)->X.s₀.heap.FunFrames X.base l->s.heap.FunFrames X.base l:=by
   intro l
   induction l with
   | nil=>intro _ _;trivial
   | cons env r ih =>
     intro hs hl;obtain⟨hk,⟨L,o,hf,hn,ho,hd⟩,hr⟩:=hl;have hL:L∈X.fs:=hs L (by unfold frs;rw[B3,hf];exact An);obtain⟨sl,e⟩:=I.base.slot L o ho (I.ok.frf L hL) hL fun z=>I.ok.exfs L z hL;exact⟨hk,⟨L,_,hf,hn,e,hd⟩,ih (fun b hb=>hs b (by unfold frs;rw[B3,hf];exact Ai _ hb)) hr⟩
 exact all X.outer (fun _ hb=>hb) I.ok.funs
theorem Inv.stack(I:Inv X pins σ H s):s.heap.FunFrames X.base X.stack:=by
 rcases I.ok.stk with e | ⟨e,hf⟩
 . rw[e];exact I.funs
 . rw[e];obtain⟨m,hn,_⟩:=I.loc;refine .cons (by rw[I.ok.kind];decide) hf hn ?_ I.funs;exact Heap.get?_none_of_le (AC I.ok.bsz I.ok.above)
theorem Inv.stkSub(I:Inv X pins σ H s):∀ b∈frs X.stack,b∈X.env.locals::X.fs:=fun b hb=>by
 rcases I.ok.stk with e | ⟨e,hf⟩
 . rw[e] at hb;exact Ai _ hb
 . rw[e] at hb;unfold frs at hb;rw[B3,hf] at hb;exact hb
theorem Inv.stkFree(I:Inv X pins σ H s):∀ b∈frs X.stack,H b=none:=fun b hb=>by
 rcases List.mem_cons.mp (I.stkSub b hb) with e | hb
 . rw[e];exact I.free
 . obtain⟨_,o,ho,_⟩:=I.ok.funs.mem hb;exact I.base.free b o ho (I.ok.frf b hb) fun z=>I.ok.exfs b z hb
theorem Inv.step{g':Array GenState}{t':Nat}{d':Drawn}{ch:List Addr}(I:Inv X pins σ H s)
   (hch:∀ b∈ch,(b∈X.ex\/X.s₀.heap.objs.size<=b)/\b≠X.env.locals/\(∀ x c,X.env.cells.lookup x=some c->c≠b)/\∀ p∈X.pn++pins,p.1≠b)
   (keep:∀ b o,b≠X.env.locals->b ∉ X.fs->b ∉ ch->s.heap.get? b=some o->H b=none->h'.get? b=some o)
   (slot:∀ b o,b≠X.env.locals->b∈X.fs->b ∉ ch->s.heap.get? b=some o->H b=none->∃ sl,h'.get? b=some { o with slots:=sl }) (free:∀ b o,b ∉ ch->s.heap.get? b=some o->H b=none->H' b=none)
   (there:∀ b o,b ∉ ch->s.heap.get? b=some o->∃ o',h'.get? b=some o')
   (tups:∀ b xs,H b=some (.tup xs)->H' b=some (.tup xs)) (frzs:∀ b o u,H b=some (.frz o u)->H' b=some (.frz o u)) (tbls:∀ b ps,H b=some (.tbl ps)->∃ more,H' b=some (.tbl (ps++more)))
   (ns:∀ m,s.heap.Ns X.env.locals m->h'.Ns X.env.locals m) (hok:HOk X.prog X.w H' h') (hg:AllBare g') :
   Inv X pins σ H' { s with heap:=h',gens:=g',drawn:=d',toks:=t' }:=by
 have neL:∀ b o,X.s₀.heap.get? b=some o->b≠X.env.locals:=fun b o e=>AG (Ap (Ak e) I.ok.above);have neC:∀ b o,X.s₀.heap.get? b=some o->b ∉ X.ex->b ∉ ch:=fun b o e hx hb=>by
   rcases (hch b hb).1 with z | z
   . exact hx z
   . exact absurd (Ap (Ak e) z) (AU _)
 have cellK:∀ x c,X.env.cells.lookup x=some c->∀ v,s.heap.IsCell c v->h'.IsCell c v:=by
   rintro x c e v ⟨o,ho,hd⟩;have nch:c ∉ ch:=fun z=>(hch c z).2.2.1 x c e rfl
   by_cases hc:c∈X.fs
   . obtain⟨sl,q⟩:=slot c o (I.cne x c e) hc nch ho (I.freeC x c e);exact⟨_,q,hd⟩
   . exact⟨o,keep c o (I.cne x c e) hc nch ho (I.freeC x c e),hd⟩
 refine⟨I.ok,I.os,hg,⟨fun b o e n hb hx=>?_,fun b o e n hb hx=>?_,fun b o e n hx=>?_,fun b o e hx=>?_,fun b xs e=>tups b xs (I.base.tups b xs e),fun b o xs e=>frzs b o xs (I.base.frzs b o xs e),fun b ps e=>?_⟩,?_,fun x c e=>?_,?_,fun x c e=>?_,fun p hp=>?_,hok,I.len⟩
 . exact keep b o (neL b o e) hb (neC b o e hx) (I.base.keep b o e n hb hx) (I.base.free b o e n hx)
 . obtain⟨sl,e1⟩:=I.base.slot b o e n hb hx;obtain⟨sl',e2⟩:=slot b _ (neL b o e) hb (neC b o e hx) e1 (I.base.free b o e n hx);exact⟨sl',e2⟩
 . obtain⟨o',e1⟩:=I.base.there b o e hx;exact free b o' (neC b o e hx) e1 (I.base.free b o e n hx)
 . obtain⟨o',e1⟩:=I.base.there b o e hx;exact there b o' (neC b o e hx) e1
 . obtain⟨m1,e1⟩:=I.base.tbls b ps e;obtain⟨m2,e2⟩:=tbls b _ e1;exact⟨m1++m2,by rw[e2,Array.append_assoc]⟩
 . obtain⟨m,hn,hl⟩:=I.loc;refine⟨m,ns m hn,fun i x v e1 e2 e3=>?_⟩;obtain⟨u,r,l⟩:=hl i x v e1 e2 e3;refine⟨u,r,?_⟩
   rcases l with l | ⟨k,c,e,z⟩
   . exact .inl l
   . exact .inr ⟨k,c,e,cellK x c e _ z⟩
 . obtain⟨v,z⟩:=I.cell x c e;exact⟨v,cellK x c e v z⟩
 . obtain⟨m,⟨o,_,_,ho,_⟩,_⟩:=I.loc;exact free _ o (fun z=>(hch _ z).2.1 rfl) ho I.free
 . obtain⟨v,o,ho,hd⟩:=I.cell x c e;exact free c o (fun z=>(hch c z).2.2.1 x c e rfl) ho (I.freeC x c e)
 . obtain⟨e,n,ne,nf,d⟩:=I.pin p hp;have nch:p.1 ∉ ch:=fun z=>(hch p.1 z).2.2.2 p hp rfl;exact⟨keep p.1 p.2 ne nf nch e n,free p.1 p.2 nch e n,ne,nf,d⟩
theorem Inv.un{t':Nat}(I:Inv X pins σ H s)(u:Un X.fs [] H H' s.heap h')(hok:HOk X.prog X.w H' h'):Inv X pins σ H' { s with heap:=h',toks:=t' }:=by
 obtain⟨m,⟨o,es,ep,ho,r⟩,_⟩:=id I.loc;obtain⟨sl,hL⟩:=u.any ho I.free (by simp);exact I.step (g':=s.gens) (d':=s.drawn) (ch:=[]) (fun _ z=>nomatch z) (fun b o _ hb _ e n=>u.keep b o e n hb (by simp)) (fun b o _ hb _ e n=>u.slot b o e n hb (by simp)) (fun b o _ e n=>u.free b o e n (by simp)) (fun b o _ e=>u.there b o e (by simp)) u.tups u.frzs u.tbls (fun m' hm=>by
   obtain⟨o',es',ep',ho',r'⟩:=hm;rw[ho] at ho';cases ho';exact⟨_,es',ep',hL,r'⟩) hok I.bare
theorem Inv.call{g':Array GenState}{t':Nat}{d':Drawn}{ch:List Addr}(I:Inv X pins σ H s)(u:Un (frs X.stack) ch H H' s.heap h')(hok:HOk X.prog X.w H' h')(hg:AllBare g')
   (hch:∀ b∈ch,(b∈X.ex\/X.s₀.heap.objs.size<=b)/\b≠X.env.locals/\(∀ x c,X.env.cells.lookup x=some c->c≠b)/\∀ p∈X.pn++pins,p.1≠b) :
   Inv X pins σ H' { s with heap:=h',gens:=g',drawn:=d',toks:=t' }:=by
 obtain⟨m,⟨o,es,ep,ho,r⟩,_⟩:=id I.loc;obtain⟨sl,hL⟩:=u.any ho I.free fun z=>(hch _ z).2.1 rfl;exact I.step (ch:=ch) hch (fun b o hL hb hc e n=>u.keep b o e n (fun z=>(List.mem_cons.mp (I.stkSub b z)).elim hL hb) hc) (fun b o _ _ hc e n=>u.any e n hc) (fun b o hc e n=>u.free b o e n hc) (fun b o hc e=>u.there b o e hc) u.tups u.frzs u.tbls (fun m' hm=>by
   obtain⟨o',es',ep',ho',r'⟩:=hm;rw[ho] at ho';cases ho';exact⟨_,es',ep',hL,r'⟩) hok hg
theorem Inv.turned{t':Nat}{it:Addr}(I:Inv X pins σ H s)(k:∀ b o,b≠it->s.heap.get? b=some o->h'.get? b=some o)(hn:H it=none)(hL:it≠X.env.locals)
   (h1:it∈X.ex\/X.s₀.heap.objs.size<=it) (h2:∀ x c,X.env.cells.lookup x=some c->c≠it) (h3:∀ p∈X.pn++pins,p.1≠it):Inv X pins σ H { s with heap:=h',toks:=t' }:=by
 have nit:∀ b u,H b=some u->b≠it:=fun b u e z=>by rw[z,hn] at e;cases e
 refine I.step (g':=s.gens) (d':=s.drawn) (ch:=[it]) (fun b hb=>?_) (fun b o _ _ hc e _=>k b o (fun z=>hc (by simp[z])) e) (fun b o _ _ hc e _=>⟨o.slots,k b o (fun z=>hc (by simp[z])) e⟩) (fun _ _ _ _ n=>n)
   (fun b o hc e=>⟨o,k b o (fun z=>hc (by simp[z])) e⟩) (fun _ _ e=>e) (fun _ _ _ e=>e) (fun b ps e=>⟨#[],by rw[e];simp⟩) (fun m hm=>?_) (fun b u e=>?_) I.bare
 . have e:b=it:=by simpa using hb
   subst e;exact⟨h1,hL,h2,h3⟩
 . obtain⟨o,es,ep,ho,r⟩:=hm;exact⟨o,es,ep,k _ o (A7 hL) ho,r⟩
 . refine (I.hok b u e).stay (fun c v hc q=>k c v ?_ q) (fun _ q=>q) fun _ _ q=>q
   rcases hc with z | z
   . rw[z];exact nit b u e
   . exact nit c _ z
theorem Inv.tok(I:Inv X pins σ H s)(t:Nat):Inv X pins σ H { s with toks:=t }:=I.un (h':=s.heap) (t':=t) Un.refl I.hok
theorem Inv.kept{t':Nat}(I:Inv X pins σ H s)(k:∀ b u,s.heap.get? b=some u->h'.get? b=some u):Inv X pins σ H { s with heap:=h',toks:=t' }:=I.un (Un.kept k) (I.hok.kept k)
theorem Inv.laid{a:Addr}{o:HO}{t':Nat}(I:Inv X pins σ H s)(k:∀ b u,s.heap.get? b=some u->h'.get? b=some u)(hp:s.heap.objs.size<=a)(new:zcA X.prog X.w (upd H a o) h' a o) :
   Inv X pins σ (upd H a o) { s with heap:=h',toks:=t' }:=I.un (Un.laid k hp (I.hok.fresh hp)) (I.hok.laid k hp new)
theorem Inv.write{x e:Addr}{o:HO}{t':Nat}(I:Inv X pins σ H s)(mu:Mut (H x))(he:e=x\/H e=some (.own x))(k:∀ b u,b≠e->s.heap.get? b=some u->h'.get? b=some u)(heo:∃ u,h'.get? e=some u)
   (new:zcA X.prog X.w (upd H x o) h' x o):Inv X pins σ (upd H x o) { s with heap:=h',toks:=t' }:=I.un (Un.write mu he k heo) (I.hok.write mu he k heo new)
theorem Inv.pins_of{pins':List (Addr×Obj)}(I:Inv X pins σ H s)(h:∀ p∈pins',s.heap.get? p.1=some p.2/\H p.1=none/\p.1≠X.env.locals/\p.1 ∉ X.fs/\∀ v,p.2.data≠.cell v):Inv X pins' σ H s :=
 ⟨I.ok,I.os,I.bare,I.base,I.loc,I.cell,I.free,I.freeC,fun p hp=>(List.mem_append.mp hp).elim (fun z=>I.pin p (AK _ z)) (h p),I.hok,I.len⟩
theorem zgZ{N:List Str}(hN:N.Nodup){i j:Nat}{x:Str}(a:N[i]?=some x)(b:N[j]?=some x):i=j:=by
 obtain⟨h1,e1⟩:=List.getElem?_eq_some_iff.mp a;obtain⟨h2,e2⟩:=List.getElem?_eq_some_iff.mp b;exact (List.getElem_inj hN).mp (e1.trans e2.symm)
theorem zfd{M:Model}{A:Around}{E:Value->Shared->Prop}{i:Nat}{x:Str}{v:V}{u:Value}{Q:Unit->Shared->Prop}(I:Inv X pins σ H s)(hN:X.N.Nodup)(hi:X.N[i]?=some x)(hx:Loc X.env.scope x)(r:RelV v u)
   (h:∀ s',Inv X pins (σ.set i (some v)) H s'->(∃ a,Cq a s.heap s'.heap/\(a=X.env.locals\/X.env.cells.lookup x=some a))->Q () s') (hf:X.fn x=true\/X.env.scope.names.lookup x=some .local:=by first | exact .inl rfl | exact .inr rfl | assumption):wpAny M A (storeName X.env x u) Q E s:=by
 obtain⟨m,hn,hl⟩:=id I.loc;have hcls:(X.env.scope.kind==.class || (X.env.scope.kind==.module&&X.env.locals != X.env.globals))=false:=by rw[I.ok.kind];rfl
 have hiσ:i < σ.length:=by rw[I.len];exact (List.getElem?_eq_some_iff.mp hi).1
 have cne:=I.cne;have tracked:∀ {a:Addr} {h':Heap},(∃ o,s.heap.get? a=some o/\H a=none)->Cq a s.heap h'->HOk X.prog X.w H h':=fun {a h'} ha hs b ob e=>by
   obtain⟨_,_,hfree⟩:=ha;refine (I.hok b ob e).stay (fun c w' hc q=>(hs.2 c ?_).trans q) (fun _ q=>q) fun _ _ q=>q;rintro rfl
   rcases hc with rfl | hc
   . rw[hfree] at e;cases e
   . rw[hfree] at hc;cases hc
 rcases hx with hk | hk
 . refine wpAny_storeName_local hk hn (fun h' hn' hs=>?_) hcls;obtain⟨oL,_,_,hoL,_⟩:=id hn;refine h _ ⟨I.ok,I.os,I.bare,⟨fun b o e n hb hx=>?_,fun b o e n hb hx=>?_,I.base.free,fun b o e hx=>?_,I.base.tups,I.base.frzs,I.base.tbls⟩,⟨_,hn',fun j y v' e1 e2 e3=>?_⟩,fun y c e=>?_,I.free,I.freeC,fun p hp=>?_,tracked ⟨oL,hoL,I.free⟩ hs,by simpa using I.len⟩ ⟨_,hs,.inl rfl⟩
   . exact (hs.2 b (AG (Ap (Ak e) I.ok.above))).trans (I.base.keep b o e n hb hx)
   . obtain⟨sl,e1⟩:=I.base.slot b o e n hb hx;exact⟨sl,(hs.2 b (AG (Ap (Ak e) I.ok.above))).trans e1⟩
   . obtain⟨o',e1⟩:=I.base.there b o e hx;exact⟨o',(hs.2 b (AG (Ap (Ak e) I.ok.above))).trans e1⟩
   . by_cases hj:j=i
     . subst hj;rw[hi] at e1;cases e1;rw[AZ hiσ] at e2;cases e2;exact⟨u,r,.inl ⟨hk,by simp⟩⟩
     . rw[Au (A7 hj)] at e2;obtain⟨u',r',q⟩:=hl j y v' e1 e2 e3;refine⟨u',r',?_⟩
       rcases q with ⟨k,e⟩ | ⟨k,c,e,z⟩
       . refine .inl ⟨k,?_⟩;have:y≠x:=fun e=>hj (zgZ hN e1 (e ▸ hi));simp[this,e]
       . exact .inr ⟨k,c,e,z.sameBut hs (cne y c e)⟩
   . obtain⟨w',z⟩:=I.cell y c e;exact⟨w',z.sameBut hs (cne y c e)⟩
   . obtain⟨e,n,ne,nf,d⟩:=I.pin p hp;exact⟨(hs.2 p.1 ne).trans e,n,ne,nf,d⟩
 . have hfn:X.fn x=true:=by
     rcases hf with z | z
     . exact z
     . rw[z] at hk;cases hk
   obtain⟨c,hc⟩:=I.ok.has x (.inl hk);obtain⟨w',z⟩:=I.cell x c hc;refine wpAny_storeName_cell I.ok.kind hk hc z (fun h' hc' hs=>?_);obtain⟨oc,hoc,hocd⟩:=id z;refine h { s with heap:=h' } ⟨I.ok,I.os,I.bare,⟨fun b o e n hb hx=>?_,fun b o e n hb hx=>?_,I.base.free,fun b o e hx=>?_,I.base.tups,I.base.frzs,I.base.tbls⟩,⟨m,hn.sameBut hs (A7 (cne x c hc)),fun j y v' e1 e2 e3=>?_⟩,fun y c' e=>?_,I.free,I.freeC,fun p hp=>?_,tracked ⟨oc,hoc,I.freeC x c hc⟩ hs,by simpa using I.len⟩ ⟨c,hs,.inr hc⟩
   . exact (hs.2 b (AG (Ap (Ak e) (I.ok.cab x c hfn hc)))).trans (I.base.keep b o e n hb hx)
   . obtain⟨sl,e1⟩:=I.base.slot b o e n hb hx;exact⟨sl,(hs.2 b (AG (Ap (Ak e) (I.ok.cab x c hfn hc)))).trans e1⟩
   . obtain⟨o',e1⟩:=I.base.there b o e hx;exact⟨o',(hs.2 b (AG (Ap (Ak e) (I.ok.cab x c hfn hc)))).trans e1⟩
   . by_cases hj:j=i
     . subst hj;rw[hi] at e1;cases e1;rw[AZ hiσ] at e2;cases e2;exact⟨u,r,.inr ⟨.inl hk,c,hc,hc'⟩⟩
     . rw[Au (A7 hj)] at e2;obtain⟨u',r',q⟩:=hl j y v' e1 e2 e3;refine⟨u',r',?_⟩
       rcases q with q | ⟨k,c',e,z'⟩
       . exact .inl q
       . refine .inr ⟨k,c',e,z'.sameBut hs ?_⟩;rintro rfl;exact hj (zgZ hN e1 (I.ok.inj _ _ _ e hc ▸ hi))
   . by_cases hcc:c'=c
     . subst hcc;exact⟨_,hc'⟩
     . obtain⟨w2,z2⟩:=I.cell y c' e;exact⟨w2,z2.sameBut hs hcc⟩
   . obtain⟨e,n,ne,nf,d⟩:=I.pin p hp;refine⟨(hs.2 p.1 ?_).trans e,n,ne,nf,d⟩;intro q;rw[q,hoc] at e;have q':oc=p.2:=Ay e;exact d w' (by rw[<-q'];exact hocd)
theorem zdJ{M:Model}{A:Around}{E:Value->Shared->Prop}{i:Nat}{x:Str}{v:V}{u:Value}{Q:Unit->Shared->Prop}(I:Inv X pins σ H s)(hN:X.N.Nodup)(hi:X.N[i]?=some x)(hx:Loc X.env.scope x)(r:RelV v u)
   (h:∀ s',Inv X pins (σ.set i (some v)) H s'->Q () s') (hf:X.fn x=true\/X.env.scope.names.lookup x=some .local:=by first | exact .inl rfl | exact .inr rfl | assumption):wpAny M A (storeName X.env x u) Q E s :=
 zfd I hN hi hx r (fun s' I' _=>h s' I') hf
theorem Inv.call'{s':Shared}{ch:List Addr}(I:Inv X pins σ H s)(ho:s'.os=s.os)(u:Un (frs X.stack) ch H H' s.heap s'.heap)(hok:HOk X.prog X.w H' s'.heap)(hg:AllBare s'.gens)
   (hch:∀ b∈ch,(b∈X.ex\/X.s₀.heap.objs.size<=b)/\b≠X.env.locals/\(∀ x c,X.env.cells.lookup x=some c->c≠b)/\∀ p∈X.pn++pins,p.1≠b):Inv X pins σ H' s':=by
 obtain⟨h',g',d',t',o'⟩:=s';have e:o'=s.os:=ho;subst e;exact I.call (g':=g') (t':=t') (d':=d') u hok hg hch
end
noncomputable abbrev XK:=Value->Option Addr->Hp->Prop
noncomputable abbrev St:=List (Option V)
noncomputable abbrev VK:=V->Hp->Prop
noncomputable abbrev TE:=St->Hp->VK->Prop
noncomputable abbrev TT:=St->Hp->(Bool->Hp->Prop)->Prop
noncomputable abbrev TA:=St->Hp->(List V->Hp->Prop)->Prop
structure Ends where
 nx:St->Hp->Prop
 rt:VK
 bk:St->Hp->Prop:=fun _ _=>False
 ct:St->Hp->Prop:=fun _ _=>False
noncomputable abbrev TS:=Ends->St->Hp->Prop
def EP(X:Cx)(pins:List (Addr×Obj))(σ:St)(Q:VK)(u:Value)(s':Shared):Prop:=∃ v H',Inv X pins σ H' s'/\RelV v u/\Q v H'
def TP(X:Cx)(pins:List (Addr×Obj))(σ:St)(Q:Bool->Hp->Prop)(b:Bool)(s':Shared):Prop:=∃ H',Inv X pins σ H' s'/\Q b H'
def AP(X:Cx)(pins:List (Addr×Obj))(σ:St)(Q:List V->Hp->Prop)(us:List Value)(s':Shared):Prop:=∃ vs H',Inv X pins σ H' s'/\Vals vs us/\Q vs H'
def SP(X:Cx)(pins:List (Addr×Obj))(D:Ends)(f:Flow)(s':Shared):Prop :=
 match f with
 | .next=>∃ σ' H',Inv X pins σ' H' s'/\D.nx σ' H'
 | .brk=>∃ σ' H',Inv X pins σ' H' s'/\D.bk σ' H'
 | .cont=>∃ σ' H',Inv X pins σ' H' s'/\D.ct σ' H'
 | .ret u=>∃ v σ' H',Inv X pins σ' H' s'/\RelV v u/\D.rt v H'
def PE(X:Cx)(e:Expr)(t:TE):Prop :=
 ∀ (pins:List (Addr×Obj)) (s:Shared) (σ:St) (H:Hp) (Q:VK),Inv X pins σ H s->t σ H Q->wpAny (model X.prog X.w) X.A (eval e X.env) (EP X pins σ Q) X.xe s
def PT(X:Cx)(e:Expr)(t:TT):Prop :=
 ∀ (pins:List (Addr×Obj)) (s:Shared) (σ:St) (H:Hp) (Q:Bool->Hp->Prop),Inv X pins σ H s->t σ H Q->wpAny (model X.prog X.w) X.A (isTrue e X.env (eval e X.env)) (TP X pins σ Q) X.xe s
def PW(X:Cx)(e:Expr)(t:TT):Prop :=
 ∀ (whole:Sem Value) (pins:List (Addr×Obj)) (s:Shared) (σ:St) (H:Hp) (Q:Bool->Hp->Prop),Inv X pins σ H s->t σ H Q->wpAny (model X.prog X.w) X.A (isTrue e X.env whole) (TP X pins σ Q) X.xe s
theorem PW.pt{X:Cx}{e:Expr}{t:TT}(h:PW X e t):PT X e t:=h _
def PA(X:Cx)(es:List Expr)(t:TA):Prop :=
 ∀ (pos:Pos) (pins:List (Addr×Obj)) (s:Shared) (σ:St) (H:Hp) (Q:List V->Hp->Prop),Inv X pins σ H s->t σ H Q->wpAny (model X.prog X.w) X.A (spliced (backTo pos (starEach es X.env))) (AP X pins σ Q) X.xe s
def PS(X:Cx)(st:Stmt)(t:TS):Prop :=
 ∀ (pins:List (Addr×Obj)) (s:Shared) (σ:St) (H:Hp) (D:Ends),Inv X pins σ H s->t D σ H->wpAny (model X.prog X.w) X.A (exec st X.env) (SP X pins D) X.xe s
def PSs(X:Cx)(st:List Stmt)(t:TS):Prop :=
 ∀ (pins:List (Addr×Obj)) (s:Shared) (σ:St) (H:Hp) (D:Ends),Inv X pins σ H s->t D σ H->wpAny (model X.prog X.w) X.A (execs st X.env) (SP X pins D) X.xe s
theorem thn{α:Type}{t:Sem α}{Q Q':α->Shared->Prop}{M:Model}{A:Around}{E:Value->Shared->Prop}{s:Shared}(h:wpAny M A t Q E s)(hQ:∀ a s,Q a s->Q' a s):wpAny M A t Q' E s:=BA h hQ fun _ _ x=>x
section
variable {X:Cx}
noncomputable def tVar(i:Nat):TE:=fun σ H Q=>∃ v,σ[i]?=some (some v)/\Q v H
noncomputable def tC(v:V):TE:=fun _ H Q=>Q v H
theorem znw{i:Nat}{x:Str}{pos:Pos}(hN:X.N[i]?=some x)(hv:Vis X.env.scope x)(hd:(x==("__debug__":Str))=false:=by decide)(hcd:(x==("__classdict__":Str))=false:=by decide):PE X (.Name x pos) (tVar i):=by
 intro pins s σ H Q I h;obtain⟨v,e,h⟩:=h;obtain⟨m,hn,hl⟩:=I.loc;obtain⟨u,r,l⟩:=hl i x v hN e hv;have fin:EP X pins σ Q u s:=⟨v,H,I,r,h⟩
 rcases l with ⟨hk,hm⟩ | ⟨hk,c,hc,hcell⟩
 . exact Fe (wpAny_loadName_local I.ok.kind hk hn hm fin) hd
 . rcases hk with hk | hk
   . exact Fe (wpAny_loadName_cell I.ok.kind hk hc hcell fin) hd
   . exact Fe (wpAny_loadName_free I.ok.kind hk hc hcell fin hcd) hd
theorem znD{i j pos}:PE X (.Constant (.int i) j pos) (tC (.int i)):=fun _ _ _ H _ I h=>wpAny_Constant_int ⟨.int i,H,I.tok _,⟨_,rfl⟩,h⟩
theorem zpe{b j pos}:PE X (.Constant (.bool b) j pos) (tC (.bl b)):=fun _ _ _ H _ I h=>Constant_bool ⟨.bl b,H,I,rfl,h⟩
theorem znB{j pos}:PE X (.Constant .none j pos) (tC .non):=fun _ _ _ H _ I h=>Constant_none ⟨.non,H,I,rfl,h⟩
theorem zny{x j pos}:PE X (.Constant (.str x) j pos) (tC (.str x)):=fun _ _ _ H _ I h=>Calls.Constant_str ⟨.str x,H,I.tok _,⟨_,rfl⟩,h⟩
def Gl(X:Cx)(x:Str):Prop:=X.env.kindOf x=some .globalImplicit
theorem zmk{E:Value->Shared->Prop}{pins:List (Addr×Obj)}{s:Shared}{σ:St}{H:Hp}{x:Str}{u:Value}{pos:Pos}{Q:Value->Shared->Prop}(I:Inv X pins σ H s)(hg:Gl X x)(hm:X.mg x=some u)(h:Q u s)
   (hd:(x==("__debug__":Str))=false:=by decide):wpAny (model X.prog X.w) X.A (eval (.Name x pos) X.env) Q E s :=
 Dg I.ok.kind hg (Calls.loadGlobal_global (by rw[I.ok.glob];exact I.mod.glob.keeps I.bk) hm h) hd
theorem ze2{E:Value->Shared->Prop}{pins:List (Addr×Obj)}{s:Shared}{σ:St}{H:Hp}{x:Str}{u:Value}{pos:Pos}{Q:Value->Shared->Prop}(I:Inv X pins σ H s)(hg:Gl X x)(hm:X.mg x=none)(hv:bootBuiltins x=some u)(h:Q u s)
   (hn:x≠"__name__":=by decide) (hd:(x==("__debug__":Str))=false:=by decide):wpAny (model X.prog X.w) X.A (eval (.Name x pos) X.env) Q E s:=by
 obtain⟨mb,h1,h2⟩:=I.mod.blt;exact Dg I.ok.kind hg (Calls.loadGlobal_builtin (by rw[I.ok.glob];exact I.mod.glob.keeps I.bk) hm (by rw[I.ok.blt];exact h1.keeps I.bk) ((h2 x hn).trans hv) h) hd
theorem zlY{x:Str}{v:V}{u:Value}{pos:Pos}(hg:Gl X x)(hm:X.mg x=none)(hv:bootBuiltins x=some u)(r:RelV v u)(hn:x≠"__name__":=by decide)(hd:(x==("__debug__":Str))=false:=by decide):PE X (.Name x pos) (tC v) :=
 fun _ _ _ H _ I h=>ze2 I hg hm hv ⟨v,H,I,r,h⟩ hn hd
variable {a b:Expr} {ta tb:TE} {pos:Pos}
def PC(X:Cx)(op:CmpOp)(a b:Expr)(t:TE):Prop :=
 ∀ (pins:List (Addr×Obj)) (s:Shared) (σ:St) (H:Hp) (Q:VK),Inv X pins σ H s->t σ H Q ->
   wpAny (model X.prog X.w) X.A (eval a X.env) (fun v s₁=>wpAny (model X.prog X.w) X.A (eval b X.env) (fun u s₂=>wpAny (model X.prog X.w) X.A (compareOp op v u) (EP X pins σ Q) X.xe s₂) X.xe s₁) X.xe s
noncomputable def tB(t:TE):TT:=fun σ H Q=>t σ H fun x H1=>∃ c,x=.bl c/\Q c H1
theorem zlK{op:CmpOp}{t:TE}(h:PC X op a b t)(h1:behindInMarks op b=false:=by first | exact nobehind _ (by decide) (by decide) | rfl):PT X (.Compare a [op] [b] pos) (tB t):=by
 intro pins s σ H Q I hw;refine D3 (thn (h pins s σ H _ I hw) fun v s1 h1=>thn h1 fun u s2 h2=>thn h2 ?_) h1;rintro c s3 ⟨x,H1,I1,r1,q1⟩;obtain⟨d,rfl,q⟩:=q1;cases r1;exact Bl ⟨H1,I1,q⟩
variable {tA tB':TT} {rest:List Expr}
noncomputable def tAnd(t u:TT):TT:=fun σ H Q=>t σ H fun c H1=>if c=true then u σ H1 Q else Q false H1
noncomputable def tOr(t u:TT):TT:=fun σ H Q=>t σ H fun c H1=>if c=true then Q true H1 else u σ H1 Q
noncomputable def tNot(t:TT):TT:=fun σ H Q=>t σ H fun c H1=>Q (!c) H1
theorem pw_and1(ha:PT X a tA):PW X (.BoolOp .And [a] pos) tA:=by
 intro wh pins s σ H Q I h;refine isTrue_and (thn (ha pins s σ H Q I h) fun c s1 e=>?_)
 cases c with
 | true=>exact isTrue_and_nil e
 | false=>exact e
theorem pw_or1(ha:PT X a tA):PW X (.BoolOp .Or [a] pos) tA:=by
 intro wh pins s σ H Q I h;refine isTrue_or (thn (ha pins s σ H Q I h) fun c s1 e=>?_)
 cases c with
 | false=>exact isTrue_or_nil e
 | true=>exact e
theorem pw_and(ha:PT X a tA)(hb:PW X (.BoolOp .And (b::rest) pos) tB'):PW X (.BoolOp .And (a::b::rest) pos) (tAnd tA tB'):=by
 intro wh pins s σ H Q I h;refine isTrue_and (thn (ha pins s σ H _ I h) ?_);rintro c s1 ⟨H1,I1,q1⟩
 cases c with
 | true=>exact hb wh pins s1 σ H1 Q I1 q1
 | false=>exact⟨H1,I1,q1⟩
theorem pw_or(ha:PT X a tA)(hb:PW X (.BoolOp .Or (b::rest) pos) tB'):PW X (.BoolOp .Or (a::b::rest) pos) (tOr tA tB'):=by
 intro wh pins s σ H Q I h;refine isTrue_or (thn (ha pins s σ H _ I h) ?_);rintro c s1 ⟨H1,I1,q1⟩
 cases c with
 | true=>exact⟨H1,I1,q1⟩
 | false=>exact hb wh pins s1 σ H1 Q I1 q1
theorem znm(ha:PT X a tA):PT X (.UnaryOp .Not a pos) (tNot tA):=by
 intro pins s σ H Q I h;exact isTrue_not (ha pins s σ H (fun c H1=>Q (!c) H1) I h)
noncomputable def zo2(ta tb:TE):TE:=fun σ H Q=>ta σ H fun x H1=>∃ c,x=.bl c/\if c=true then tb σ H1 Q else Q (.bl false) H1
noncomputable def zoV(ta:TE):TE:=fun σ H Q=>ta σ H fun x H1=>∃ c,x=.bl c/\Q (.bl (!c)) H1
theorem znz{op}{t:TE}(h:PE X a t):PE X (.BoolOp op [a] pos) t:=fun pins s σ H Q I hw=>BoolOp_one (h pins s σ H Q I hw)
theorem znG(ha:PE X a ta)(hb:PE X (.BoolOp .And (b::rest) pos) tb):PE X (.BoolOp .And (a::b::rest) pos) (zo2 ta tb):=by
 intro pins s σ H Q I h;refine BoolOp_and (thn (ha pins s σ H _ I h) ?_);rintro v s1 ⟨x,H1,I1,r1,q1⟩;obtain⟨c,rfl,q1⟩:=q1;cases r1;refine Bl ?_
 cases c with
 | true=>exact hb pins s1 σ H1 Q I1 q1
 | false=>exact⟨.bl false,H1,I1,rfl,q1⟩
theorem znA(ha:PE X a ta):PE X (.UnaryOp .Not a pos) (zoV ta):=by
 intro pins s σ H Q I h;refine UnaryOp_ (thn (ha pins s σ H _ I h) ?_);rintro v s1 ⟨x,H1,I1,r1,q1⟩;obtain⟨c,rfl,q1⟩:=q1;cases r1;exact not_of (Bl ⟨.bl (!c),H1,I1,rfl,q1⟩)
end
def SqL(K:Ab)(H:Hp)(a:Addr)(xs:List V):Prop :=
 Rd H a (.lst xs) \/
   ∃ (o:Obj) (its:Array Value) (n:Nat),K.lookup a=some o/\o.cls=.type "list"/\o.dict=none/\o.data=.seq its n/\its.size<=sizeLine/\Vals xs its.toList
def SqT(K:Ab)(H:Hp)(a:Addr)(xs:List V):Prop :=
 Rd H a (.tup xs) \/
   ∃ (o:Obj) (its:Array Value) (n:Nat),K.lookup a=some o/\o.cls=.type "tuple"/\o.data=.seq its n/\its.size<=sizeLine/\Vals xs its.toList
noncomputable def absV:Value->Option V
 | .none=>some .non
 | .bool b=>some (.bl b)
 | .int i _=>some (.int i)
 | .str x _=>some (.str x)
 | .bytes b _=>some (.byt b)
 | .float b _=>some (.flt b)
 | .ref a=>some (.ref a)
 | .type n=>some (.ty n)
 | _=>none
theorem RelV.abs{x:V}{u:Value}(r:RelV x u):absV u=some x:=by
 cases x with
 | non=>cases r;rfl
 | bl _=>cases r;rfl
 | int _=>obtain⟨t,rfl⟩:=r;rfl
 | str _=>obtain⟨t,rfl⟩:=r;rfl
 | byt _=>obtain⟨t,rfl⟩:=r;rfl
 | flt _=>obtain⟨t,rfl⟩:=r;rfl
 | ref _=>cases r;rfl
 | ty _=>cases r;rfl
theorem RelV.inj{x y:V}{u:Value}(r:RelV x u)(q:RelV y u):x=y:=Ay (r.abs.symm.trans q.abs)
theorem Vals.inj:∀ {xs ys:List V} {us:List Value},Vals xs us->Vals ys us->xs=ys
 | _,_,_,.nil,.nil=>rfl
 | _,_,_,.cons r t,.cons r' t'=>by rw[r.inj r',Vals.inj t t']
section
variable {X:Cx} {pins:List (Addr×Obj)} {σ:St} {H:Hp} {s:Shared} {a:Addr} {xs ys:List V}
theorem SqL.of{K:Ab}(h:H a=some (.lst xs)):SqL K H a xs:=.inl (.inl h)
theorem SqT.of{K:Ab}(h:H a=some (.tup xs)):SqT K H a xs:=.inl (.inl h)
theorem Inv.list(I:Inv X pins σ H s)(h:SqL X.K H a xs):∃ its:List Value,Vals xs its/\PlainL s.heap a its.toArray/\xs.length<=sizeLine:=by
 rcases h with h | ⟨o,its,n,hk,hc,hd,hs,hz,r⟩
 . obtain⟨z,its,n,r,e⟩:=h.ok I.hok;exact⟨its,r,⟨_,n,e,rfl,rfl,rfl⟩,z⟩
 . refine⟨its.toList,r,⟨o,n,I.kIn a o hk,hc,hd,by simpa using hs⟩,?_⟩;have e:=r.length;simp only[A3] at e;omega
theorem Inv.tuple(I:Inv X pins σ H s)(h:SqT X.K H a xs):∃ its:List Value,Vals xs its/\IsTup s.heap a its.toArray/\xs.length<=sizeLine:=by
 rcases h with h | ⟨o,its,n,hk,hc,hs,hz,r⟩
 . obtain⟨z,its,r,p⟩:=h.ok I.hok;exact⟨its,r,p.t,z⟩
 . refine⟨its.toList,r,⟨o,I.kIn a o hk,hc,n,by simpa using hs⟩,?_⟩;have e:=r.length;simp only[A3] at e;omega
theorem Inv.list_inj(I:Inv X pins σ H s)(h:SqL X.K H a xs)(h':SqL X.K H a ys):xs=ys:=by
 obtain⟨its,r,⟨o,n,e,_,_,d⟩,_⟩:=I.list h;obtain⟨its',r',⟨o',n',e',_,_,d'⟩,_⟩:=I.list h';rw[e] at e';cases e';rw[d] at d';injection d' with d1 _
 have:its=its':=by simpa using congrArg FC d1
 subst this;exact r.inj r'
theorem Inv.tuple_inj(I:Inv X pins σ H s)(h:SqT X.K H a xs)(h':SqT X.K H a ys):xs=ys:=by
 obtain⟨its,r,⟨o,e,_,n,d⟩,_⟩:=I.tuple h;obtain⟨its',r',⟨o',e',_,n',d'⟩,_⟩:=I.tuple h';rw[e] at e';cases e';rw[d] at d';injection d' with d1 _
 have:its=its':=by simpa using congrArg FC d1
 subst this;exact r.inj r'
end
noncomputable abbrev Cx.wish (X:Cx) (E:Value->Shared->Prop):Cx:={ X with xe:=E }
noncomputable abbrev Cx.nox (X:Cx):Cx:=X.wish fun _ _=>False
theorem Cx.Ok.wish{X:Cx}(ok:X.Ok)(E:Value->Shared->Prop):(X.wish E).Ok :=
 ⟨ok.mod,ok.kind,ok.glob,ok.blt,ok.above,ok.inj,ok.has,ok.cab,ok.hd,ok.frames,ok.stk,ok.exf,ok.bs,ok.bsz,ok.noex,ok.exfs,ok.funs,ok.frf⟩
theorem Cx.Ok.unwish{X:Cx}{E:Value->Shared->Prop}(ok:(X.wish E).Ok):X.Ok :=
 ⟨ok.mod,ok.kind,ok.glob,ok.blt,ok.above,ok.inj,ok.has,ok.cab,ok.hd,ok.frames,ok.stk,ok.exf,ok.bs,ok.bsz,ok.noex,ok.exfs,ok.funs,ok.frf⟩
section
variable {X:Cx} {pins:List (Addr×Obj)} {σ:St} {H:Hp} {s:Shared} {E:Value->Shared->Prop}
theorem Inv.wish(I:Inv X pins σ H s)(E:Value->Shared->Prop):Inv (X.wish E) pins σ H s:=⟨I.ok.wish E,I.os,I.bare,I.base,I.loc,I.cell,I.free,I.freeC,I.pin,I.hok,I.len⟩
theorem Inv.unwish(I:Inv (X.wish E) pins σ H s):Inv X pins σ H s:=⟨I.ok.unwish,I.os,I.bare,I.base,I.loc,I.cell,I.free,I.freeC,I.pin,I.hok,I.len⟩
theorem SP.unwish{D:Ends}{f:Flow}{s':Shared}(h:SP (X.wish E) pins D f s'):SP X pins D f s':=by
 cases f with
 | next=>obtain⟨σ',H',I,q⟩:=h;exact⟨σ',H',I.unwish,q⟩
 | brk=>obtain⟨σ',H',I,q⟩:=h;exact⟨σ',H',I.unwish,q⟩
 | cont=>obtain⟨σ',H',I,q⟩:=h;exact⟨σ',H',I.unwish,q⟩
 | ret u=>obtain⟨v,σ',H',I,r,q⟩:=h;exact⟨v,σ',H',I.unwish,r,q⟩
theorem PSs.nox{st:List Stmt}{t:TS}(h:PSs X.nox st t):PSs X st t:=fun pins s σ H D I hw =>
 BA (h pins s σ H D (I.wish _) hw) (fun _ _ q=>q.unwish) fun _ _ z=>False.elim z
end
section
variable {X:Cx} {st:Stmt} {rest:List Stmt} {t u:TS} {e:Expr} {te:TE} {pos:Pos}
noncomputable def zoW:TS:=fun D σ H=>D.nx σ H
noncomputable def tSeq(t u:TS):TS:=fun D σ H=>t { D with nx:=u D } σ H
theorem zlM:PSs X [] zoW:=fun _ _ σ H _ I h=>CO ⟨σ,H,I,h⟩
theorem zj5(h1:PS X st t)(h2:PSs X rest u):PSs X (st::rest) (tSeq t u):=by
 intro pins s σ H D I h;refine wpAny_execs_cons (thn (h1 pins s σ H { D with nx:=u D } I h) fun f s1 q=>?_)
 cases f with
 | next =>
   obtain⟨σ',H',I',q⟩:=q;exact h2 pins s1 σ' H' D I' q
 | ret v=>exact q
 | brk=>exact q
 | cont=>exact q
theorem zlL(h1:PS X st t):PSs X [st] t:=by
 intro pins s σ H D I h;refine wpAny_execs_cons (thn (h1 pins s σ H D I h) fun f s1 q=>?_)
 cases f with
 | next=>exact CO q
 | ret v=>exact q
 | brk=>exact q
 | cont=>exact q
theorem Inv.quiet{pins:List (Addr×Obj)}{σ:St}{H:Hp}{s:Shared}(I:Inv X pins σ H s):interactive X.env=false:=by simp[interactive,I.ok.kind]
noncomputable def zoX(te:TE):TS:=fun D σ H=>te σ H fun _ H1=>D.nx σ H1
theorem zlN(he:PE X e te)(hs:swapsWith e none pos.line X.env=pure false:=by rfl):PS X (.Expr e pos) (zoX te):=by
 intro pins s σ H D I h;exact wpAny_Expr_any (thn (he pins s σ H _ I h) fun v s1 ⟨x,H1,I1,r1,q1⟩=>⟨σ,H1,I1,q1⟩) I.quiet hs
noncomputable def tRet(te:TE):TS:=fun D σ H=>te σ H D.rt
theorem zno(he:PE X e te):PS X (.Return (some e) pos) (tRet te):=by
 intro pins s σ H D I h;exact wpAny_Return_some (thn (he pins s σ H _ I h) fun v s1 ⟨x,H1,I1,r1,q1⟩=>⟨x,σ,H1,I1,r1,q1⟩)
noncomputable def tIfS(c:TT)(t u:TS):TS:=fun D σ H=>c σ H fun b H1=>if b=true then t D σ H1 else u D σ H1
theorem zpa{c:Expr}{a b:List Stmt}{tc:TT}(hc:PT X c tc)(ha:PSs X a t)(hb:PSs X b u):PS X (.If c a b pos) (tIfS tc t u):=by
 intro pins s σ H D I h;refine wpAny_If (thn (hc pins s σ H _ I h) ?_);rintro d s1 ⟨H1,I1,q1⟩
 cases d with
 | true=>exact ha pins s1 σ H1 D I1 q1
 | false=>exact hb pins s1 σ H1 D I1 q1
end
noncomputable abbrev TG:=V->St->Hp->(St->Hp->Prop)->Prop
noncomputable abbrev TGs:=List V->St->Hp->(St->Hp->Prop)->Prop
def PG(X:Cx)(target:Expr)(t:TG):Prop :=
 ∀ (pins:List (Addr×Obj)) (s:Shared) (σ:St) (H:Hp) (v:V) (u:Value) (Q:St->Hp->Prop),Inv X pins σ H s->RelV v u->t v σ H Q ->
   wpAny (model X.prog X.w) X.A (assign target X.env u) (fun _ s'=>∃ σ' H',Inv X pins σ' H' s'/\Q σ' H') X.xe s
def PGs(X:Cx)(ts:List Expr)(t:TGs):Prop :=
 ∀ (pins:List (Addr×Obj)) (s:Shared) (σ:St) (H:Hp) (vs:List V) (us:List Value) (Q:St->Hp->Prop),Inv X pins σ H s->Vals vs us->t vs σ H Q ->
   wpAny (model X.prog X.w) X.A (assignInOrder ((assignEach ts X.env).map (·.2)) us) (fun _ s'=>∃ σ' H',Inv X pins σ' H' s'/\Q σ' H') X.xe s
noncomputable abbrev TSet:=V->V->V->Hp->(Hp->Prop)->Prop
def PSet(X:Cx)(t:TSet):Prop :=
 ∀ (pins:List (Addr×Obj)) (s:Shared) (σ:St) (H:Hp) (o i v:V) (ov iv u:Value) (Q:Hp->Prop),Inv X pins σ H s->RelV o ov->RelV i iv->RelV v u->t o i v H Q ->
   wpAny (model X.prog X.w) X.A (setItem ov iv u) (fun _ s'=>∃ H',Inv X pins σ H' s'/\Q H') X.xe s
section
variable {X:Cx} {pos:Pos}
noncomputable def zoH(i:Nat):TG:=fun v σ H Q=>Q (σ.set i (some v)) H
theorem zlS{i:Nat}{x:Str}(hN:X.N.Nodup)(hi:X.N[i]?=some x)(hx:Loc X.env.scope x)(hf:X.fn x=true\/X.env.scope.names.lookup x=some .local:=by first | exact .inl rfl | exact .inr rfl | assumption):PG X (.Name x pos) (zoH i):=by
 intro pins s σ H v u Q I r h;exact EG (zdJ I hN hi hx r (fun s' I'=>⟨_,H,I',h⟩) hf)
noncomputable def gNil:TGs:=fun vs σ H Q=>vs=[]/\Q σ H
noncomputable def zpq(t:TG)(u:TGs):TGs:=fun vs σ H Q=>∃ v r,vs=v::r/\t v σ H fun σ' H'=>u r σ' H' Q
theorem zlR:PGs X [] gNil:=by
 intro pins s σ H vs us Q I r h;obtain⟨e,h⟩:=h;subst e;cases r;exact EH ⟨σ,H,I,h⟩
theorem zka{e:Expr}{es:List Expr}{t:TG}{u:TGs}(h1:PG X e t)(h2:PGs X es u)
   (hs:(assignEach (e::es) X.env).map (·.2)=assign e X.env::(assignEach es X.env).map (·.2):=by rfl):PGs X (e::es) (zpq t u):=by
 intro pins s σ H vs us Q I r h;obtain⟨v,vr,e1,h⟩:=h;subst e1
 cases r with
 | cons r rr =>
   rw[hs];refine C9 (thn (h1 pins s σ H _ _ _ I r h) ?_);rintro _ s1 ⟨σ1,H1,I1,q1⟩;exact h2 pins s1 σ1 H1 _ _ Q I1 rr q1
noncomputable def gTup(K:Ab)(n:Nat)(t:TGs):TG:=fun v σ H Q=>∃ a xs,v=.ref a/\SqT K H a xs/\xs.length=n/\t xs σ H Q
theorem znu{es:List Expr}{k:Nat}{t:TGs}{n:Nat}(hc:X.calm=true)(h:PGs X es t)
   (hn:(assignEach es X.env).length=n:=by rfl) (hst:(assignEach es X.env).findIdx? (·.1)=none:=by rfl):PG X (.Tuple es k pos) (gTup X.K n t):=by
 intro pins s σ H v u Q I r hw;obtain⟨a,xs,e1,hq,hl,hw⟩:=hw;subst e1;cases r;obtain⟨its,rv,ht,hz⟩:=I.tuple hq;refine assign_Tuple_tuple (I.ok.hd hc) ht (by simp[hn,<-hl,rv.length]) hst fun h' hx=>?_;have I1:Inv X pins σ H { s with heap:=h' }:=I.kept (t':=s.toks) fun b o e=>hx b o (AG (Ak e)) e;exact h pins _ σ H xs _ Q I1 (by simpa using rv) hw
noncomputable def gSub(to ti:TE)(t:TSet):TG:=fun v σ H Q=>to σ H fun o H1=>ti σ H1 fun i H2=>t o i v H2 fun H3=>Q σ H3
theorem znv{o i:Expr}{to ti:TE}{t:TSet}(ho:PE X o to)(hi:PE X i ti)(hs:PSet X t)
   (ha:∀ v,assign (.Subscript o i pos) X.env v=(do
     let ov <-holding [v] (eval o X.env)
     let iv <-holding [v,ov] (eval i X.env)
     standAt pos
     holding [v,ov,iv] (setItem ov iv v)
     release [v,ov,iv] []):=by intro _;rfl):PG X (.Subscript o i pos) (gSub to ti t):=by
 intro pins s σ H v u Q I r h;rw[ha];refine Aa (Bi (thn (ho pins s σ H _ I h) ?_));rintro ov s1 ⟨x,H1,I1,r1,q1⟩;refine Aa (Bi (thn (hi pins s1 σ H1 _ I1 q1) ?_));rintro iv s2 ⟨y,H2,I2,r2,q2⟩;refine Aa (CI (Aa (Bi (thn (hs pins s2 σ H2 x y v ov iv u _ I2 r1 r2 r q2) ?_))));rintro _ s3 ⟨H3,I3,q3⟩;exact wpAny_release ⟨σ,H3,I3,q3⟩
noncomputable def tAsg(te:TE)(g:TG):TS:=fun D σ H=>te σ H fun x H1=>g x σ H1 D.nx
theorem znr{tg e:Expr}{te:TE}{g:TG}(he:PE X e te)(hg:PG X tg g)(hs:swapsWithSole [tg] e pos.line X.env=pure false:=by rfl)(hw:swappedStores [tg] e X.env=pure none:=by rfl)
   (h1:(assignEach [tg] X.env).map (·.2)=[assign tg X.env]:=by rfl):PS X (.Assign [tg] e pos) (tAsg te g):=by
 intro pins s σ H D I h;refine wpAny_Assign_stores (thn (he pins s σ H _ I h) ?_) hs hw;rintro v s1 ⟨x,H1,I1,r1,q1⟩;rw[h1];exact thn (hg pins s1 σ H1 x v _ I1 r1 q1) fun _ s2 q=>q
theorem znn{i:Nat}{x:Str}{e:Expr}{te:TE}{pos':Pos}(hN:X.N.Nodup)(hi:X.N[i]?=some x)(hx:Loc X.env.scope x)(he:PE X e te)(hs:swapsWith e (some (.Name x pos')) pos.line X.env=pure false:=by rfl)(hf:X.fn x=true\/X.env.scope.names.lookup x=some .local:=by first | exact .inl rfl | exact .inr rfl | assumption) :
   PS X (.Assign [.Name x pos'] e pos) (tAsg te (zoH i)):=by
 intro pins s σ H D I h;refine wpAny_Assign_Name (thn (he pins s σ H _ I h) ?_) hs;rintro v s1 ⟨y,H1,I1,r1,q1⟩;exact zdJ I1 hN hi hx r1 (fun s2 I2=>⟨_,H1,I2,q1⟩) hf
noncomputable def tPar(i j:Nat)(ta:TA):TS:=fun D σ H=>ta σ H fun vs H1=>∃ v w,vs=[v,w]/\D.nx ((σ.set i (some v)).set j (some w)) H1
theorem znp{i j:Nat}{x y:Str}{a b:Expr}{ta:TA}{px py pt:Pos}{kt k2 pt2}(hc:X.calm=true)(hN:X.N.Nodup)(hi:X.N[i]?=some x)(hj:X.N[j]?=some y)(hij:i≠j)
   (hx:X.env.scope.names.lookup x=some .local) (hy:X.env.scope.names.lookup y=some .local) (ha:PA X [a,b] ta)
   (hw:swappedStores [.Tuple [.Name x px,.Name y py] kt pt] (.Tuple [a,b] k2 pt2) X.env=pure (some [x,y]))
   (hs:swapsWithSole [.Tuple [.Name x px,.Name y py] kt pt] (.Tuple [a,b] k2 pt2) pos.line X.env=pure false:=by rfl) :
   PS X (.Assign [.Tuple [.Name x px,.Name y py] kt pt] (.Tuple [a,b] k2 pt2) pos) (tPar i j ta):=by
 intro pins s σ H D I h;rw[exec_Assign_arm];refine Aa (CI ?_);rw[hs];refine Aa (Ae ?_);rw[if_neg (by decide)];refine Aa (Tuple_ (thn (ha _ pins s σ H _ I h) ?_));rintro us s1 ⟨vs,H1,I1,r1,q1⟩;obtain⟨v,w,e1,q1⟩:=q1;subst e1;obtain⟨u1,u2,rfl,rv,rw'⟩:∃ u1 u2,us=[u1,u2]/\RelV v u1/\RelV w u2:=by
   cases r1 with
   | cons p q =>
     cases q with
     | cons p' q' =>
       cases q';exact⟨_,_,rfl,p,p'⟩
 refine AR ?_ (by show 2<=sizeLine;decide);have I2:Inv X pins σ H1 { s1 with heap:=s1.heap.push { cls:=.type "tuple",data:=.seq [u1,u2].toArray } }:=I1.kept (t':=s1.toks) fun b o e=>Ad _ e;rw[hw];refine Aa (Ae ?_);show wpAny (model X.prog X.w) X.A (do rule "assign.swapped-stores";let items <-unpackItems (.ref s1.heap.objs.size) 2 none;assignInOrder [fun v=>bindName X.env y v,fun v=>bindName X.env x v] items.reverse;pure Flow.next) _ _ _;refine Aa (Eg (Aa (unpackItems_tuple (items:=#[u1,u2]) (I.ok.hd hc) (IsTup.new s1.heap _) fun h' hx'=>?_)));have I3:=I2.kept (h':=h') (t':=s1.toks) fun b o e=>hx' b o (AG (Ak e)) e;show wpAny _ _ (assignInOrder [fun v=>bindName X.env y v,fun v=>bindName X.env x v] [u2,u1] >>= fun _=>pure Flow.next) _ _ _;refine Aa (C9 (wpAny_bindName (zdJ I3 hN hj (.inl hy) rw' (fun s2 I4=>?_) (.inr hy))));refine C9 (wpAny_bindName (zdJ I4 hN hi (.inl hx) rv (fun s3 I5=>EH (Ae ?_)) (.inr hx)));rw[List.set_comm _ _ (A7 hij)] at I5;exact⟨_,H1,I5,q1⟩
end
section
variable {X:Cx} {pos:Pos}
noncomputable def zmY(c:TT)(tb:TS):TS:=fun D σ H=>∃ W:Nat->St->Hp->Prop,(∃ m,W m σ H)/\∀ m σ H,W m σ H ->
 c σ H fun b H1=>if b=true then ∃ N:St->Hp->Prop,(∀ σ' H',N σ' H'->∃ m',m' < m/\W m' σ' H')/\tb { D with nx:=N,ct:=N,bk:=D.nx } σ H1 else D.nx σ H1
theorem zj6{c:Expr}{body:List Stmt}{tc:TT}{tb:TS}(hp:PassesOwn (model X.prog X.w) X.A X.env X.xe)(hc:PT X c tc)(hb:PSs X body tb):PS X (.While c body [] pos) (zmY tc tb):=by
 intro pins s σ H D I h;obtain⟨W,⟨m0,w0⟩,turn⟩:=h;refine wpAny_While (codeAny_whileLoop (fun n s'=>∃ σ' H',Inv X pins σ' H' s'/\W n σ' H') ?_ m0 ⟨σ,H,I,w0⟩);rintro n s1 ⟨σ1,H1,I1,w1⟩;refine BN hp (thn (hc pins s1 σ1 H1 _ I1 (turn n σ1 H1 w1)) ?_);rintro b s2 ⟨H2,I2,q2⟩
 cases b with
 | true =>
   obtain⟨N,hN,q2⟩:=q2;rw[if_pos rfl];refine BN hp (thn (hb pins s2 σ1 H2 _ I2 q2) fun f s3 q3=>?_)
   cases f with
   | next =>
     obtain⟨σ3,H3,I3,n3⟩:=q3;obtain⟨m',hm,w3⟩:=hN σ3 H3 n3;exact⟨m',hm,σ3,H3,I3,w3⟩
   | cont =>
     obtain⟨σ3,H3,I3,n3⟩:=q3;obtain⟨m',hm,w3⟩:=hN σ3 H3 n3;exact⟨m',hm,σ3,H3,I3,w3⟩
   | brk=>exact q3
   | ret v=>exact q3
 | false =>
   rw[if_neg A9];exact CO ⟨σ1,H2,I2,q2⟩
end
structure It where
 go:Nat->Hp->Prop
 yld:Nat->Hp->V->Hp->Prop
 stop:Nat->Hp->Prop
def FpOk(X:Cx)(pins:List (Addr×Obj))(H:Hp)(b:Addr):Prop :=
 H b=none/\b≠X.env.locals/\b ∉ X.fs/\(b∈X.ex\/X.s₀.heap.objs.size<=b)/\(∀ x c,X.env.cells.lookup x=some c->c≠b)/\∀ p∈X.pn++pins,p.1≠b
theorem Inv.fpOk{X:Cx}{pins:List (Addr×Obj)}{σ:St}{H H':Hp}{s:Shared}{b:Addr}(I:Inv X pins σ H s)(hb:s.heap.objs.size<=b)(hn:H' b=none):FpOk X pins H' b:=by
 refine⟨hn,CP (Ap I.lt hb),I.nofs hb,.inr (AC I.sz hb),fun x c e z=>?_,fun p hp z=>?_⟩
 . obtain⟨v,q⟩:=I.cell x c e;exact absurd (Ap q.lt (by rw[z];exact hb)) (AU _)
 . exact absurd (Ap (Ak (I.pin p hp).1) (by rw[z];exact hb)) (AU _)
structure Turn(P:Program)(w:World)(K:Ab)(tg:Expr)(J:It)(fp:List Addr)(it:Addr)(tn:Nat->Heap->Prop):Prop where
 mem:it∈fp
 obj:∀ i h,tn i h->∀ b∈fp,∃ o,h.get? b=some o/\∀ v,o.data≠.cell v
 keep:∀ i h h',tn i h->(∀ b∈fp,∀ o,h.get? b=some o->h'.get? b=some o)->tn i h'
 item:∀ (X:Cx),X.prog=P->X.w=w->X.K=K->X.calm=true->∀ (i:Nat) (pins:List (Addr×Obj)) (s:Shared) (σ:St) (H:Hp) (E:Value->Shared->Prop),Inv X pins σ H s->(∀ b∈fp,FpOk X pins H b)->tn i s.heap->J.go i H ->
   wpAny (model P w) X.A (pyNext (.ref it)) (fun r s1=>∃ u,r=some u /\
     wpAny (model P w) X.A (letOwnedTupleGo tg (.ref it) u) (fun _ s2=>∃ x H',Inv X pins σ H' s2/\RelV x u/\J.yld i H x H'/\tn (i+1) s2.heap/\∀ b∈fp,H' b=none) E s1) E s
 done:∀ (X:Cx),X.prog=P->X.w=w->X.K=K->X.calm=true->∀ (i:Nat) (pins:List (Addr×Obj)) (s:Shared) (σ:St) (H:Hp) (E:Value->Shared->Prop),Inv X pins σ H s->(∀ b∈fp,FpOk X pins H b)->tn i s.heap->J.stop i H ->
   wpAny (model P w) X.A (pyNext (.ref it)) (fun r s1=>r=none/\Inv X pins σ H s1) E s
 self:∀ (A:Around) (i:Nat) (s:Shared) (Q:Value->Shared->Prop) (E:Value->Shared->Prop),tn i s.heap->Q (.ref it) s->wpAny (model P w) A (pyIter (.ref it)) Q E s
noncomputable abbrev TI:=St->Hp->(It->Hp->Prop)->Prop
def PIE(X:Cx)(pins:List (Addr×Obj))(σ:St)(tg:Expr)(R:It->Hp->Prop)(itv:Value)(s2:Shared):Prop :=
 ∃ (it:Addr) (fp:List Addr) (tn:Nat->Heap->Prop) (J:It) (H':Hp),itv=.ref it/\Inv X pins σ H' s2/\Turn X.prog X.w X.K tg J fp it tn/\tn 0 s2.heap/\(∀ b∈fp,FpOk X pins H' b)/\R J H'
def PI(X:Cx)(tg iter:Expr)(wi:TI):Prop :=
 ∀ (pins:List (Addr×Obj)) (s:Shared) (σ:St) (H:Hp) (R:It->Hp->Prop),Inv X pins σ H s->wi σ H R ->
   wpAny (model X.prog X.w) X.A (eval iter X.env) (fun v s1=>wpAny (model X.prog X.w) X.A (pyIter v) (PIE X pins σ tg R) X.xe s1) X.xe s
theorem zmP{M:Model}{A:Around}{E:Value->Shared->Prop}{s:Shared}{tg:Expr}{it:Addr}{u:Value}{o:Obj}{n:String}{vs:Array Value}{Q:Unit->Shared->Prop}(ho:s.heap.get? it=some o)(hc:o.cls=.type n)(hd:o.data=.fields vs)
   (hn:["enumerate","zip","dict_itemiterator","dict_reverseitemiterator","odict_iterator","itertools.zip_longest","itertools.pairwise"].contains n=false) (hQ:Q () s):wpAny M A (letOwnedTupleGo tg (.ref it) u) Q E s:=by
 unfold letOwnedTupleGo
 cases tg <;> first
   | exact Ae hQ
   | (cases u <;> first
       | exact Ae hQ
       | (refine Aa (wpAny_load ho ?_)
          rw[hc,hd];show wpAny M A (if (["enumerate","zip","dict_itemiterator","dict_reverseitemiterator","odict_iterator","itertools.zip_longest","itertools.pairwise"].contains n&&vs[0]?==some (rawInt _))=true then _ else _) Q E s;rw[if_neg (by intro h;rw[hn,Bool.false_and] at h;cases h)];exact Ae hQ))
noncomputable def Itl(K:Ab)(a:Addr):It :=
 ⟨fun i H=>∃ xs x,SqL K H a xs/\xs[i]?=some x,fun i H x H'=>H'=H/\∀ xs,SqL K H a xs->xs[i]?=some x,fun i H=>∃ xs,SqL K H a xs/\xs.length<=i⟩
noncomputable def Itt(K:Ab)(a:Addr):It :=
 ⟨fun i H=>∃ xs x,SqT K H a xs/\xs[i]?=some x,fun i H x H'=>H'=H/\∀ xs,SqT K H a xs->xs[i]?=some x,fun i H=>∃ xs,SqT K H a xs/\xs.length<=i⟩
noncomputable def Itr(lo:Int)(n:Nat):It:=⟨fun i _=>i < n,fun i H x H'=>H'=H/\x=.int (lo+i),fun i _=>n<=i⟩
theorem zhO{P:Program}{w:World}{K:Ab}{tg:Expr}(a it:Addr):Turn P w K tg (Itl K a) [it] it (fun i h=>h.IsListIter it a i) where
 mem:=by simp
 obj:=fun i h st b hb=>by
   have e:b=it:=by simpa using hb
   subst e;obtain⟨o,e,c,d⟩:=st;exact⟨o,e,fun v z=>by rw[d] at z;cases z⟩
 keep:=fun i h h' st k=>st.at fun o e=>k it (by simp) o e
 item:=by
   intro X hP hw hK hc i pins s σ H E I hf st hg;subst hP hw hK;obtain⟨xs,x,hq,hx⟩:=hg;obtain⟨its,rv,p,hz⟩:=I.list hq;obtain⟨u,hu,ru⟩:=rv.get hx;obtain⟨f0,f1,f2,f3,f4,f5⟩:=hf it (by simp);refine wpAny_pyNext_list_item st p.isList (x:=u) (by simpa using hu) fun h' st' sb=>?_;have I1:Inv X pins σ H { s with heap:=h' }:=I.turned (t':=s.toks) (fun b o hb e=>(sb.2 b hb).trans e) f0 f1 f3 f4 f5;obtain⟨o,e,c,d⟩:=id st';exact⟨u,rfl,zmP (s:={ s with heap:=h' }) e c d (by decide) ⟨x,H,I1,ru,⟨rfl,fun ys hy=>by rw[I.list_inj hy hq];exact hx⟩,st',fun b hb=>(hf b hb).1⟩⟩
 done:=by
   intro X hP hw hK hc i pins s σ H E I hf st hg;subst hP hw hK;obtain⟨xs,hq,hx⟩:=hg;obtain⟨its,rv,p,hz⟩:=I.list hq;obtain⟨f0,f1,f2,f3,f4,f5⟩:=hf it (by simp);have hl:=rv.length;exact wpAny_pyNext_list_end (I.ok.hd hc) st p.isList (by simp;omega) fun h' eb=>⟨rfl,I.turned (t':=s.toks) (fun b o hb e=>eb b o hb e) f0 f1 f3 f4 f5⟩
 self:=fun _ _ _ _ _ st h=>wpAny_pyIter_listiter st h
theorem zgk{P:Program}{w:World}{K:Ab}{tg:Expr}(a it:Addr):Turn P w K tg (Itt K a) [it] it (fun i h=>h.IsTupleIter it a i) where
 mem:=by simp
 obj:=fun i h st b hb=>by
   have e:b=it:=by simpa using hb
   subst e;obtain⟨o,e,c,d⟩:=st;exact⟨o,e,fun v z=>by rw[d] at z;cases z⟩
 keep:=fun i h h' st k=>st.at fun o e=>k it (by simp) o e
 item:=by
   intro X hP hw hK hc i pins s σ H E I hf st hg;subst hP hw hK;obtain⟨xs,x,hq,hx⟩:=hg;obtain⟨its,rv,p,hz⟩:=I.tuple hq;obtain⟨u,hu,ru⟩:=rv.get hx;obtain⟨f0,f1,f2,f3,f4,f5⟩:=hf it (by simp);refine wpAny_pyNext_tuple_item st (show s.heap.IsTuple a its.toArray from p) (x:=u) (by simpa using hu) fun h' st' sb=>?_;have I1:Inv X pins σ H { s with heap:=h' }:=I.turned (t':=s.toks) (fun b o hb e=>(sb.2 b hb).trans e) f0 f1 f3 f4 f5;obtain⟨o,e,c,d⟩:=id st';exact⟨u,rfl,zmP (s:={ s with heap:=h' }) e c d (by decide) ⟨x,H,I1,ru,⟨rfl,fun ys hy=>by rw[I.tuple_inj hy hq];exact hx⟩,st',fun b hb=>(hf b hb).1⟩⟩
 done:=by
   intro X hP hw hK hc i pins s σ H E I hf st hg;subst hP hw hK;obtain⟨xs,hq,hx⟩:=hg;obtain⟨its,rv,p,hz⟩:=I.tuple hq;obtain⟨f0,f1,f2,f3,f4,f5⟩:=hf it (by simp);have hl:=rv.length;exact wpAny_pyNext_tuple_end (I.ok.hd hc) st (show s.heap.IsTuple a its.toArray from p) (by simp;omega) fun h' eb=>⟨rfl,I.turned (t':=s.toks) (fun b o hb e=>eb b o hb e) f0 f1 f3 f4 f5⟩
 self:=fun _ _ _ _ _ st h=>wpAny_pyIter_tupleiter st h
theorem zgl{P:Program}{w:World}{K:Ab}{tg:Expr}(it:Addr)(lo:Int)(n:Nat):Turn P w K tg (Itr lo n) [it] it (fun i h=>IsRangeIter h it (lo+(i:Nat)*1) ((n:Int) - (i:Nat)) 1) where
 mem:=by simp
 obj:=fun i h st b hb=>by
   have e:b=it:=by simpa using hb
   subst e;exact⟨_,st,fun v z=>by
     have z':Data.fields _=Data.cell v:=z;cases z'⟩
 keep:=fun i h h' st k=>k it (by simp) _ st
 item:=by
   intro X hP hw hK hc i pins s σ H E I hf st hg;subst hP hw hK;obtain⟨f0,f1,f2,f3,f4,f5⟩:=hf it (by simp);have W:=Walks.range (prog:=X.prog) (w:=X.w) (I.ok.hd hc) it lo 1 n;refine W.item i s _ _ hg st fun v h' tk hv st' kk=>?_;obtain⟨t,rfl⟩:=hv;have I1:Inv X pins σ H { s with heap:=h',toks:=tk }:=I.turned (fun b o hb e=>kk b o (by simpa using hb) e) f0 f1 f3 f4 f5;refine⟨_,rfl,zmP (s:={ s with heap:=h',toks:=tk }) (n:="range_iterator") st' rfl rfl (by decide) ⟨.int (lo+i),H,I1,⟨t,?_⟩,⟨rfl,rfl⟩,st',fun b hb=>(hf b hb).1⟩⟩;rw[Int.mul_one]
 done:=by
   intro X hP hw hK hc i pins s σ H E I hf st hg;subst hP hw hK;obtain⟨f0,f1,f2,f3,f4,f5⟩:=hf it (by simp);exact wpAny_pyNext_range_end (I.ok.hd hc) st (by have:n<=i:=hg;omega) fun h' eb=>⟨rfl,I.turned (t':=s.toks) (fun b o hb e=>eb b o hb e) f0 f1 f3 f4 f5⟩
 self:=fun _ _ _ _ _ st h=>wpAny_pyIter_rangeiter st h
section
variable {X:Cx} {tg:Expr}
noncomputable def zpp(K:Ab)(tl:TE):TI:=fun σ H R=>tl σ H fun x H1=>∃ a,x=.ref a/\(∃ xs,SqL K H1 a xs)/\R (Itl K a) H1
noncomputable def iTup(K:Ab)(tl:TE):TI:=fun σ H R=>tl σ H fun x H1=>∃ a,x=.ref a/\(∃ xs,SqT K H1 a xs)/\R (Itt K a) H1
theorem zlQ{l:Expr}{tl:TE}(hl:PE X l tl):PI X tg l (zpp X.K tl):=by
 intro pins s σ H R I h;refine thn (hl pins s σ H _ I h) ?_;rintro v s1 ⟨x,H1,I1,r1,q1⟩;obtain⟨a,e,⟨xs,hq⟩,q⟩:=q1;subst e;cases r1;obtain⟨its,rv,p,hz⟩:=I1.list hq;refine Do p.isList ?_;refine⟨s1.heap.objs.size,[s1.heap.objs.size],_,_,H1,rfl,I1.kept (t':=s1.toks) fun b o e=>Ad _ e,zhO a _,⟨_,Ar _ rfl,rfl,rfl⟩,fun b hb=>?_,q⟩;have e:b=s1.heap.objs.size:=by simpa using hb
 subst e;exact I1.fpOk (Af _) (I1.hok.fresh (Af _))
theorem zns{l:Expr}{tl:TE}(hl:PE X l tl):PI X tg l (iTup X.K tl):=by
 intro pins s σ H R I h;refine thn (hl pins s σ H _ I h) ?_;rintro v s1 ⟨x,H1,I1,r1,q1⟩;obtain⟨a,e,⟨xs,hq⟩,q⟩:=q1;subst e;cases r1;obtain⟨its,rv,p,hz⟩:=I1.tuple hq;refine Da (show s1.heap.IsTuple a its.toArray from p) ?_;refine⟨s1.heap.objs.size,[s1.heap.objs.size],_,_,H1,rfl,I1.kept (t':=s1.toks) fun b o e=>Ad _ e,zgk a _,⟨_,Ar _ rfl,rfl,rfl⟩,fun b hb=>?_,q⟩;have e:b=s1.heap.objs.size:=by simpa using hb
 subst e;exact I1.fpOk (Af _) (I1.hok.fresh (Af _))
theorem zgK{pins:List (Addr×Obj)}{σ:St}{H:Hp}{s:Shared}{R:It->Hp->Prop}{E:Value->Shared->Prop}{lo hi:Int}{t u v:Tok}{tk:Nat}(I:Inv X pins σ H s)(h1:-(2 ^ 62)<=lo)(h2:lo < 2 ^ 62)(h3:-(2 ^ 62)<=hi)(h4:hi < 2 ^ 62)
   (q:R (Itr lo (hi - lo).toNat) H):wpAny (model X.prog X.w) X.A (pyIter (.ref s.heap.objs.size)) (PIE X pins σ tg R) E { s with heap:=s.heap.push { cls:=.type "range",data:=.fields #[.int lo t,.int hi u,.int 1 v] },toks:=tk }:=by
 refine wpAny_pyIter_range (IsRange.new ..) (small_one h1 h2 h3 h4) ?_;have I1:Inv X pins σ H { s with heap:=s.heap.push { cls:=.type "range",data:=.fields #[.int lo t,.int hi u,.int 1 v] },toks:=tk }:=I.kept fun b o e=>Ad _ e;refine⟨(s.heap.push { cls:=.type "range",data:=.fields #[.int lo t,.int hi u,.int 1 v] }).objs.size,[(s.heap.push { cls:=.type "range",data:=.fields #[.int lo t,.int hi u,.int 1 v] }).objs.size],_,_,H,rfl,
   I1.kept (t':=tk) fun b o e=>Ad _ e,zgl _ lo (hi - lo).toNat,?_,fun b hb=>?_,q⟩
 . have e1:lo+((0:Nat):Int)*1=lo:=by simp
   have e2:(((hi - lo).toNat:Nat):Int) - ((0:Nat):Int)=Builtin.Range.rangeSize lo hi 1:=by rw[rangeSize_one];split <;> omega
   show IsRangeIter _ _ (lo+((0:Nat):Int)*1) ((((hi - lo).toNat:Nat):Int) - ((0:Nat):Int)) 1;rw[e1,e2];exact Ar _ rfl
 . have e:b=(s.heap.push { cls:=.type "range",data:=.fields #[.int lo t,.int hi u,.int 1 v] }).objs.size:=by simpa using hb
   subst e;exact I1.fpOk (Af _) (I1.hok.fresh (Af _))
noncomputable def zpo(ta:TA):TI:=fun σ H R=>ta σ H fun vs H1=>∃ j:Int,vs=[.int j]/\-(2 ^ 62)<=j/\j < 2 ^ 62/\R (Itr 0 j.toNat) H1
noncomputable def zpn(ta:TA):TI:=fun σ H R=>ta σ H fun vs H1=>∃ i j:Int,vs=[.int i,.int j]/\(-(2 ^ 62)<=i/\i < 2 ^ 62/\-(2 ^ 62)<=j/\j < 2 ^ 62)/\R (Itr i (j - i).toNat) H1
theorem zig{a:Expr}{ta:TA}{p pos:Pos}(hg:Gl X "range")(hm:X.mg "range"=none)(ha:PA X [a] ta)(hs:starEach [a] X.env=[(false,eval a X.env)]:=by rfl):PI X tg (.Call (.Name "range" p) [a] [] pos) (zpo ta):=by
 intro pins s σ H R I h;refine Call_ (ze2 I hg hm boot_range (By (thn (ha pos pins s σ H _ I h) ?_) hs rfl));rintro us s1 ⟨vs,H1,I1,r1,q1⟩;obtain⟨j,e,q1,q2,q⟩:=q1;subst e
 cases r1 with
 | cons r rr =>
   cases rr;obtain⟨t,rfl⟩:=r;exact call_range_1 (zgK I1 (by omega) (by omega) q1 q2 (by simpa using q))
theorem zif{a b:Expr}{ta:TA}{p pos:Pos}(hg:Gl X "range")(hm:X.mg "range"=none)(ha:PA X [a,b] ta)(hs:starEach [a,b] X.env=[(false,eval a X.env),(false,eval b X.env)]:=by rfl)(hs2:starEach [b] X.env=[(false,eval b X.env)]:=by rfl) :
   PI X tg (.Call (.Name "range" p) [a,b] [] pos) (zpn ta):=by
 intro pins s σ H R I h;refine Call_ (ze2 I hg hm boot_range (By (thn (ha pos pins s σ H _ I h) ?_) (by rw[hs,hs2]) (by rw[hs2];rfl)));rintro us s1 ⟨vs,H1,I1,r1,q1⟩;obtain⟨i,j,e,⟨q1,q2,q3,q4⟩,q⟩:=q1;subst e
 cases r1 with
 | cons r rr =>
   cases rr with
   | cons r' rr =>
     cases rr;obtain⟨t,rfl⟩:=r;obtain⟨t',rfl⟩:=r';exact call_range_2 (zgK I1 q1 q2 q3 q4 q)
noncomputable def tFor(wi:TI)(g:TG)(tb:TS):TS:=fun D σ H=>wi σ H fun J H1=>∃ W:Nat->Nat->St->Hp->Prop,(∃ m,W 0 m σ H1)/\∀ i m σ H,W i m σ H ->
 (J.stop i H/\D.nx σ H)\/(J.go i H/\∃ N:St->Hp->Prop,(∀ σ' H',N σ' H'->∃ m',m' < m/\W (i+1) m' σ' H')/\∀ x H',J.yld i H x H'->g x σ H' fun σ2 H2=>tb { D with nx:=N,ct:=N,bk:=D.nx } σ2 H2)
noncomputable def zgO(fp:List Addr)(h:Heap):List (Addr×Obj):=fp.filterMap fun b=>(h.get? b).map fun o=>(b,o)
theorem zce{fp:List Addr}{h:Heap}{b:Addr}{o:Obj}(hb:b∈fp)(e:h.get? b=some o):(b,o)∈zgO fp h:=List.mem_filterMap.mpr ⟨b,hb,by rw[e];rfl⟩
theorem zim{fp:List Addr}{h:Heap}{p:Addr×Obj}(hp:p∈zgO fp h):p.1∈fp/\h.get? p.1=some p.2:=by
 obtain⟨b,hb,e⟩:=List.mem_filterMap.mp hp
 cases q:h.get? b with
 | none=>rw[q] at e;cases e
 | some o =>
   rw[q] at e;have e':(b,o)=p:=Ay e;subst e';exact⟨hb,q⟩
theorem Inv.pinned{pins:List (Addr×Obj)}{σ:St}{H:Hp}{s:Shared}{fp:List Addr}(I:Inv X pins σ H s)(hf:∀ b∈fp,FpOk X pins H b)(ho:∀ b∈fp,∃ o,s.heap.get? b=some o/\∀ v,o.data≠.cell v):Inv X (pins++zgO fp s.heap) σ H s :=
 I.pins_of fun p hp=>(List.mem_append.mp hp).elim (fun z=>I.pin p (AN _ z)) fun z=>by
   obtain⟨hb,e⟩:=zim z;obtain⟨f0,f1,f2,_⟩:=hf p.1 hb;obtain⟨o,e',d⟩:=ho p.1 hb;rw[e] at e';cases e';exact⟨e,f0,f1,f2,d⟩
theorem Inv.unpinned{pins pl:List (Addr×Obj)}{σ:St}{H:Hp}{s:Shared}(I:Inv X (pins++pl) σ H s):Inv X pins σ H s:=I.pins_of fun p hp=>I.pin p (AN _ (AK _ hp))
theorem znq{iter:Expr}{body:List Stmt}{wi:TI}{g:TG}{tb:TS}{pos:Pos}(hp:PassesOwn (model X.prog X.w) X.A X.env X.xe)(hc:X.calm=true)(hi:PI X tg iter wi)(hg:PG X tg g)(hb:PSs X body tb)
   (hs:∀ x,foldedSetIterable iter X.env x=pure x:=by intro _;rfl):PS X (.For tg iter body [] pos) (tFor wi g tb):=by
 intro pins s σ H D I h;refine wpAny_For (thn (hi pins s σ H _ I h) fun v s1 h1=>thn h1 fun itv s2 h2=>?_) hs;obtain⟨it,fp,tn,J,H2,e,I2,T,st2,f2,W,⟨m0,w0⟩,turn⟩:=h2;subst e
 -- what stays true of the iterator's objects through the loop
 have stat:∀ {H':Hp},(∀ b∈fp,H' b=none)->∀ b∈fp,FpOk X pins H' b:=fun hn b hb=>⟨hn b hb,(f2 b hb).2⟩
 refine codeAny_forLoop_any (fun n s'=>∃ i σ' H',Inv X pins σ' H' s'/\tn i s'.heap/\(∀ b∈fp,H' b=none)/\W i n σ' H') ?_ m0 ⟨0,σ,H2,I2,st2,fun b hb=>(f2 b hb).1,w0⟩;rintro n s3 ⟨i,σ3,H3,I3,st3,fr3,w3⟩
 rcases turn i n σ3 H3 w3 with ⟨stop,qn⟩ | ⟨go,N,hN,step⟩
 . refine BN hp (thn (T.done X rfl rfl rfl hc i pins s3 σ3 H3 X.xe I3 (stat fr3) st3 stop) ?_);rintro r s4 ⟨hr,I4⟩;subst hr;exact CO ⟨σ3,H3,I4,qn⟩
 . refine BN hp (thn (T.item X rfl rfl rfl hc i pins s3 σ3 H3 X.xe I3 (stat fr3) st3 go) ?_);rintro r s4 ⟨u,hr,h4⟩;subst hr;refine BN hp (thn h4 ?_);rintro _ s5 ⟨x,H5,I5,r5,y5,st5,fr5⟩;have I5':=I5.pinned (stat fr5) (T.obj _ _ st5);refine BN hp (thn (hg _ s5 σ3 H5 x u _ I5' r5 (step x H5 y5)) ?_);rintro _ s6 ⟨σ6,H6,I6,q6⟩;refine BN hp (thn (hb _ s6 σ6 H6 _ I6 q6) fun f s7 q7=>?_);have again:∀ {σ7:St} {H7:Hp},Inv X (pins++zgO fp s5.heap) σ7 H7 s7->N σ7 H7->∃ m,m < n/\∃ i σ' H',Inv X pins σ' H' s7/\tn i s7.heap/\(∀ b∈fp,H' b=none)/\W i m σ' H':=fun {σ7 H7} I7 n7=>by
     obtain⟨m',hm,w7⟩:=hN σ7 H7 n7;refine⟨m',hm,i+1,σ7,H7,I7.unpinned,T.keep _ _ _ st5 fun b hb o e=>(I7.pin (b,o) (AN _ (AN _ (zce hb e)))).1,fun b hb=>?_,w7⟩;obtain⟨o,e,d⟩:=T.obj _ _ st5 b hb;exact (I7.pin (b,o) (AN _ (AN _ (zce hb e)))).2.1
   cases f with
   | next=>obtain⟨σ7,H7,I7,n7⟩:=q7;exact again I7 n7
   | cont=>obtain⟨σ7,H7,I7,n7⟩:=q7;exact again I7 n7
   | brk=>obtain⟨σ7,H7,I7,q7⟩:=q7;exact⟨σ7,H7,I7.unpinned,q7⟩
   | ret v=>obtain⟨x7,σ7,H7,I7,r7,q7⟩:=q7;exact⟨x7,σ7,H7,I7.unpinned,r7,q7⟩
end
noncomputable abbrev R2:=V->V->Hp->VK->Prop
def OpR(X:Cx)(f:Value->Value->Sem Value)(r:R2):Prop :=
 ∀ (pins:List (Addr×Obj)) (s:Shared) (σ:St) (H:Hp) (x y:V) (v u:Value) (Q:VK),Inv X pins σ H s->RelV x v->RelV y u->r x y H Q ->
   wpAny (model X.prog X.w) X.A (f v u) (EP X pins σ Q) X.xe s
def UnR(X:Cx)(f:Value->Sem Value)(r:V->Hp->VK->Prop):Prop :=
 ∀ (pins:List (Addr×Obj)) (s:Shared) (σ:St) (H:Hp) (x:V) (v:Value) (Q:VK),Inv X pins σ H s->RelV x v->r x H Q ->
   wpAny (model X.prog X.w) X.A (f v) (EP X pins σ Q) X.xe s
def ziT(X:Cx)(f:Value)(r:List V->Hp->VK->Prop):Prop :=
 ∀ (pins:List (Addr×Obj)) (s:Shared) (σ:St) (H:Hp) (xs:List V) (us:List Value) (Q:VK),Inv X pins σ H s->Vals xs us->r xs H Q ->
   wpAny (model X.prog X.w) X.A (call f us) (EP X pins σ Q) X.xe s
def TruR(X:Cx)(r:V->Hp->(Bool->Hp->Prop)->Prop):Prop :=
 ∀ (pins:List (Addr×Obj)) (s:Shared) (σ:St) (H:Hp) (x:V) (v:Value) (Q:Bool->Hp->Prop),Inv X pins σ H s->RelV x v->r x H Q ->
   wpAny (model X.prog X.w) X.A (truthy v) (TP X pins σ Q) X.xe s
noncomputable def tOp(r:R2)(ta tb:TE):TE:=fun σ H Q=>ta σ H fun x H1=>tb σ H1 fun y H2=>r x y H2 Q
noncomputable def tUn(r:V->Hp->VK->Prop)(ta:TE):TE:=fun σ H Q=>ta σ H fun x H1=>r x H1 Q
noncomputable def rI(C:Int->Int->Prop)(g:Int->Int->V):R2:=fun x y H Q=>∃ i j,x=.int i/\y=.int j/\C i j/\Q (g i j) H
noncomputable def rI0(g:Int->Int->V):R2:=fun x y H Q=>∃ i j,x=.int i/\y=.int j/\Q (g i j) H
noncomputable def rU(g:Int->V):V->Hp->VK->Prop:=fun x H Q=>∃ i,x=.int i/\Q (g i) H
section
variable {X:Cx} {a b c:Expr} {ta tb tc:TE} {pos:Pos}
theorem binT(ha:PE X a ta)(hb:PE X b tb){pins:List (Addr×Obj)}{s:Shared}{σ:St}{H:Hp}{R:V->V->Hp->Prop}(I:Inv X pins σ H s)
   (h:ta σ H fun x H1=>tb σ H1 fun y H2=>R x y H2) {Q:Value->Shared->Prop} {f:Value->Value->Sem Value}
   (hf:∀ v u s2 x y H2,Inv X pins σ H2 s2->RelV x v->RelV y u->R x y H2->wpAny (model X.prog X.w) X.A (f v u) Q X.xe s2) :
   wpAny (model X.prog X.w) X.A (eval a X.env) (fun v s₁=>wpAny (model X.prog X.w) X.A (eval b X.env) (fun u s₂=>wpAny (model X.prog X.w) X.A (f v u) Q X.xe s₂) X.xe s₁) X.xe s:=by
 refine thn (ha pins s σ H _ I h) ?_;rintro v s1 ⟨x,H1,I1,r1,q1⟩;refine thn (hb pins s1 σ H1 _ I1 q1) ?_;rintro u s2 ⟨y,H2,I2,r2,q2⟩;exact hf v u s2 x y H2 I2 r1 r2 q2
theorem zpc{op:Operator}{r:R2}(ho:OpR X (binaryOp op) r)(ha:PE X a ta)(hb:PE X b tb):PE X (.BinOp a op b pos) (tOp r ta tb):=by
 intro pins s σ H Q I h;exact wpAny_BinOp (binT ha hb I h fun v u s2 x y H2 I2 rx ry q=>ho pins s2 σ H2 x y v u Q I2 rx ry q)
theorem zpb{op:UnaryOp}{r:V->Hp->VK->Prop}(ho:UnR X (unaryOp op) r)(ha:PE X a ta):PE X (.UnaryOp op a pos) (tUn r ta):=by
 intro pins s σ H Q I h;exact UnaryOp_ (thn (ha pins s σ H _ I h) fun v s1 ⟨x,H1,I1,r1,q1⟩=>ho pins s1 σ H1 x v Q I1 r1 q1)
theorem opI{f:Value->Value->Sem Value}{C:Int->Int->Prop}{g:Int->Int->Int}
   (rule:∀ (i j:Int) (t u:Tok) (s:Shared) (Q:Value->Shared->Prop) (E:Value->Shared->Prop),C i j->Q (.int (g i j) s.toks) { s with toks:=s.toks+1 }->wpAny (model X.prog X.w) X.A (f (.int i t) (.int j u)) Q E s) :
   OpR X f (rI C fun i j=>.int (g i j)):=by
 intro pins s σ H x y v u Q I rx ry h;obtain⟨i,j,rfl,rfl,hc,q⟩:=h;obtain⟨t,rfl⟩:=rx;obtain⟨t',rfl⟩:=ry;exact rule i j t t' s _ _ hc ⟨.int (g i j),H,I.tok _,⟨_,rfl⟩,q⟩
theorem opI0{f:Value->Value->Sem Value}{g:Int->Int->Int}
   (rule:∀ (i j:Int) (t u:Tok) (s:Shared) (Q:Value->Shared->Prop) (E:Value->Shared->Prop),Q (.int (g i j) s.toks) { s with toks:=s.toks+1 }->wpAny (model X.prog X.w) X.A (f (.int i t) (.int j u)) Q E s) :
   OpR X f (rI0 fun i j=>.int (g i j)):=by
 intro pins s σ H x y v u Q I rx ry h;obtain⟨i,j,rfl,rfl,q⟩:=h;obtain⟨t,rfl⟩:=rx;obtain⟨t',rfl⟩:=ry;exact rule i j t t' s _ _ ⟨.int (g i j),H,I.tok _,⟨_,rfl⟩,q⟩
theorem opB0{f:Value->Value->Sem Value}{g:Int->Int->Bool}
   (rule:∀ (i j:Int) (t u:Tok) (s:Shared) (Q:Value->Shared->Prop) (E:Value->Shared->Prop),Q (.bool (g i j)) s->wpAny (model X.prog X.w) X.A (f (.int i t) (.int j u)) Q E s) :
   OpR X f (rI0 fun i j=>.bl (g i j)):=by
 intro pins s σ H x y v u Q I rx ry h;obtain⟨i,j,rfl,rfl,q⟩:=h;obtain⟨t,rfl⟩:=rx;obtain⟨t',rfl⟩:=ry;exact rule i j t t' s _ _ ⟨.bl (g i j),H,I,rfl,q⟩
def CMul(i j:Int):Prop:=(-(2 ^ 64) < i/\i < 2 ^ 64)\/(-(2 ^ 64) < j/\j < 2 ^ 64)
theorem CMul.ok{i j:Int}(h:CMul i j):IntMulOk i j:=by
 rcases h with ⟨h1,h2⟩ | ⟨h1,h2⟩
 . exact .of_left (intBits_le_64 h1 h2)
 . exact .of_right (intBits_le_64 h1 h2)
theorem znR:OpR X (binaryOp .Add) (rI0 fun i j=>.int (i+j)):=opI0 fun _ _ _ _ _ _ _ q=>add_int q
theorem znI:OpR X (binaryOp .Sub) (rI0 fun i j=>.int (i - j)):=opI0 fun _ _ _ _ _ _ _ q=>sub_int q
theorem znK:OpR X (binaryOp .Mult) (rI CMul fun i j=>.int (i*j)):=opI fun _ _ _ _ _ _ _ hc q=>Fs q hc.ok
theorem znL:OpR X (binaryOp .Mod) (rI (fun _ j=>0 < j) fun i j=>.int (i % j)):=opI fun i j _ _ _ _ _ hc q=>by
 have h1:(0:Int) < j:=hc;exact mod_int' (by omega) (by rw[Int.fmod_eq_emod_of_nonneg i (by omega)];exact q)
theorem unI{f:Value->Sem Value}{g:Int->Int}
   (rule:∀ (i:Int) (t:Tok) (s:Shared) (Q:Value->Shared->Prop) (E:Value->Shared->Prop),Q (.int (g i) s.toks) { s with toks:=s.toks+1 }->wpAny (model X.prog X.w) X.A (f (.int i t)) Q E s) :
   UnR X f (rU fun i=>.int (g i)):=by
 intro pins s σ H x v Q I rx h;obtain⟨i,rfl,q⟩:=h;obtain⟨t,rfl⟩:=rx;exact rule i t s _ _ ⟨.int (g i),H,I.tok _,⟨_,rfl⟩,q⟩
theorem zmR:UnR X (unaryOp .USub) (rU fun i=>.int (-i)):=unI fun _ _ _ _ _ q=>neg_int q
end
section
variable {X:Cx} {a b c:Expr} {ta tb tc:TE} {pos:Pos}
theorem zmr{pins:List (Addr×Obj)}{σ:St}{H:Hp}{s:Shared}{Q:VK}{k k':Bool}(I:Inv X pins σ H s)(q:Q (.bl k) H)(e:k=k'):EP X pins σ Q (.bool k') s:=by
 subst e;exact⟨.bl k,H,I,rfl,q⟩
theorem zpg:OpR X (compareOp .Lt) (rI0 fun i j=>.bl (decide (i < j))):=opB0 fun _ _ _ _ _ _ _ q=>Fd q
theorem zph:OpR X (compareOp .LtE) (rI0 fun i j=>.bl (decide (i<=j))):=opB0 fun _ _ _ _ _ _ _ q=>le_int q
theorem zpi:OpR X (compareOp .Gt) (rI0 fun i j=>.bl (decide (j < i))):=opB0 fun _ _ _ _ _ _ _ q=>gt_int q
theorem zpj:OpR X (compareOp .GtE) (rI0 fun i j=>.bl (decide (j<=i))):=opB0 fun _ _ _ _ _ _ _ q=>ge_int q
theorem zil:OpR X (compareOp .In) (fun x y H Q=>∃ i j,x=.str i/\y=.str j/\Q (.bl (!(B4 j i 0 j.length 1).isEmpty)) H):=by
 intro pins s σ H x y v u Q I rx ry h;obtain⟨i,j,rfl,rfl,q⟩:=h;obtain⟨t,rfl⟩:=rx;obtain⟨t',rfl⟩:=ry;exact in_str (zmr I q rfl)
theorem zeU:OpR X (compareOp .NotIn) (fun x y H Q=>∃ i j,x=.str i/\y=.str j/\Q (.bl (!(!(B4 j i 0 j.length 1).isEmpty))) H):=by
 intro pins s σ H x y v u Q I rx ry h;obtain⟨i,j,rfl,rfl,q⟩:=h;obtain⟨t,rfl⟩:=rx;obtain⟨t',rfl⟩:=ry;exact notIn_str (zmr I q rfl)
theorem zlW{op:CmpOp}{r:R2}(ho:OpR X (compareOp op) r)(ha:PE X a ta)(hb:PE X b tb)(hm:behindInMarks op b=false):PE X (.Compare a [op] [b] pos) (tOp r ta tb):=by
 intro pins s σ H Q I h;exact wpAny_Compare1 (binT ha hb I h fun v u s2 x y H2 I2 rx ry q=>ho pins s2 σ H2 x y v u Q I2 rx ry q) hm
noncomputable def zoC(t:TE):TT:=fun σ H Q=>t σ H fun x H'=>∃ k,x=.bl k/\Q k H'
theorem zlJ{op:CmpOp}{r:R2}(ho:OpR X (compareOp op) r)(ha:PE X a ta)(hb:PE X b tb)(hm:behindInMarks op b=false):PT X (.Compare a [op] [b] pos) (zoC (tOp r ta tb)):=by
 intro pins s σ H Q I h;refine D3 (thn (ha pins s σ H _ I h) fun v s1 ⟨x,H1,I1,r1,q1⟩=>thn (hb pins s1 σ H1 _ I1 q1) fun u s2 ⟨y,H2,I2,r2,q2⟩ =>
   thn (ho pins s2 σ H2 x y v u _ I2 r1 r2 q2) fun c s3 ⟨z,H3,I3,r3,k,e,q3⟩=>?_) hm
 subst e;cases r3;exact Bl ⟨H3,I3,q3⟩
noncomputable def zjz(r r':R2)(ta tb tc:TE):TE:=fun σ H Q=>ta σ H fun x H1=>tb σ H1 fun y H2=>r x y H2 fun z H3=>∃ k,z=.bl k /\
 (if k=true then tc σ H3 fun w' H4=>r' y w' H4 Q else Q (.bl false) H3)
theorem zkd{op op':CmpOp}{r r':R2}(ho:OpR X (compareOp op) r)(ho':OpR X (compareOp op') r')(ha:PE X a ta)(hb:PE X b tb)(hc:PE X c tc)
   (hm:lastMarks [op,op'] [b,c]=false:=by with_unfolding_all rfl):PE X (.Compare a [op,op'] [b,c] pos) (zjz r r' ta tb tc):=by
 intro pins s σ H Q I h;refine Compare_chain (thn (ha pins s σ H _ I h) fun v s1 ⟨x,H1,I1,r1,q1⟩=>chain_link (thn (hb pins s1 σ H1 _ I1 q1) fun u s2 ⟨y,H2,I2,r2,q2⟩ =>
   thn (ho pins s2 σ H2 x y v u _ I2 r1 r2 q2) fun d s3 ⟨z,H3,I3,r3,k,e,q3⟩=>?_)) hm
 subst e;cases r3;refine Bl ?_
 cases k with
 | false=>exact ite_ff ⟨.bl false,H3,I3,rfl,q3⟩
 | true=>exact ite_tt (chain_last (thn (hc pins s3 σ H3 _ I3 q3) fun w' s4 ⟨z',H4,I4,r4,q4⟩=>ho' pins s4 σ H4 y z' u w' Q I4 r2 r4 q4))
theorem zj4{op op':CmpOp}{r r':R2}(ho:OpR X (compareOp op) r)(ho':OpR X (compareOp op') r')(ha:PE X a ta)(hb:PE X b tb)(hc:PE X c tc)
   (hm:lastMarks [op,op'] [b,c]=false:=by with_unfolding_all rfl):PT X (.Compare a [op,op'] [b,c] pos) (zoC (zjz r r' ta tb tc)):=by
 intro pins s σ H Q I h;refine isTrue_chain (thn (ha pins s σ H _ I h) fun v s1 ⟨x,H1,I1,r1,q1⟩=>test_link (thn (hb pins s1 σ H1 _ I1 q1) fun u s2 ⟨y,H2,I2,r2,q2⟩ =>
   thn (ho pins s2 σ H2 x y v u _ I2 r1 r2 q2) fun d s3 ⟨z,H3,I3,r3,k,e,q3⟩=>?_)) hm
 subst e;cases r3;refine Bl ?_
 cases k with
 | false =>
   obtain⟨k',e',q'⟩:=q3;cases e';exact ite_ff ⟨H3,I3,q'⟩
 | true =>
   refine ite_tt (test_last (thn (hc pins s3 σ H3 _ I3 q3) fun w' s4 ⟨z',H4,I4,r4,q4⟩=>thn (ho' pins s4 σ H4 y z' u w' _ I4 r2 r4 q4) ?_));rintro d' s5 ⟨z2,H5,I5,r5,k2,e2,q5⟩;subst e2;cases r5;exact Bl ⟨H5,I5,q5⟩
def TruV(K:Ab)(x:V)(H:Hp)(k:Bool):Prop :=
 match x with
 | .non=>k=false
 | .bl b=>k=b
 | .int i=>k=(i != 0)
 | .str y=>y.length<=sizeLine/\k=((y.length:Int) != 0)
 | .byt y=>y.size<=sizeLine/\k=((y.size:Int) != 0)
 | .ref p=>(∃ xs,SqL K H p xs/\k=!xs.isEmpty)\/(∃ xs,SqT K H p xs/\k=!xs.isEmpty)\/∃ kvs,H p=some (.dK kvs)/\k=!kvs.isEmpty
 | _=>False
theorem zhc{κ:Type}{kvs:List (κ×V)}{vs:List (κ×Value)}(r:KV kvs vs):(!vs.isEmpty)=!kvs.isEmpty:=by
 cases r <;> rfl
theorem zew{xs:List V}{its:List Value}(r:Vals xs its):(!its.toArray.isEmpty)=!xs.isEmpty:=by
 cases r <;> simp
theorem ze1:(sizeLine:Nat) < 2 ^ 63:=by rw[DR];decide
theorem zmV:TruR X (fun x H Q=>∃ k,TruV X.K x H k/\Q k H):=by
 intro pins s σ H x v Q I rx h;obtain⟨k,e,q⟩:=h;have hl:=ze1;have hs:sizeLine=16777216:=DR
 cases x with
 | non =>
   cases rx;have e':k=false:=e;subst e';exact truthy_none ⟨H,I,q⟩
 | bl b =>
   cases rx;have e':k=b:=e;subst e';exact Bl ⟨H,I,q⟩
 | int i =>
   obtain⟨t,rfl⟩:=rx;have e':k=(i != 0):=e;subst e';exact PySem.P.truthy_int ⟨H,I,q⟩
 | str y =>
   obtain⟨t,rfl⟩:=rx;obtain⟨hy,e'⟩:y.length<=sizeLine/\k=((y.length:Int) != 0):=e;subst e';exact PySem.P.truthy_str (by omega) ⟨H,I.tok _,q⟩
 | byt y =>
   obtain⟨t,rfl⟩:=rx;obtain⟨hy,e'⟩:y.size<=sizeLine/\k=((y.size:Int) != 0):=e;subst e';exact PySem.W.truthy_bytes (by omega) ⟨H,I.tok _,q⟩
 | ref p =>
   cases rx;have e':(∃ xs,SqL X.K H p xs/\k=!xs.isEmpty)\/(∃ xs,SqT X.K H p xs/\k=!xs.isEmpty)\/∃ kvs,H p=some (.dK kvs)/\k=!kvs.isEmpty:=e
   rcases e' with ⟨xs,hx,e'⟩ | ⟨xs,hx,e'⟩ | ⟨kvs,hx,e'⟩
   . subst e';obtain⟨its,r,pl,hz⟩:=I.list hx;have hlen:=r.length;exact wpAny_truthy_list pl.isList (by simp only[Am];omega) ⟨H,I.tok _,by rw[zew r];exact q⟩
   . subst e';obtain⟨its,r,pl,hz⟩:=I.tuple hx;have hlen:=r.length;exact truthy_tuple pl (by simp only[Am];omega) ⟨H,I.tok _,by rw[zew r];exact q⟩
   . subst e';obtain⟨hz,hS,vs,r,m⟩:kvs.length<=sizeLine/\(p==sysModules)=false/\∃ vs,KV kvs vs/\s.heap.DictOf (za5 X.prog X.w) p vs:=I.hok p _ hx;have hlen:kvs.length=vs.length:=BP r;exact wpAny_truthy_dict hS m (by omega) ⟨H,I.tok _,by rw[zhc r];exact q⟩
 | _=>exact (show False from e).elim
theorem zgM(ha:PE X a ta)(he:∀ whole,isTrue a X.env whole=(do let v <-whole;standAt a.pos;holding [v] (truthy v))) :
   PT X a (fun σ H Q=>ta σ H fun x H'=>∃ k,TruV X.K x H' k/\Q k H'):=by
 intro pins s σ H Q I h;exact isTrue_plain (thn (ha pins s σ H _ I h) fun v s1 ⟨x,H1,I1,r1,q1⟩=>zmV pins s1 σ H1 x v Q I1 r1 q1) (he _)
theorem zgW:OpR X (binaryOp .Add) (fun x y H Q=>∃ i j,x=.str i/\y=.str j/\i.length+j.length<=sizeLine/\Q (.str (i++j)) H):=by
 intro pins s σ H x y v u Q I rx ry h;obtain⟨i,j,rfl,rfl,hz,q⟩:=h;obtain⟨t,rfl⟩:=rx;obtain⟨t',rfl⟩:=ry;exact add_str (fun t' tk=>⟨.str (i++j),H,I.tok _,⟨_,rfl⟩,q⟩) hz
theorem vals1{x:V}{us:List Value}(r:Vals [x] us):∃ u,us=[u]/\RelV x u:=by
 cases r with
 | cons r1 r2=>cases r2;exact⟨_,rfl,r1⟩
theorem zkO:ziT X (.builtin "abs") (fun xs H Q=>∃ i,xs=[.int i]/\Q (.int (if i < 0 then -i else i)) H):=by
 intro pins s σ H xs us Q I r h;obtain⟨i,rfl,q⟩:=h;obtain⟨u,rfl,t,rfl⟩:=vals1 r;exact call_abs_int fun u tk=>⟨.int (if i < 0 then -i else i),H,I.tok _,⟨_,rfl⟩,q⟩
end
theorem RelO.some_of{v:V}{o:Option Value}(r:RelO (some v) o):∃ u,o=some u/\RelV v u:=by
 cases o with
 | none=>exact (show False from r).elim
 | some u=>exact⟨u,rfl,r⟩
structure Room(k:Nat)(A:Around):Prop where
 hd:A.handled=none
 dp:A.depth+3*k+5 < recursionLimit
 un:A.units+16*k+200 < cLine
 gd:A.guards=some []
theorem Room.mono{j k:Nat}{A:Around}(r:Room k A)(h:j<=k):Room j A:=⟨r.hd,by have:=r.dp;omega,by have:=r.un;omega,r.gd⟩
theorem Room.deeper{k:Nat}{A:Around}(r:Room (k+1) A)(env:Env):Room k (A.deeper env) :=
 ⟨r.hd,by have:=r.dp;show A.depth+1+3*k+5 < _;omega,by have:=r.un;show A.units+3+16*k+200 < _;omega,r.gd⟩
theorem Room.depth{k:Nat}{A:Around}(r:Room k A):A.depth < recursionLimit:=by have:=r.dp;omega
theorem Room.units{k:Nat}{A:Around}(r:Room k A):A.units+64 < cLine:=by have:=r.un;omega
noncomputable def tNil:TA:=fun _ H Q=>Q [] H
noncomputable def zo0(ta:TE)(tr:TA):TA:=fun σ H Q=>ta σ H fun x H1=>tr σ H1 fun xs H2=>Q (x::xs) H2
section
variable {X:Cx} {e:Expr} {es:List Expr} {te:TE} {t:TA} {pos:Pos}
theorem zlZ:PA X [] tNil:=fun _ _ _ _ H Q I h=>Calls.spliced_nil ⟨[],H,I,.nil,h⟩
theorem zgQ(ha:PE X e te)(hr:PA X es t)(hs:starEach (e::es) X.env=(false,eval e X.env)::starEach es X.env:=by rfl):PA X (e::es) (zo0 te t):=by
 intro pos pins s σ H Q I h;rw[hs];show wpAny _ _ (spliced ((false,eval e X.env)::backTo pos (starEach es X.env))) _ _ s;refine Calls.spliced_cons (thn (ha pins s σ H _ I h) ?_);rintro u s1 ⟨x,H1,I1,r1,q1⟩;exact thn (hr pos pins s1 σ H1 _ I1 q1) fun us s2 ⟨xs,H2,I2,r2,q2⟩=>⟨x::xs,H2,I2,.cons r1 r2,q2⟩
noncomputable def tTup(t:TA):TE:=fun σ H Q=>t σ H fun xs H1=>xs.length<=sizeLine/\∀ p,H1 p=none->Q (.ref p) (upd H1 p (.tup xs))
noncomputable def tLst(t:TA):TE:=fun σ H Q=>t σ H fun xs H1=>xs.length<=sizeLine/\∀ p,H1 p=none->Q (.ref p) (upd H1 p (.lst xs))
theorem znx{x1}(h:PA X es t):PE X (.Tuple es x1 pos) (tTup t):=by
 intro pins s σ H Q I hq;refine wpAny_Tuple_spliced (thn (h pos pins s σ H _ I hq) fun us s1 ⟨xs,H1,I1,r,z,q⟩=>⟨by rw[<-r.length];exact z,?_⟩);have hf:H1 s1.heap.objs.size=none:=I1.hok.fresh (Af _);refine⟨.ref s1.heap.objs.size,upd H1 s1.heap.objs.size (.tup xs),I1.laid (t':=s1.toks) (fun b u e=>Ad _ e) (Af _) ?_,rfl,q _ hf⟩;exact⟨z,us,r,⟨_,Ar _ rfl,rfl,rfl,_,rfl⟩⟩
theorem znC(h:PA X es t):PE X (.List es pos) (tLst t):=by
 intro pins s σ H Q I hq;refine wpAny_List_spliced (thn (h pos pins s σ H _ I hq) fun us s1 ⟨xs,H1,I1,r,z,q⟩=>⟨by rw[<-r.length];exact z,?_⟩);have hf:H1 s1.heap.objs.size=none:=I1.hok.fresh (Af _);refine⟨.ref s1.heap.objs.size,upd H1 s1.heap.objs.size (.lst xs),I1.laid (t':=s1.toks) (fun b u e=>Ad _ e) (Af _) ?_,rfl,q _ hf⟩;exact⟨z,us,0,r,Ar _ rfl⟩
end
noncomputable abbrev Sp:=List V->Hp->VK->XK->Prop
noncomputable abbrev CXT:=List Env->Hp->Shared->XK->Value->Shared->Prop
structure Env0(P:Program)(w:World)(K:Ab)(mg:Str->Option Value)(base:Heap)(A:Around)(outer:List Env)(s:Shared)(H:Hp):Prop where
 frames:A.frames=some outer
 mod:Mod K mg base
 bs:∀ b o,base.get? b=some o->s.heap.get? b=some o/\H b=none
 bsz:base.objs.size<=s.heap.objs.size
 funs:s.heap.FunFrames base outer
 frf:∀ b∈frs outer,H b=none
 hok:HOk P w H s.heap
 bare:AllBare s.gens
def CE(outer:List Env)(P:Program)(w:World)(H:Hp)(s:Shared)(Q:VK)(u:Value)(s':Shared):Prop :=
 ∃ v H',s'.os=s.os/\AllBare s'.gens/\Un (frs outer) [] H H' s.heap s'.heap/\HOk P w H' s'.heap/\RelV v u/\Q v H'
def CR(CX:CXT)(outer:List Env)(P:Program)(w:World)(H:Hp)(s:Shared)(Q:VK)(E:XK)(r:Result)(s':Shared):Prop :=
 match r with
 | .ok (.ret u)=>CE outer P w H s Q u s'
 | .ok _=>False
 | .error e=>CX outer H s E e s'
structure FnOk(P:Program)(w:World)(K:Ab)(mg:Str->Option Value)(base:Heap)(CX:CXT)(k:Nat)(f:Addr)(fd:FuncData)(ps:List Str)(sp:Sp):Prop where
 len:∀ vs H Q E,sp vs H Q E->vs.length=ps.length
 run:∀ (A:Around) (outer:List Env) (s:Shared) (H:Hp) (args:Args) (us:List Value) (vs:List V) (Q:VK) (E:XK),Room k A->Env0 P w K mg base A outer s H->BindsTo s fd args (ps.zip us)->Vals vs us->sp vs H Q E ->
   codeAny (model P w) A (.call (.ref f) args) (CR CX outer P w H s Q E) s
section
variable {X:Cx} {pins:List (Addr×Obj)} {σ:St} {H:Hp} {s s':Shared}
theorem Inv.env0(I:Inv X pins σ H s):Env0 X.prog X.w X.K X.mg X.base X.A X.stack s H :=
 ⟨I.ok.frames,I.ok.mod,I.bs,AC I.ok.bsz I.sz,I.stack,I.stkFree,I.hok,I.bare⟩
theorem Inv.after{Q:VK}{u:Value}(I:Inv X pins σ H s)(h:CE X.stack X.prog X.w H s Q u s'):EP X pins σ Q u s':=by
 obtain⟨v,H',os,bare,un,hok,r,q⟩:=h;obtain⟨hh,g,d,t,os'⟩:=s';obtain rfl:os'=s.os:=os;exact⟨v,H',I.call (h':=hh) (g':=g) (d':=d) (t':=t) (ch:=[]) un hok bare (fun b z=>absurd z (by simp)),r,q⟩
end
noncomputable def zo1(sp:Sp)(dvs:List V)(E:XK)(t:TA):TE:=fun σ H Q=>t σ H fun vs H1=>sp (vs++dvs) H1 Q E
def Binds(K:Ab)(fd:FuncData)(ps:List Str)(ds:List Value):Prop :=
 ∀ (s:Shared) (us:List Value),K.In s.heap->(us++ds).length=ps.length->BindsTo s fd ⟨us,[]⟩ (ps.zip (us++ds))
theorem Binds.all{K:Ab}{fd:FuncData}{ps:List Str}(h:∀ us:List Value,us.length=ps.length->bindArgs fd ⟨us,[]⟩=pure (ps.zip us)):Binds K fd ps []:=fun s us _ hl=>by
 rw[Ah] at hl ⊢;exact .of_eq (h us hl)
def Passes(CX:CXT)(X:Cx)(E:XK):Prop:=∀ (pins:List (Addr×Obj)) (σ:St) (H:Hp) (s:Shared) (e:Value) (s':Shared),Inv X pins σ H s->CX X.stack H s E e s'->X.xe e s'
section
variable {X:Cx} {CX:CXT} {k:Nat} {f C:Addr} {fd:FuncData} {ps:List Str} {sp:Sp} {dvs:List V} {ds:List Value} {E:XK} {x m:Str} {p pos apos:Pos} {e o:Expr} {es:List Expr} {ta:TE} {t:TA}
theorem znj{pins:List (Addr×Obj)}{σ:St}{H:Hp}{s:Shared}{Q:VK}{us:List Value}{vs:List V}(F:FnOk X.prog X.w X.K X.mg X.base CX k f fd ps sp)(hr:Room k X.A)(hb:Binds X.K fd ps ds)(hd:Vals dvs ds)(hx:Passes CX X E)
   (I:Inv X pins σ H s) (r:Vals vs us) (h:sp (vs++dvs) H Q E):wpAny (model X.prog X.w) X.A (call (.ref f) us) (EP X pins σ Q) X.xe s:=by
 have r2:Vals (vs++dvs) (us++ds):=r.append hd;have hl:(us++ds).length=ps.length:=by rw[<-r2.length];exact F.len _ _ _ _ h
 refine wpAny_call (Ex (F.run X.A X.stack s H ⟨us,[]⟩ (us++ds) (vs++dvs) Q E hr I.env0 (hb s us I.kIn hl) r2 h) fun r s' hq=>?_)
 cases r with
 | error e=>exact hx pins σ H s e s' I hq
 | ok fl =>
   cases fl with
   | ret u=>exact I.after hq
   | next=>exact False.elim hq
   | brk=>exact False.elim hq
   | cont=>exact False.elim hq
theorem zlX(F:FnOk X.prog X.w X.K X.mg X.base CX k f fd ps sp)(hr:Room k X.A)(hg:Gl X x)(hm:X.mg x=some (.ref f))(hk:BV X.K (.ref f)=true)(hb:Binds X.K fd ps ds)(hd:Vals dvs ds)(hx:Passes CX X E)
   (ha:PA X (e::es) t) (hdb:(x==("__debug__":Str))=false:=by decide) (he:starEach (e::es) X.env=(false,eval e X.env)::starEach es X.env:=by rfl) (hpl:(backTo pos (starEach es X.env)).any (·.1)=false:=by rfl) :
   PE X (.Call (.Name x p) (e::es) [] pos) (zo1 sp dvs E t):=by
 intro pins s σ H Q I h;refine Dc (zmk I hg hm ?_ hdb);refine PySem.W.callWith_K (h₀:=X.base) I.ok.mod.kin hk (thn (ha pos pins s σ H _ I h) fun us s1 ⟨vs,H1,I1,r,q⟩=>⟨I1.kIn,?_⟩) he hpl;exact znj F hr hb hd hx I1 r q
end
structure FnScope(N P:List Str)(sc:Scope):Prop where
 kind:sc.kind=.function
 co:sc.isCoroutine=false
 gen:sc.isGenerator=false
 nd:N.Nodup
 pre:N.take P.length=P
 par:∀ x∈P,sc.names.lookup x=some .local\/sc.names.lookup x=some .cell
 nofree:∀ y∈sc.names,y.2≠.free
theorem zfG{kindOf:Str->Option NameKind}{x:Str}:∀ {binds:List (Str×Value)} {m:Str->Option Value},(∀ v,(x,v) ∉ binds)->bindL kindOf binds m x=m x
 | [],_,_=>rfl
 | (n,v)::r,m,h=>by
   unfold bindL;rw[zfG fun w hw=>h w (Ai _ hw)]
   split
   . have:x≠n:=by rintro rfl;exact h v An
     simp[this]
   . rfl
theorem zfI{kindOf:Str->Option NameKind}{x:Str}:∀ {binds:List (Str×Value)} {m:Str->Option Value},(∀ v,(x,v) ∉ binds)->bindC kindOf binds m x=m x
 | [],_,_=>rfl
 | (n,v)::r,m,h=>by
   unfold bindC;rw[zfI fun w hw=>h w (Ai _ hw)]
   split
   . rfl
   . have:x≠n:=by rintro rfl;exact h v An
     simp[this]
theorem zfH{kindOf:Str->Option NameKind}{x:Str}{v:Value}:∀ {P:List Str} {vs:List Value} {i:Nat} {m:Str->Option Value},P.Nodup->P[i]?=some x->vs[i]?=some v->kindOf x=some .local ->
   bindL kindOf (P.zip vs) m x=some v
 | [],_,_,_,_,h,_,_=>by simp at h
 | _::_,[],_,_,_,_,h,_=>by simp at h
 | p::P,w::vs,0,m,nd,h1,h2,hk=>by
   simp at h1 h2;subst h1;subst h2;show bindL kindOf ((p,w)::P.zip vs) m p=_;unfold bindL;rw[zfG fun v hv=>(List.nodup_cons.mp nd).1 (DK hv).1,if_pos hk];simp
 | p::P,w::vs,i+1,m,nd,h1,h2,hk=>by
   show bindL kindOf ((p,w)::P.zip vs) m x=_;unfold bindL;exact zfH (i:=i) (List.nodup_cons.mp nd).2 (by simpa using h1) (by simpa using h2) hk
theorem zfJ{kindOf:Str->Option NameKind}{x:Str}{v:Value}:∀ {P:List Str} {vs:List Value} {i:Nat} {m:Str->Option Value},P.Nodup->P[i]?=some x->vs[i]?=some v->kindOf x≠some .local ->
   bindC kindOf (P.zip vs) m x=some v
 | [],_,_,_,_,h,_,_=>by simp at h
 | _::_,[],_,_,_,_,h,_=>by simp at h
 | p::P,w::vs,0,m,nd,h1,h2,hk=>by
   simp at h1 h2;subst h1;subst h2;show bindC kindOf ((p,w)::P.zip vs) m p=_;unfold bindC;rw[zfI fun v hv=>(List.nodup_cons.mp nd).1 (DK hv).1,if_neg hk];simp
 | p::P,w::vs,i+1,m,nd,h1,h2,hk=>by
   show bindC kindOf ((p,w)::P.zip vs) m x=_;unfold bindC;exact zfJ (i:=i) (List.nodup_cons.mp nd).2 (by simpa using h1) (by simpa using h2) hk
noncomputable def start(N:List Str)(vs:List V):St:=vs.map some++BW (N.length - vs.length) none
noncomputable def cxOf(CX:CXT)(P:Program)(w:World)(K:Ab)(mg:Str->Option Value)(base:Heap)(N:List Str)(qual:Str)(scope:Scope)(f:Addr)(cd:Value)(A:Around)(outer:List Env)(s:Shared)(H:Hp)(E:XK):Cx where
 prog:=P
 w:=w
 K:=K
 mg:=mg
 base:=base
 A:=A.deeper (envOfC qual scope s.heap.objs.size f cd)
 N:=N
 s₀:=s
 H₀:=H
 env:=envOfC qual scope s.heap.objs.size f cd
 outer:=outer
 stack:=envOfC qual scope s.heap.objs.size f cd::outer
 ex:=[]
 calm:=true
 fn:=fun _=>true
 pn:=[]
 xe:=fun e s'=>wpAny (model P w) (A.deeper (envOfC qual scope s.heap.objs.size f cd)) (leaving (envOfC qual scope s.heap.objs.size f cd) e) (fun _ s''=>CX outer H s E e s'') (fun e' s''=>CX outer H s E e' s'') s'
theorem zhr{sc:Scope}{n:Nat}{x:Str}(h:sc.names.lookup x=some .cell):∃ c,(cellsFrom n sc.names []).lookup x=some c:=by
 have q:=DT sc.names n [] (.inl h);exact Option.isSome_iff_exists.mp q
theorem ziD{CX:CXT}{P:Program}{w:World}{K:Ab}{mg:Str->Option Value}{base:Heap}{N ps:List Str}{qual:Str}{scope:Scope}{f:Addr}{cd:Value}{A:Around}{outer:List Env}{s s1:Shared}{H:Hp}{E:XK}{us:List Value}{vs:List V}
   (S:FnScope N ps scope) (hd:A.handled=none) (e0:Env0 P w K mg base A outer s H) (hl:vs.length=ps.length) (r:Vals vs us)
   (x:InCallC s s.heap.objs.size (bindL (envOfC qual scope s.heap.objs.size f cd).kindOf (ps.zip us) fun _=>none) (cellsFrom (s.heap.objs.size+1) scope.names []) (bindC (envOfC qual scope s.heap.objs.size f cd).kindOf (ps.zip us) fun _=>none) s1) :
   Inv (cxOf CX P w K mg base N qual scope f cd A outer s H E) [] (start N vs) H s1:=by
 have hpl:ps.length<=N.length:=by have:=congrArg DU S.pre;rw[AJ] at this;omega
 obtain⟨h1,tk,rfl,hk⟩:=x.done;have noA:∀ b:Addr,b ∉ (cxOf CX P w K mg base N qual scope f cd A outer s H E).ex:=fun b z=>absurd (show b∈([]:List Addr) from z) (by simp);refine⟨⟨e0.mod,S.kind,rfl,rfl,Af _,fun y z c h1 h2=>?_,fun y hy=>?_,fun y c _ h=>?_,fun _=>hd,Around.frames_deeper e0.frames,.inr ⟨rfl,rfl⟩,fun b z=>absurd z (noA b),e0.bs,e0.bsz,fun b _ _=>noA b,fun b z=>absurd z (noA b),e0.funs,e0.frf⟩,
   rfl,e0.bare,Un.kept hk,⟨_,x.toInCall.ns,fun i y v h1 h2 h3=>?_⟩,fun y c h=>⟨_,x.cell y c h⟩,e0.hok.fresh (Af _),fun y c h=>?_,fun p hp=>absurd (show p∈([]:List (Addr×Obj)) from hp) (by simp),e0.hok.kept hk,?_⟩
 . exact name_of_addr x.apart (AV h1) (AV h2)
 . have hy:scope.names.lookup y=some .cell\/scope.names.lookup y=some .free:=hy
   rcases hy with hy | hy
   . exact zhr hy
   . exact absurd rfl (S.nofree _ (AV hy))
 . exact Cb (x.above y c (AV h))
 . have hi:i < vs.length:=by
     unfold start at h2
     by_cases hi:i < vs.length
     . exact hi
     . rw[AL (by simpa using hi)] at h2;rw[B5] at h2
       split at h2 <;> cases h2
   have ha:vs[i]?=some v:=by
     unfold start at h2;rw[As (by simpa using hi),AE] at h2
     cases e:vs[i]? with
     | none=>rw[e] at h2;cases h2
     | some a=>rw[e] at h2;cases h2;rfl
   obtain⟨u,hu,rv⟩:=r.get ha;have hp:ps[i]?=some y:=by
     rw[<-S.pre,List.getElem?_take_of_lt (by omega)];exact h1
   have ndP:ps.Nodup:=by rw[<-S.pre];exact S.nd.sublist (List.take_sublist _ _)
   refine⟨u,rv,?_⟩
   rcases S.par y (A1 hp) with k | k
   . exact .inl ⟨k,zfH ndP hp hu k⟩
   . obtain⟨c,e⟩:=zhr (n:=s.heap.objs.size+1) k;refine .inr ⟨.inl k,c,e,?_⟩;have q:=x.cell y c e;rw[zfJ ndP hp hu (by show scope.names.lookup y≠_;rw[k];decide)] at q;exact q
 . exact e0.hok.fresh (Cb (x.above y c (AV h)))
 . unfold start;show _=N.length;rw[Aq,Aj,Cc];omega
theorem zpr{CX:CXT}{P:Program}{w:World}{K:Ab}{mg:Str->Option Value}{base:Heap}{k:Nat}{f:Addr}{name qual:Str}{params:Arguments}{body:List Stmt}{scope:Scope}{dV kV doc pm cdv ct oc:Value}{an od:Option Addr}
   {osl:Array (Option Value)} {N ps:List Str} {sp:Sp} (lk:K.lookup f=some ⟨oc,od,.func (BJ name qual params body scope dV kV doc pm an cdv ct),osl⟩) (hcd:Cz K cdv qual=true) (S:FnScope N ps scope)
   (len:∀ vs H Q E,sp vs H Q E->vs.length=ps.length)
   (hbody:∀ (A:Around) (outer:List Env) (s:Shared) (H:Hp) (vs:List V) (Q:VK) (E:XK),Room k (A.deeper (envOfC qual scope s.heap.objs.size f cdv))->sp vs H Q E ->
     ∃ t,PSs (cxOf CX P w K mg base N qual scope f cdv A outer s H E) body t/\t { nx:=fun _ H'=>Q .non H',rt:=Q } (start N vs) H) :
   FnOk P w K mg base CX (k+1) f (BJ name qual params body scope dV kV doc pm an cdv ct) ps sp:=by
 refine⟨len,fun A outer s H args us vs Q E hr e0 hb r hsp=>?_⟩;have hl:=len _ _ _ _ hsp;have KX:K.In s.heap:=e0.mod.kin.keeps fun b o e=>(e0.bs b o e).1;have lim:s.heap.NoLimit:=e0.mod.nolimit.keeps fun b o e=>(e0.bs b o e).1;have hkind:∀ y∈ps.zip us,scope.names.lookup y.1=some .local\/(scope.names.lookup y.1=some .cell/\((cellsFrom (s.heap.objs.size+1) scope.names []).lookup y.1).isSome=true):=by
   rintro ⟨n,v⟩ hy
   rcases S.par n (DK hy).1 with q | q
   . exact .inl q
   . exact .inr ⟨q,DT _ _ _ (.inl q)⟩
 refine codeAny_call_function hr.depth (KX _ _ lk) rfl S.co S.gen rfl (PySem.W.codeRec_of KX hcd) (hb _ _ _ _ ?_);refine wpAny_newFunctionEnv_cells S.kind hkind fun env he s1 x=>?_;subst he;refine⟨lim.keeps x.toInCall.keep,codeAny_func ?_⟩;obtain⟨t,ht,hq⟩:=hbody A outer s H vs Q E (hr.deeper _) hsp;have I:Inv (cxOf CX P w K mg base N qual scope f cdv A outer s H E) [] (start N vs) H s1:=ziD S hr.hd e0 hl r x;refine BA (ht [] s1 (start N vs) H _ I hq) (fun fl s' hs=>?_) fun e s' hs=>hs;have fin:∀ {σ':St} {H':Hp} {v:V} {u:Value},Inv (cxOf CX P w K mg base N qual scope f cdv A outer s H E) [] σ' H' s'->RelV v u->Q v H'->CE outer P w H s Q u s' :=
   fun {σ' H' v u} J rv q=>⟨v,H',J.os,J.bare,J.base,J.hok,rv,q⟩
 cases fl with
 | ret u =>
   obtain⟨v,σ',H',J,rv,q⟩:=hs;exact fin J rv q
 | next =>
   obtain⟨σ',H',J,q⟩:=hs;exact fin (v:=V.non) (u:=Bj) J rfl q
 | brk =>
   obtain⟨_,_,_,q⟩:=hs;exact False.elim q
 | cont =>
   obtain⟨_,_,_,q⟩:=hs;exact False.elim q
section
variable {X:Cx} {x:Str} {p pos:Pos} {e:Expr} {es:List Expr} {t:TA} {id T:String} {r:List V->Hp->VK->Prop}
noncomputable def tCB(r:List V->Hp->VK->Prop)(t:TA):TE:=fun σ H Q=>t σ H fun vs H1=>r vs H1 Q
theorem zgP(hc:ziT X (.builtin id) r)(hg:Gl X x)(hm:X.mg x=none)(hv:bootBuiltins x=some (.builtin id))(ha:PA X (e::es) t)(hn:x≠"__name__":=by decide)(hdb:(x==("__debug__":Str))=false:=by decide)
   (he:starEach (e::es) X.env=(false,eval e X.env)::starEach es X.env:=by rfl) (hpl:(backTo pos (starEach es X.env)).any (·.1)=false:=by rfl):PE X (.Call (.Name x p) (e::es) [] pos) (tCB r t):=by
 intro pins s σ H Q I h;refine Dc (ze2 I hg hm hv ?_ hn hdb);exact PyProof.Rows.callWith_builtin1 (thn (ha pos pins s σ H _ I h) fun us s1 ⟨vs,H1,I1,r1,q1⟩=>hc pins s1 σ H1 vs us Q I1 r1 q1) he hpl
theorem zih(hc:ziT X (.type T) r)(hg:Gl X x)(hm:X.mg x=none)(hv:bootBuiltins x=some (.type T))(ha:PA X (e::es) t)(hn:x≠"__name__":=by decide)(hdb:(x==("__debug__":Str))=false:=by decide)
   (he:starEach (e::es) X.env=(false,eval e X.env)::starEach es X.env:=by rfl) (hpl:(backTo pos (starEach es X.env)).any (·.1)=false:=by rfl):PE X (.Call (.Name x p) (e::es) [] pos) (tCB r t):=by
 intro pins s σ H Q I h;refine Dc (ze2 I hg hm hv ?_ hn hdb);exact By (thn (ha pos pins s σ H _ I h) fun us s1 ⟨vs,H1,I1,r1,q1⟩=>hc pins s1 σ H1 vs us Q I1 r1 q1) he hpl
end
section
variable {κ:Type} [DecidableEq κ]
noncomputable def valV(kvs:List (κ×V))(k:κ):Option V:=(kvs.find? fun kv=>decide (kv.1=k)).map (·.2)
noncomputable def putK(kvs:List (κ×V))(k:κ)(v:V):List (κ×V) :=
 if (kvs.any fun kv=>decide (kv.1=k))=true then kvs.map (fun kv=>if kv.1=k then (kv.1,v) else kv) else kvs++[(k,v)]
theorem zeK{p:κ×V}{r:List (κ×V)}{k:κ}(e:p.1=k):valV (p::r) k=some p.2:=by simp[valV,Bz,e]
theorem zeL{p:κ×V}{r:List (κ×V)}{k:κ}(e:¬ p.1=k):valV (p::r) k=valV r k:=by simp[valV,Bz,e]
theorem zgi(k:κ):∀ kvs:List (κ×V),(kvs.any fun kv=>decide (kv.1=k))=(valV kvs k).isSome
 | []=>rfl
 | p::r=>by
   rw[BG]
   by_cases e:p.1=k
   . simp only[zeK e,decide_eq_true e,Bool.true_or,Ey]
   . rw[zeL e,decide_eq_false e,Fv];exact zgi k r
theorem zct(kvs:List (κ×V))(k:κ)(v:V):(putK kvs k v).length<=kvs.length+1:=by
 unfold putK
 split
 . rw[Aj];omega
 . rw[Aq,AX,Cn];omega
theorem RelO.isSome_eq{o:Option V}{u:Option Value}(r:RelO o u):o.isSome=u.isSome:=by
 cases o with
 | none=>cases u with
   | none=>rfl
   | some _=>exact (show False from r).elim
 | some _=>cases u with
   | none=>exact (show False from r).elim
   | some _=>rfl
theorem KV.val{kvs:List (κ×V)}{vs:List (κ×Value)}(r:KV kvs vs)(k:κ):RelO (valV kvs k) (valueAt vs k):=by
 unfold KV at r
 induction r with
 | nil=>exact CA
 | @cons p q ps qs h t ih =>
   obtain⟨h1,h2⟩:=h
   by_cases e:p.1=k
   . have e':q.1=k:=h1.symm.trans e;have b:valueAt (q::qs) k=some q.2:=by simp[valueAt,Bz,e']
     rw[zeK e,b];exact h2
   . have e':¬ q.1=k:=fun z=>e (h1.trans z);have b:valueAt (q::qs) k=valueAt qs k:=by simp[valueAt,Bz,e']
     rw[zeL e,b];exact ih
theorem KV.any{kvs:List (κ×V)}{vs:List (κ×Value)}(r:KV kvs vs)(k:κ):(kvs.any fun kv=>decide (kv.1=k))=vs.any fun kv=>decide (kv.1=k):=by
 unfold KV at r
 induction r with
 | nil=>rfl
 | cons h t ih=>rw[BG,BG,ih,h.1]
theorem KV.repl{kvs:List (κ×V)}{vs:List (κ×Value)}(r:KV kvs vs)(k:κ){y:V}{u:Value}(ry:RelV y u) :
   KV (kvs.map fun kv=>if kv.1=k then (kv.1,y) else kv) (vs.map fun kv=>if kv.1=k then (kv.1,u) else kv):=by
 unfold KV at r ⊢
 induction r with
 | nil=>exact .nil
 | @cons p q ps qs h t ih =>
   rw[Ax,Ax];refine .cons ?_ ih;obtain⟨h1,h2⟩:=h
   by_cases e:p.1=k
   . rw[if_pos e,if_pos (h1.symm.trans e)];exact⟨h1,ry⟩
   . rw[if_neg e,if_neg (fun z=>e (h1.trans z))];exact⟨h1,h2⟩
theorem KV.put{kvs:List (κ×V)}{vs:List (κ×Value)}(r:KV kvs vs)(k:κ){y:V}{u:Value}(ry:RelV y u):KV (putK kvs k y) (stored vs k u):=by
 unfold putK stored;rw[r.any k]
 by_cases e:(vs.any fun kv=>decide (kv.1=k))=true
 . rw[if_pos e,if_pos e];exact r.repl k ry
 . rw[if_neg e,if_neg e];exact FG r ⟨rfl,ry⟩
theorem KV.length{kvs:List (κ×V)}{vs:List (κ×Value)}(r:KV kvs vs):kvs.length=vs.length:=BP r
end
theorem zk3{P:Program}{w:World}{k:Key}{u:Value}(r:RelV (kV k) u):(za5 P w).is k u=true:=by
 cases k with
 | inl i=>obtain⟨t,e⟩:=(show ∃ t,u=CL i t from r);subst e;exact zf5 P w i t
 | inr x=>obtain⟨t,e⟩:=(show ∃ t,u=Ew x t from r);subst e;exact zf4 P w x t
theorem zfA{P:Program}{w:World}:∀ {ks:List Key} {us:List Value},Vals (ks.map kV) us->ItemsAre (za5 P w) ks us
 | [],_,r=>by rw[Br] at r;cases r;exact .nil
 | k::ks,_,r=>by
   rw[Ax] at r
   cases r with
   | cons h t=>exact .cons (zk3 h) (zfA t)
noncomputable abbrev KT (H:Hp):List (List Key×V)->List (List Key×Addr×Value)->Prop:=Paired fun p q=>p.1=q.1/\H q.2.1=some (.tup (p.1.map kV))/\RelV p.2 q.2.2
theorem KT.val{H:Hp}{kvs:List (List Key×V)}{xs:List (List Key×Addr×Value)}(r:KT H kvs xs)(k:List Key):RelO (valV kvs k) ((atKey xs k).map (·.2)):=by
 induction r with
 | nil=>exact CA
 | @cons p q ps qs h t ih =>
   obtain⟨h1,_,h2⟩:=h
   by_cases e:p.1=k
   . have e':q.1=k:=h1.symm.trans e;have b:atKey (q::qs) k=some q.2:=by simp[atKey,Bz,e']
     rw[zeK e,b];exact h2
   . have e':¬ q.1=k:=fun z=>e (h1.trans z);have b:atKey (q::qs) k=atKey qs k:=by simp[atKey,Bz,e']
     rw[zeL e,b];exact ih
theorem KT.repl{H:Hp}{kvs:List (List Key×V)}{xs:List (List Key×Addr×Value)}(r:KT H kvs xs)(k:List Key){y:V}{u:Value}(ry:RelV y u) :
   KT H (kvs.map fun kv=>if kv.1=k then (kv.1,y) else kv) (xs.map (putAt k u)):=by
 induction r with
 | nil=>exact .nil
 | @cons p q ps qs h t ih =>
   rw[Ax,Ax];refine .cons ?_ ih;obtain⟨h1,h2,h3⟩:=h;unfold putAt
   by_cases e:p.1=k
   . rw[if_pos e,if_pos (h1.symm.trans e)];exact⟨h1,h2,ry⟩
   . rw[if_neg e,if_neg (fun z=>e (h1.trans z))];exact⟨h1,h2,h3⟩
theorem KT.put{H:Hp}{kvs:List (List Key×V)}{xs:List (List Key×Addr×Value)}(r:KT H kvs xs)(k:List Key){b:Addr}{y:V}{u:Value}(hb:H b=some (.tup (k.map kV)))(ry:RelV y u) :
   KT H (putK kvs k y) (storedH xs k b u):=by
 have e:(kvs.any fun kv=>decide (kv.1=k))=(atKey xs k).isSome:=by
   rw[zgi,(r.val k).isSome_eq,Dp]
 unfold putK storedH;rw[e]
 by_cases q:(atKey xs k).isSome=true
 . rw[if_pos q,if_pos q];exact r.repl k ry
 . rw[if_neg q,if_neg q];exact FG r ⟨rfl,hb,ry⟩
theorem KT.keeps{H H':Hp}{kvs:List (List Key×V)}{xs:List (List Key×Addr×Value)}(r:KT H kvs xs)(ht:∀ b ys,H b=some (.tup ys)->H' b=some (.tup ys)):KT H' kvs xs :=
 Paired.mapP r fun _ _ z=>⟨z.1,ht _ _ z.2.1,z.2.2⟩
section
variable {P:Program} {w:World} {H:Hp} {h:Heap} {a:Addr}
theorem zoD{u:HO}(ok:HOk P w H h)(e:Rd H a u):zcA P w H h a u:=e.ok ok
theorem zk5{kvs:List (Key×V)}(ok:HOk P w H h)(e:Rd H a (.dK kvs)):kvs.length<=sizeLine/\(a==sysModules)=false/\∃ vs,KV kvs vs/\h.DictOf (za5 P w) a vs :=
 show zcA P w H h a (.dK kvs) from zoD ok e
theorem zon{kvs:List (Key×V)}(ok:HOk P w H h)(e:H a=some (.dK kvs)):kvs.length<=sizeLine/\(a==sysModules)=false/\∃ vs,KV kvs vs/\h.DictOf (za5 P w) a vs:=zk5 ok (.inl e)
theorem zf6{ks:List Key}(ok:HOk P w H h)(e:H a=some (.tup (ks.map kV))):(tupleKind (za5 P w)).is h ks a:=by
 obtain⟨_,its,r,o,h1,h2,_,n,h3⟩:=(show zcA P w H h a (.tup (ks.map kV)) from ok a _ e)
 exact⟨o,its.toArray,n,h1,h2,h3,by simpa using zfA r⟩
theorem zk4{kvs:List (List Key×V)}(ok:HOk P w H h)(e:Rd H a (.dT kvs)):kvs.length<=sizeLine/\(a==sysModules)=false /\
   ∃ xs,KT H kvs xs/\h.DictOfH (tupleKind (za5 P w)) a xs:=by
 obtain⟨z,y,xs,r,o,es,ep,h1,h2,h3,h4,h5⟩:=(show zcA P w H h a (.dT kvs) from zoD ok e)
 refine⟨z,y,xs,r,o,es,ep,h1,h2,h3,h4,fun x hx=>?_,h5⟩;have all:∀ {l:List (List Key×V)} {m:List (List Key×Addr×Value)},KT H l m->∀ x∈m,(tupleKind (za5 P w)).is h x.1 x.2.1:=by
   intro l m q
   induction q with
   | nil=>intro x hx;exact nomatch hx
   | @cons p q ps qs hq t ih =>
     intro x hx
     rcases List.mem_cons.mp hx with e | hx
     . subst e;exact zf6 ok (by rw[<-hq.1];exact hq.2.1)
     . exact ih x hx
 exact all r x hx
theorem zoK{kvs:List (List Key×V)}(ok:HOk P w H h)(e:H a=some (.dT kvs)):kvs.length<=sizeLine/\(a==sysModules)=false /\
   ∃ xs,KT H kvs xs/\h.DictOfH (tupleKind (za5 P w)) a xs:=zk4 ok (.inl e)
end
def DGet(H:Hp)(a:Addr)(y:V)(r:Option V):Prop :=
 (∃ kvs k,Rd H a (.dK kvs)/\y=kV k/\r=valV kvs k)\/∃ kvs k b,Rd H a (.dT kvs)/\y=.ref b/\H b=some (.tup (k.map kV))/\r=valV kvs k
def DPut(H:Hp)(a:Addr)(y v:V)(H':Hp):Prop :=
 (∃ kvs k,H a=some (.dK kvs)/\y=kV k/\kvs.length < sizeLine/\H'=upd H a (.dK (putK kvs k v))) \/
 ∃ kvs k b,H a=some (.dT kvs)/\y=.ref b/\H b=some (.tup (k.map kV))/\kvs.length < sizeLine/\H'=upd H a (.dT (putK kvs k v))
theorem DGet.k{H:Hp}{a:Addr}{kvs:List (Key×V)}{k:Key}(e:H a=some (.dK kvs)):DGet H a (kV k) (valV kvs k):=.inl ⟨kvs,k,.inl e,rfl,rfl⟩
theorem DGet.t{H:Hp}{a b:Addr}{kvs:List (List Key×V)}{k:List Key}(e:H a=some (.dT kvs))(eb:H b=some (.tup (k.map kV))):DGet H a (.ref b) (valV kvs k):=.inr ⟨kvs,k,b,.inl e,rfl,eb,rfl⟩
theorem DPut.k{H:Hp}{a:Addr}{kvs:List (Key×V)}{k:Key}{v:V}(e:H a=some (.dK kvs))(hl:kvs.length < sizeLine):DPut H a (kV k) v (upd H a (.dK (putK kvs k v))):=.inl ⟨kvs,k,e,rfl,hl,rfl⟩
theorem DPut.t{H:Hp}{a b:Addr}{kvs:List (List Key×V)}{k:List Key}{v:V}(e:H a=some (.dT kvs))(eb:H b=some (.tup (k.map kV)))(hl:kvs.length < sizeLine) :
   DPut H a (.ref b) v (upd H a (.dT (putK kvs k v))):=.inr ⟨kvs,k,b,e,rfl,eb,hl,rfl⟩
section
variable {X:Cx} {pins:List (Addr×Obj)} {σ:St} {H:Hp} {s:Shared} {a:Addr} {y v:V} {u r:Value} {o:Option V} {A:Around} {E:Value->Shared->Prop}
theorem Inv.big(I:Inv X pins σ H s):sysModules < s.heap.objs.size:=by
 have h:mainGlobals < s.heap.objs.size:=(I.mod.glob.keeps I.bk).lt;exact Ez (by decide) h
theorem ziJ{Q:Value->Shared->Prop}(hu:A.units+1 < cLine)(I:Inv X pins σ H s)(g:DGet H a y (some v))(ry:RelV y u)(h:∀ w' s',Inv X pins σ H s'->RelV v w'->Q w' s') :
   wpAny (model X.prog X.w) A (getItem (.ref a) u) Q E s:=by
 rcases g with ⟨kvs,k,e,ey,l⟩ | ⟨kvs,k,b,e,ey,eb,l⟩
 . subst ey;obtain⟨z,hd,vs,rel,dd⟩:=zk5 I.hok e;obtain⟨w',hw,rw'⟩:=RelO.some_of (v:=v) (o:=valueAt vs k) (by rw[l];exact rel.val k);exact wpAny_getItem_of (zk3 ry) dd.mapOf hw (h w' _ (I.tok _) rw')
 . subst ey
   cases (show u=A4 b from ry)
   obtain⟨z,hd,xs,rel,dd⟩:=zk4 I.hok e;obtain⟨w',hw,rw'⟩:=RelO.some_of (v:=v) (o:=(atKey xs k).map (·.2)) (by rw[l];exact rel.val k);obtain⟨p,hp,hp2⟩:=Option.map_eq_some_iff.mp hw;refine wpAny_getItem_heap (Cr hu) (zf6 I.hok eb) dd hp ?_;rw[hp2];exact h w' _ (I.tok _) rw'
theorem d_in{Q:Value->Shared->Prop}(hu:A.units+1 < cLine)(I:Inv X pins σ H s)(g:DGet H a y o)(ry:RelV y u)(h:∀ s',Inv X pins σ H s'->Q (.bool o.isSome) s') :
   wpAny (model X.prog X.w) A (compareOp .In u (.ref a)) Q E s:=by
 rcases g with ⟨kvs,k,e,ey,l⟩ | ⟨kvs,k,b,e,ey,eb,l⟩
 . subst ey;obtain⟨z,hd,vs,rel,dd⟩:=zk5 I.hok e;refine wpAny_in_of (zk3 ry) hd dd.mapOf ?_;rw[<-(rel.val k).isSome_eq,<-l];exact h _ (I.tok _)
 . subst ey
   cases (show u=A4 b from ry)
   obtain⟨z,hd,xs,rel,dd⟩:=zk4 I.hok e;refine wpAny_in_heap (Cr hu) (zf6 I.hok eb) hd dd ?_;have q:=(rel.val k).isSome_eq;rw[Dp] at q;rw[<-q,<-l];exact h _ (I.tok _)
theorem zmt{Q:Value->Shared->Prop}(hu:A.units+1 < cLine)(I:Inv X pins σ H s)(g:DGet H a y o)(ry:RelV y u)(h:∀ s',Inv X pins σ H s'->Q (.bool (!o.isSome)) s') :
   wpAny (model X.prog X.w) A (compareOp .NotIn u (.ref a)) Q E s:=by
 rcases g with ⟨kvs,k,e,ey,l⟩ | ⟨kvs,k,b,e,ey,eb,l⟩
 . subst ey;obtain⟨z,hd,vs,rel,dd⟩:=zk5 I.hok e;refine wpAny_notIn_of (zk3 ry) hd dd.mapOf ?_;rw[<-(rel.val k).isSome_eq,<-l];exact h _ (I.tok _)
 . subst ey
   cases (show u=A4 b from ry)
   obtain⟨z,hd,xs,rel,dd⟩:=zk4 I.hok e;refine wpAny_notIn_heap (Cr hu) (zf6 I.hok eb) hd dd ?_;have q:=(rel.val k).isSome_eq;rw[Dp] at q;rw[<-q,<-l];exact h _ (I.tok _)
theorem zfE{h':Heap}{t':Nat}{ob:HO}(I:Inv X pins σ H s)(mu:Mut (H a))(hs:Cq a s.heap h')(he:∃ q,h'.get? a=some q)(new:zcA X.prog X.w (upd H a ob) h' a ob) :
   Inv X pins σ (upd H a ob) { s with heap:=h',toks:=t' } :=
 I.write (x:=a) (e:=a) mu (.inl rfl) (fun b q hb z=>(hs.2 b hb).trans z) he new
theorem zms{P:Program}{w:World}{H':Hp}{h':Heap}{kvs:List (Key×V)}{vs:List (Key×Value)}(z:kvs.length<=sizeLine)(hd:(a==sysModules)=false)(rel:KV kvs vs)(dd:h'.DictOf (za5 P w) a vs) :
   zcA P w H' h' a (.dK kvs):=⟨z,hd,vs,rel,dd⟩
theorem ziI{H':Hp}{Q:Unit->Shared->Prop}(hu:A.units+1 < cLine)(I:Inv X pins σ H s)(g:DPut H a y v H')(ry:RelV y u)(rv:RelV v r)(h:∀ s',Inv X pins σ H' s'->Q () s') :
   wpAny (model X.prog X.w) A (setItem (.ref a) u r) Q E s:=by
 rcases g with ⟨kvs,k,e,ey,l,eH⟩ | ⟨kvs,k,b,e,ey,eb,l,eH⟩
 . subst ey eH;obtain⟨z,hd,vs,rel,dd⟩:=zon I.hok e;have hz:vs.length<=sizeLine:=by rw[<-rel.length];exact z
   have hl:(putK kvs k v).length<=sizeLine:=by have:=zct kvs k v;omega
   refine wpAny_setItem_pairs (hsz:=hz) (zk3 ry) dd fun h' dd' hs=>h _ ?_;have he:∃ q,h'.get? a=some q:=let ⟨q,_,_,hq,_⟩:=dd';⟨q,hq⟩
   exact zfE I (by rw[e];exact CA) hs he (zms hl hd (rel.put k rv) dd')
 . subst ey eH
   cases (show u=A4 b from ry)
   obtain⟨z,hd,xs,rel,dd⟩:=zoK I.hok e;have hz:xs.length<=sizeLine:=by rw[<-BP rel];exact z
   have hl:(putK kvs k v).length<=sizeLine:=by have:=zct kvs k v;omega
   refine wpAny_setItem_heap (hsz:=hz) (Cr hu) (zf6 I.hok eb) dd fun h' dd' hs=>h _ ?_;obtain⟨q,es,ep,hq,h2,h3,h4,_,h5⟩:=dd';refine zfE I (by rw[e];exact CA) hs ⟨q,hq⟩ ⟨hl,hd,_,(rel.put k eb rv).keeps fun c ys ec=>?_,q,es,ep,hq,h2,h3,h4,h5⟩;rw[zaG (zmN ec e (fun z=>nomatch z))];exact ec
end
def NoSl(i:Expr):Prop:=∀ ov iv,subscripted i false ov iv=operate [ov,iv] (getItem ov iv)
theorem zli{prog:Program}{w:World}{A:Around}{E:Value->Shared->Prop}{s:Shared}{env:Env}{value slice:Expr}{pos:Pos}{T id:String}{Q:Value->Shared->Prop}
   (hl:typeLookup (.type T) "__getitem__"=pure (some (.builtin id))) (hs:NoSl slice)
   (h:wpAny (model prog w) A (eval value env) (fun o s₁=>wpAny (model prog w) A (eval slice env) (fun i s₂=>s₂.TypeIs o T/\wpAny (model prog w) A (getItem o i) Q E s₂) E s₁) E s) :
   wpAny (model prog w) A (eval (.Subscript value slice pos) env) Q E s:=by
 refine Eh (BA h (fun o s₁ h₁=>BA h₁ (fun i s₂ h₂=>?_) fun _ _ x=>x) fun _ _ x=>x);obtain⟨hT,h₂⟩:=h₂;unfold subscriptTail;refine Aa ?_;rw[getitemInPython_of_ne hT.not_modules];refine Aa (wpAny_specialOf hT hl ?_);have fin:wpAny (model prog w) A (subscripted slice false o i) (fun r s₃=>wpAny (model prog w) A (letTemporaryGo value o r >>= fun _=>pure r) Q E s₃) E s₂:=by
   rw[hs o i];exact wpAny_operating (BA h₂ (fun r s₃ h₃=>Aa (wpAny_letTemporaryGo (Ae h₃))) fun _ _ x=>x)
 first
   | exact Ae (Aa fin)
   | exact Aa (Ae (Aa fin))
   | exact Aa fin
theorem zf8{X:Cx}{pins:List (Addr×Obj)}{σ:St}{H:Hp}{s:Shared}{a:Addr}{y:V}{o:Option V}(I:Inv X pins σ H s)(g:DGet H a y o):s.TypeIs (.ref a) "dict":=by
 rcases g with ⟨kvs,k,e,_,_⟩ | ⟨kvs,k,b,e,_,_,_⟩
 . obtain⟨_,_,vs,_,dd⟩:=zk5 I.hok e;exact dd.typeIs
 . obtain⟨_,_,xs,_,dd⟩:=zk4 I.hok e;exact dd.typeIs
noncomputable def zoZ(td ty:TE):TE:=fun σ H Q=>td σ H fun x H1=>ty σ H1 fun y H2=>∃ a v,x=.ref a/\DGet H2 a y (some v)/\Q v H2
noncomputable def tDIn(ty td:TE):TE:=fun σ H Q=>ty σ H fun y H1=>td σ H1 fun x H2=>∃ a o,x=.ref a/\DGet H2 a y o/\Q (.bl o.isSome) H2
noncomputable def zlh(ty td:TE):TE:=fun σ H Q=>ty σ H fun y H1=>td σ H1 fun x H2=>∃ a o,x=.ref a/\DGet H2 a y o/\Q (.bl (!o.isSome)) H2
noncomputable def zo6(td ty tv:TE):TS:=fun D σ H=>tv σ H fun v H1=>td σ H1 fun x H2=>ty σ H2 fun y H3=>∃ a H4,x=.ref a/\DPut H3 a y v H4/\D.nx σ H4
section
variable {X:Cx} {o i e value:Expr} {pos pos' tpos:Pos} {td ty tv:TE}
theorem zlV(hu:X.A.units+1 < cLine)(ho:PE X o td)(hi:PE X i ty)(hs:NoSl i):PE X (.Subscript o i pos) (zoZ td ty):=by
 intro pins s σ H Q I h;refine zli PySem.F.slot_dict_getitem.lookup hs (thn (ho pins s σ H _ I h) fun u s1 ⟨x,H1,I1,rx,q1⟩=>thn (hi pins s1 σ H1 _ I1 q1) ?_);rintro iv s2 ⟨y,H2,I2,ry,a,v,ex,g,q2⟩;subst ex;obtain rfl:u=A4 a:=rx;exact⟨zf8 I2 g,ziJ hu I2 g ry fun w' s3 I3 rw'=>⟨v,H2,I3,rw',q2⟩⟩
theorem znH(hu:X.A.units+1 < cLine)(hi:PE X i ty)(ho:PE X o td):PC X .In i o (tDIn ty td):=by
 intro pins s σ H Q I h;refine thn (hi pins s σ H _ I h) fun iv s1 ⟨y,H1,I1,ry,q1⟩=>thn (ho pins s1 σ H1 _ I1 q1) ?_;rintro u s2 ⟨x,H2,I2,rx,a,ov,ex,g,q2⟩;subst ex;obtain rfl:u=A4 a:=rx;exact d_in hu I2 g ry fun s3 I3=>⟨.bl ov.isSome,H2,I3,rfl,q2⟩
theorem zii(hu:X.A.units+1 < cLine)(hi:PE X i ty)(ho:PE X o td):PC X .NotIn i o (zlh ty td):=by
 intro pins s σ H Q I h;refine thn (hi pins s σ H _ I h) fun iv s1 ⟨y,H1,I1,ry,q1⟩=>thn (ho pins s1 σ H1 _ I1 q1) ?_;rintro u s2 ⟨x,H2,I2,rx,a,ov,ex,g,q2⟩;subst ex;obtain rfl:u=A4 a:=rx;exact zmt hu I2 g ry fun s3 I3=>⟨.bl (!ov.isSome),H2,I3,rfl,q2⟩
theorem zlO(hu:X.A.units+1 < cLine)(ho:PE X o td)(hi:PE X i ty)(hv:PE X value tv)(hs:swapsWith value (some (.Subscript o i pos')) pos.line X.env=pure false) :
   PS X (.Assign [.Subscript o i pos'] value pos) (zo6 td ty tv):=by
 intro pins s σ H D I h;refine wpAny_Assign_Subscript (thn (hv pins s σ H _ I h) fun r s1 ⟨v,H1,I1,rv,q1⟩=>thn (ho pins s1 σ H1 _ I1 q1) fun u s2 ⟨x,H2,I2,rx,q2⟩=>thn (hi pins s2 σ H2 _ I2 q2) ?_) hs;rintro iv s3 ⟨y,H3,I3,ry,a,H4,ex,g,q3⟩;subst ex;obtain rfl:u=A4 a:=rx;exact ziI hu I3 g ry rv fun s4 I4=>⟨σ,H4,I4,q3⟩
end
theorem zhl{P:Program}{w:World}{H:Hp}(h:Heap)(hb:sysModules < h.objs.size):zcA P w H (h.push { cls:=.type "dict",data:=.dict #[] }) h.objs.size (.dK []) :=
 ⟨Bu _,beq_eq_false_iff_ne.mpr (A7 (AG hb)),[],.nil,Heap.DictOf.new h⟩
theorem zkF{P:Program}{w:World}{H:Hp}(h:Heap)(hb:sysModules < h.objs.size):zcA P w H (h.push { cls:=.type "dict",data:=.dict #[] }) h.objs.size (.dT []) :=
 ⟨Bu _,beq_eq_false_iff_ne.mpr (A7 (AG hb)),[],.nil,_,#[],0,Ar _ rfl,⟨rfl,rfl,rfl⟩,rfl,rfl,Fp⟩
noncomputable def zm0:TE:=fun _ H Q=>∀ p,H p=none->Q (.ref p) (upd H p (.dK []))
section
variable {X:Cx} {pos:Pos}
theorem zkb:PE X (.Dict [] [] pos) zm0:=fun pins s σ H Q I h =>
 wpAny_Dict_empty ⟨.ref s.heap.objs.size,_,I.laid (a:=s.heap.objs.size) (o:=.dK []) (t':=s.toks) (fun _ _ q=>Ad _ q) (Af _) (zhl s.heap I.big),rfl,h _ (I.hok.fresh (Af _))⟩
end
noncomputable def zhS:List (TE×TE)->St->Hp->(List (V×V)->Hp->Prop)->Prop
 | [],_,H,Q=>Q [] H
 | (tk,tv)::r,σ,H,Q=>tk σ H fun x H1=>tv σ H1 fun y H2=>zhS r σ H2 fun ps H3=>Q ((x,y)::ps) H3
noncomputable abbrev VV:List (V×V)->List (Value×Value)->Prop:=Paired fun p q=>RelV p.1 q.1/\RelV p.2 q.2
def PPs(X:Cx)(pos:Pos)(keys:List (Option Expr))(values:List Expr)(trs:List (TE×TE)):Prop :=
 ∀ (pins:List (Addr×Obj)) (s:Shared) (σ:St) (H:Hp) (Q:List (V×V)->Hp->Prop),Inv X pins σ H s->zhS trs σ H Q ->
   wpAny (model X.prog X.w) X.A (evalPairs (pairTrees keys values X.env pos)) (fun vs s'=>∃ ps H',Inv X pins σ H' s'/\VV ps vs/\Q ps H') X.xe s
theorem zi6{X:Cx}{pos:Pos}:PPs X pos [] [] []:=fun pins s σ H Q I h=>pairTrees_nil_walk ⟨[],H,I,.nil,h⟩
theorem zdU{X:Cx}{pos:Pos}{k v:Expr}{ks:List (Option Expr)}{vs:List Expr}{tk tv:TE}{trs:List (TE×TE)}(hk:PE X k tk)(hv:PE X v tv)(hr:PPs X pos ks vs trs) :
   PPs X pos (some k::ks) (v::vs) ((tk,tv)::trs):=fun pins s σ H Q I h =>
 pairTrees_cons_walk (thn (hk pins s σ H _ I h) fun u s1 ⟨x,H1,I1,rx,q1⟩=>thn (hv pins s1 σ H1 _ I1 q1) fun w2 s2 ⟨y,H2,I2,ry,q2⟩ =>
   thn (hr pins s2 σ H2 _ I2 q2) fun ws s3 ⟨ps,H3,I3,rel,q3⟩=>⟨(x,y)::ps,H3,I3,.cons ⟨rx,ry⟩ rel,q3⟩)
noncomputable def zeZ(kvs more:List (Key×V)):List (Key×V):=more.foldl (fun acc kv=>putK acc kv.1 kv.2) kvs
theorem KV.merge:∀ {more:List (Key×V)} {rs:List (Key×Value)} {kvs:List (Key×V)} {vs:List (Key×Value)},KV more rs->KV kvs vs->KV (zeZ kvs more) (merged vs rs):=by
 intro more rs kvs vs r;unfold KV at r
 induction r generalizing kvs vs with
 | nil=>intro q;exact q
 | @cons p q ps qs h t ih =>
   intro r0;have e:KV (putK kvs p.1 p.2) (stored vs q.1 q.2):=by
     have:=r0.put p.1 h.2;rw[<-h.1];exact this
   exact ih e
theorem zcG:∀ (more kvs:List (Key×V)),(zeZ kvs more).length<=kvs.length+more.length
 | [],kvs=>by show kvs.length<=kvs.length+0;omega
 | p::r,kvs=>by
   have h1:=zcG r (putK kvs p.1 p.2);have h2:=zct kvs p.1 p.2;show (zeZ (putK kvs p.1 p.2) r).length<=_;rw[AX];omega
theorem zez{P:Program}{w:World}:∀ {kvs:List (Key×V)} {ws:List (Value×Value)},VV (kvs.map fun kv=>(kV kv.1,kv.2)) ws->∃ rs,Carries (za5 P w) ws rs/\KV kvs rs
 | [],_,r=>by rw[Br] at r;cases r;exact⟨[],CA,.nil⟩
 | p::kvs,_,r=>by
   rw[Ax] at r
   cases r with
   | @cons a b as bs h t =>
     obtain⟨rs,c,q⟩:=zez (P:=P) (w:=w) t;obtain⟨b1,b2⟩:=b;exact⟨(p.1,b2)::rs,⟨zk3 h.1,rfl,c⟩,.cons ⟨rfl,h.2⟩ q⟩
noncomputable def zoY(trs:List (TE×TE)):TE:=fun σ H Q=>∀ p,H p=none->zhS trs σ (upd H p (.dK [])) fun ps H2=>H2 p=some (.dK [])/\∃ kvs:List (Key×V),ps=kvs.map (fun kv=>(kV kv.1,kv.2))/\kvs.length<=15/\Q (.ref p) (upd H2 p (.dK (zeZ [] kvs)))
theorem zlU{X:Cx}{pos:Pos}{keys:List (Option Expr)}{values:List Expr}{trs:List (TE×TE)}(h:PPs X pos keys values trs)(hall:keys.all (·.isSome)=true)(hl:keys.length=values.length)(h0:keys≠[])
   (h15:keys.length<=15):PE X (.Dict keys values pos) (zoY trs):=by
 intro pins s σ H Q I q;have hn:=I.hok.fresh (Af s.heap.objs.size);have I1:=I.laid (a:=s.heap.objs.size) (o:=.dK []) (h':=s.heap.push { cls:=.type "dict",data:=.dict #[] }) (t':=s.toks) (fun _ _ q=>Ad _ q) (Af _) (zhl s.heap I.big);refine wpAny_Dict_walk (knd:=za5 X.prog X.w) hall hl h0 h15 (thn (h pins _ σ _ _ I1 (q _ hn)) ?_);rintro ws s2 ⟨ps,H2,I2,rel,e,kvs,ep,lk,q2⟩;subst ep;obtain⟨rs,c,rk⟩:=zez (P:=X.prog) (w:=X.w) rel;obtain⟨z,hd,vs0,r0,dd⟩:=zon I2.hok e;cases r0;refine⟨rs,c,dd,fun h' dd' hs=>⟨.ref s.heap.objs.size,_,?_,rfl,q2⟩⟩;have hz:(zeZ [] kvs).length<=sizeLine:=by
   have h1:=zcG kvs [];rw[Cn] at h1;rw[DR];omega
 have he:∃ q,h'.get? s.heap.objs.size=some q:=let ⟨q,_,_,hq,_⟩:=dd';⟨q,hq⟩
 exact zfE I2 (by rw[e];exact CA) hs he (zms hz hd (rk.merge .nil) dd')
def IsD(H:Hp)(a:Addr):Prop:=(∃ kvs,Rd H a (.dK kvs))\/∃ kvs,Rd H a (.dT kvs)
theorem zog{X:Cx}{pins:List (Addr×Obj)}{σ:St}{H:Hp}{s:Shared}{a:Addr}(I:Inv X pins σ H s)(d:IsD H a) :
   s.TypeIs (.ref a) "dict"/\(∀ b,A4 a=.ref b->∃ ob,s.heap.get? b=some ob/\ob.dict=none)/\(a==sysModules)=false:=by
 rcases d with ⟨kvs,e⟩ | ⟨kvs,e⟩
 . obtain⟨_,hd,vs,_,dd⟩:=zk5 I.hok e;refine⟨dd.typeIs,fun b q=>?_,hd⟩;cases q;obtain⟨ob,_,_,h1,h2,_⟩:=dd;exact⟨ob,h1,h2.2.1⟩
 . obtain⟨_,hd,xs,_,dd⟩:=zk4 I.hok e;refine⟨dd.typeIs,fun b q=>?_,hd⟩;cases q;obtain⟨ob,_,_,h1,h2,_⟩:=dd;exact⟨ob,h1,h2.2.1⟩
end L2
namespace HT
open PySem PyProof.Rows
noncomputable def lexLt:List Int->List Int->Bool
 | [],[]=>false
 | [],_::_=>true
 | _::_,[]=>false
 | x::xs,y::ys=>if x=y then lexLt xs ys else decide (x < y)
theorem lexLt_cons(x y:Int)(xs ys:List Int):lexLt (x::xs) (y::ys)=if x=y then lexLt xs ys else decide (x < y):=rfl
theorem lexLt_nil_nil:lexLt [] []=false:=rfl
theorem lexLt_nil_cons(y:Int)(ys:List Int):lexLt [] (y::ys)=true:=rfl
theorem lexLt_cons_nil(x:Int)(xs:List Int):lexLt (x::xs) []=false:=rfl
theorem zkD(A:Around)(s:Shared)(a:Int)(t:Tok)(c:Int)(u:Tok):∃ e,SeqAt.EqAt A s (.int a t) (.int c u) e/\(e=true ↔ a=c) :=
 ⟨(a==c),EA a t c u,by simp⟩
theorem zj2(A:Around)(s:Shared)(a:Int)(t:Tok)(c:Int)(u:Tok)(prog:Program)(w:World)(E:Value->Shared->Prop)(Q:Value->Shared->Prop)(h:Q (.bool (decide (a < c))) s) :
   wpAny (model prog w) A (richCompare .Lt (.int a t) (.int c u)) Q E s :=
 (Fd h:wpAny (model prog w) A (compareOp .Lt (.int a t) (.int c u)) Q E s)
section
open PySem.SeqAt
open PySem.MeetsSeq PySem.MeetsSeq2 PySem.MeetsSeq3
theorem zeg(l b:Addr)(items items2:Array Value)(n n2:Nat)(dd dd2:Option Addr)(sl sl2:Array (Option Value))(ns ms:List Int)(hi:IntsAre items.toList ns)(hj:IntsAre items2.toList ms) :
   Meets (Builtin.«tuple.__lt__» ⟨[.ref l,.ref b],[]⟩)
     (fun _ R s=>s.heap.get? l=some { cls:=.type "tuple",dict:=dd,data:=.seq items n,slots:=sl }/\s.heap.get? b=some { cls:=.type "tuple",dict:=dd2,data:=.seq items2 n2,slots:=sl2 } /\
       R (.ok (.ret (.bool (lexLt ns ms)))) s) :=
 .of_wp fun prog w A R s h=>by
   obtain⟨hp,g,d,tk,os⟩:=s;obtain⟨hl,hb,h⟩:=h;have f2:=AutoSeq1.sub_tuple_tuple;have z1:items.size=ns.length:=by rw[<-hi.length];simp
   have z2:items2.size=ms.length:=by rw[<-hj.length];simp
   wp_walk using wpAny_loadPart' hl,wpAny_loadPart' hb,wpAny_forIn_list _ (fun rest b s'=>b.1=none/\s'=⟨hp,g,d,tk,os⟩/\∃ (vs ws:List Value) (ns' ms':List Int),rest=vs.zip ws /\
     IntsAre vs ns'/\IntsAre ws ms'/\ns'.length+items2.size=ms'.length+items.size/\R (.ok (.ret (.bool (lexLt ns' ms')))) ⟨hp,g,d,tk,os⟩) _
   case turn =>
     rintro ⟨y,x⟩ rest b s' ⟨hb',rfl,vs,ws,ns',ms',hz,hvi,hwi,hlen,hR⟩
     cases hvi with
     | nil=>rw[List.zip_nil_left] at hz;cases hz
     | cons a t hvi' =>
       cases hwi with
       | nil=>rw[List.zip_nil_right] at hz;cases hz
       | cons c u hwi' =>
         rw[EB] at hz;injection hz with hyx hrest
         injection hyx with hy hx
         subst hy hx;rw[lexLt_cons] at hR;simp only[AX] at hlen;obtain⟨e,he,hiff⟩:=zkD A.in1 ⟨hp,g,d,tk,os⟩ a t c u;refine Aa (he prog w _ _ ?_)
         cases e with
         | true =>
           rw[if_pos (hiff.mp rfl)] at hR
           wp_walk
           exact⟨rfl,rfl,_,_,_,_,hrest,hvi',hwi',by omega,hR⟩
         | false =>
           rw[if_neg (fun q=>absurd (hiff.mpr q) A9)] at hR;have hri:=zj2 A.in1 ⟨hp,g,d,tk,os⟩ a t c u prog w
           wp_walk using hri
           exact⟨_,rfl,by simpa using hR⟩
   case fin =>
     rintro ⟨b1,b2⟩ s' ⟨hb',rfl,vs,ws,ns',ms',hz,hvi,hwi,hlen,hR⟩;simp only at hb';subst hb';have hv:lexLt ns' ms'=decide (items.size < items2.size):=by
       cases hvi with
       | nil =>
         cases hwi with
         | nil =>
           simp only[Cn] at hlen;rw[lexLt_nil_nil];exact (decide_eq_false (by omega)).symm
         | cons c u hw =>
           simp only[Cn,AX] at hlen;rw[lexLt_nil_cons];exact (decide_eq_true (by omega)).symm
       | cons a t hv =>
         cases hwi with
         | nil =>
           simp only[Cn,AX] at hlen;rw[lexLt_cons_nil];exact (decide_eq_false (by omega)).symm
         | cons c u hw =>
           rw[EB] at hz;cases hz
     rw[hv] at hR
     wp_walk
     exact⟨_,rfl,by simpa[Builtin.Tuple.tupleCompareSizes] using hR⟩
   case h =>
     exact⟨rfl,rfl,items.toList,items2.toList,ns,ms,rfl,hi,hj,by omega,h⟩
end
section
variable {prog:Program} {w:World} {A:Around} {E:Value->Shared->Prop} {s:Shared}
theorem lt_tupInts{l b:Addr}{items items2:Array Value}{ns ms:List Int}{Q:Value->Shared->Prop}(hl:IsTup s.heap l items)(hb:IsTup s.heap b items2)(hi:IntsAre items.toList ns)(hj:IntsAre items2.toList ms)
   (hu:A.units < cLine) (h:Q (.bool (lexLt ns ms)) s):wpAny (model prog w) A (compareOp .Lt (.ref l) (.ref b)) Q E s:=by
 obtain⟨⟨cls,dd,data,sl⟩,ho,hc,n,hd⟩:=id hl;obtain⟨⟨cls2,dd2,data2,sl2⟩,ho2,hc2,n2,hd2⟩:=id hb;simp only at hc hd hc2 hd2;subst hc hd hc2 hd2;exact richCompare_meets_room (op:=.Lt) ⟨_,ho,rfl⟩ ⟨_,ho2,rfl⟩ PySem.F.slot_tuple_lt PySem.F.entry_tuple_lt (PySem.F.args_tuple_lt_2 _ _) (zeg l b items items2 n n2 dd dd2 sl sl2 ns ms hi hj)
   ⟨ho,ho2,show Cy (lexLt ns ms)≠Value.notImplemented/\Q (.bool (lexLt ns ms)) s from ⟨(fun x=>nomatch x),h⟩⟩ hu
theorem cat_tup{t b:Addr}{vs ws:List Value}{Q:Value->Shared->Prop}(ht:IsTup s.heap t vs.toArray)(hb:IsTup s.heap b ws.toArray)(hv:vs≠[])
   (h1:ws=[]->Q (.ref t) s) (h2:ws≠[]->Q (.ref s.heap.objs.size) { s with heap:=s.heap.push { cls:=.type "tuple",data:=.seq (vs++ws).toArray } })
   (hsz:vs.length+ws.length<=sizeLine):wpAny (model prog w) A (binaryOp .Add (.ref t) (.ref b)) Q E s:=by
 obtain⟨⟨cls,dd,data,sl⟩,ho,hc,n,hd⟩:=id ht;obtain⟨⟨cls2,dd2,data2,sl2⟩,ho2,hc2,n2,hd2⟩:=id hb;simp only at hc hd hc2 hd2;subst hc hd hc2 hd2;have e:vs.toArray++ws.toArray=(vs++ws).toArray:=by simp
 by_cases hw:ws=[]
 . exact concat_meets ⟨_,ho,rfl⟩ ⟨_,ho2,rfl⟩ noFill_tuple_add seq_tuple_add DV DH (DB _ _)
     (tuple_addW1 t b vs.toArray ws.toArray n n2 dd dd2 sl sl2 (by simpa using hv) (by simp[hw])) ⟨ho,ho2,h1 hw⟩
 . refine concat_meets ⟨_,ho,rfl⟩ ⟨_,ho2,rfl⟩ noFill_tuple_add seq_tuple_add DV DH (DB _ _)
     (tuple_addW2 t b vs.toArray ws.toArray n n2 dd dd2 sl sl2 (by simpa using hv) (by simpa using hw) (by rw[Am,Am];exact hsz)) ⟨ho,ho2,?_⟩
   rw[e];exact h2 hw
noncomputable def sIx(n d:Nat):Option Int->Nat
 | none=>d
 | some v=>if v < 0 then (v+(n:Int)).toNat else min v.toNat n
theorem zni(n d:Nat)(hd:d<=n)(o:Option Int):sIx n d o<=n:=by
 cases o with
 | none=>exact hd
 | some v =>
   show (if v < 0 then (v+(n:Int)).toNat else min v.toNat n)<=n
   by_cases hv:v < 0
   . rw[if_pos hv];omega
   . rw[if_neg hv];exact DC _ _
theorem zjl(v:Int)(n d:Nat):(if v < 0 then max (v+(n:Int)) 0 else min v (n:Int))=((sIx n d (some v):Nat):Int):=by
 show (if v < 0 then max (v+(n:Int)) 0 else min v (n:Int))=(((if v < 0 then (v+(n:Int)).toNat else min v.toNat n):Nat):Int)
 by_cases hv:v < 0
 . simp only[if_pos hv];omega
 . simp only[if_neg hv];omega
theorem zhG(lo hi:Option Int)(n:Nat):Bn lo hi 1 (n:Int)=(((sIx n 0 lo:Nat):Int),((sIx n n hi:Nat):Int)):=by
 have h1:¬ ((1:Int) < 0):=by omega
 unfold Bn;simp only[h1,if_false];refine Prod.ext ?_ ?_
 . cases lo with
   | none=>rfl
   | some v=>exact zjl v n 0
 . cases hi with
   | none=>rfl
   | some v=>exact zjl v n n
theorem zgN(i j:Nat):A8 (i:Int) (j:Int) 1=j - i:=by
 unfold A8;have h1:(1:Int) > 0:=by omega
 simp only[h1,if_true,Int.ediv_one]
 split <;> omega
theorem slicePart_{v:Value}{o:Option Int}{Q:Option Int->Shared->Prop}(p:IsPart v o)(h:Q o s):wpAny (model prog w) A (Builtin.Slice.slicePartIndex v) Q E s:=by
 cases p with
 | none=>exact slicePart_none h
 | int i t=>exact slicePart_int h
theorem sliceApplied_gen{sl:Addr}{vl vu:Value}{lo hi:Option Int}{n:Nat}{Q:Int×Int×Nat->Shared->Prop}(hs:s.heap.IsSliceOf sl vl vu .none)(pl:IsPart vl lo)(pu:IsPart vu hi)
   (h:Q (((sIx n 0 lo:Nat):Int),1,sIx n n hi - sIx n 0 lo) s):wpAny (model prog w) A (BQ (.ref sl) (pure (n:Int))) Q E s:=by
 obtain⟨os,hos,hcs,hds⟩:=id hs;unfold BQ Dv;refine Aa (Aa (Ba hos hds (x:=vl) rfl (Aa (Ba hos hds (x:=vu) rfl (Aa (Ba hos hds (x:=.none) rfl (Ae ?_)))))));refine Aa (slicePart_none ?_);show wpAny _ _ (if ((1:Int)==0)=true then _ else _) _ _ s;rw[if_neg (by decide)];refine Aa (slicePart_ pl (Aa (slicePart_ pu (Aa (Ae ?_)))));show wpAny _ _ (match Bn lo hi 1 (n:Int) with | (lo,hi)=>pure (lo,(1:Int),A8 lo hi 1)) _ _ s;rw[zhG lo hi n];show wpAny _ _ (pure (((sIx n 0 lo:Nat):Int),(1:Int),A8 ((sIx n 0 lo:Nat):Int) ((sIx n n hi:Nat):Int) 1)) _ _ s;rw[zgN];exact Ae h
theorem zj9(xs:Array Value)(i k:Nat):((AQ k).filterMap fun (m:Nat)=>xs[((i:Int)+(m:Int)*1).toNat]?).toArray=((xs.toList.drop i).take k).toArray:=by
 have e:(fun (m:Nat)=>xs[((i:Int)+(m:Int)*1).toNat]?)=fun m=>xs[i+m]?:=by
   funext m
   have:((i:Int)+(m:Int)*1).toNat=i+m:=by omega
   rw[this]
 rw[e];have:=pick_run xs i k;rw[EC] at this;have e2:((fun x=>xs[x]?) ∘ fun x=>i+x)=fun m=>xs[i+m]?:=rfl;rw[e2] at this;rw[this]
theorem getItem_tuple_cut{t sl:Addr}{items:Array Value}{vl vu:Value}{lo hi:Option Int}{Q:Value->Shared->Prop}(ht:IsTup s.heap t items)(hs:s.heap.IsSliceOf sl vl vu .none)(pl:IsPart vl lo)(pu:IsPart vu hi)
   (hw:¬ (sIx items.size 0 lo=0/\sIx items.size items.size hi=items.size))
   (h:Q (.ref s.heap.objs.size) { s with heap:=s.heap.push { cls:=.type "tuple",data:=.seq ((items.toList.drop (sIx items.size 0 lo)).take (sIx items.size items.size hi - sIx items.size 0 lo)).toArray } })
   (hsz:items.size<=sizeLine):wpAny (model prog w) A (getItem (.ref t) (.ref sl)) Q E s:=by
 have htake:sizeOk (.seq ((items.toList.drop (sIx items.size 0 lo)).take (sIx items.size items.size hi - sIx items.size 0 lo)).toArray):=by
   show ((items.toList.drop (sIx items.size 0 lo)).take (sIx items.size items.size hi - sIx items.size 0 lo)).toArray.size<=sizeLine;rw[Am,AJ,AY,A3];omega
 have hj:sIx items.size items.size hi<=items.size:=zni _ _ (Af _) hi;obtain⟨os,hos,hcs,hds⟩:=id hs;have hTs:s.TypeIs (.ref sl) "slice":=⟨os,hos,hcs⟩
 unfold getItem
 try with_reducible refine Bi ?_
 first | refine Aa (Ae ?_) | skip
 refine Aa (Dq ht.typeIs (by decide) ?_);refine Aa (A5 (name:=BB "__getitem__") ht.typeIs Be
   (Bc Be ht.typeIs CZ ?_ (De _ _)))
 show wpAny _ _ (Cf (.ref t) >>= _) _ _ s;refine Aa (El ht ?_);refine Aa (DD hTs ?_);rw[if_pos (by decide)];refine Aa (sliceApplied_gen hs pl pu ?_);have hno:¬ ((((sIx items.size 0 lo:Nat):Int)==0&&(1:Int)==1&&(sIx items.size items.size hi - sIx items.size 0 lo)==items.size)=true):=by
   intro q;rw[Ao,Ao] at q;have q1:((sIx items.size 0 lo:Nat):Int)=0:=eq_of_beq q.1.1;have q2:sIx items.size items.size hi - sIx items.size 0 lo=items.size:=eq_of_beq q.2;exact hw ⟨by omega,by omega⟩
 show wpAny _ _ (if (((sIx items.size 0 lo:Nat):Int)==0&&(1:Int)==1&&(sIx items.size items.size hi - sIx items.size 0 lo)==items.size)=true then _ else _) _ _ s;rw[if_neg hno,zj9]
 first
   | exact Aa (m:=Bd _) (AR (Ae ⟨_,rfl,Ae h⟩) htake)
   | exact Aa (m:=Bd _) (AR (Aa (Ae (Ae ⟨_,rfl,Ae h⟩))) htake)
   | exact Aa (Aa (m:=Bd _) (AR (Ae (Ae ⟨_,rfl,Ae h⟩)) htake))
   | exact Aa (Aa (m:=Bd _) (AR (Ae ⟨_,rfl,Ae h⟩) htake))
end
end HT
namespace L2
open PySem PySem.Spec PyProof.Rows
noncomputable abbrev TO:=St->Hp->(Option Int->Hp->Prop)->Prop
def PO(X:Cx)(e:Option Expr)(t:TO):Prop :=
 ∀ (pins:List (Addr×Obj)) (s:Shared) (σ:St) (H:Hp) (Q:Option Int->Hp->Prop),Inv X pins σ H s->t σ H Q ->
   wpAny (model X.prog X.w) X.A (evalPart e X.env) (fun u s'=>∃ o H',Inv X pins σ H' s'/\IsPart u o/\Q o H') X.xe s
noncomputable def zlg:TO:=fun _ H Q=>Q none H
noncomputable def zoU(t:TE):TO:=fun σ H Q=>t σ H fun x H1=>∃ i,x=.int i/\Q (some i) H1
theorem intsAre_of{ns:List Int}:∀ {us:List Value},Vals (ns.map V.int) us->IntsAre us ns:=by
 induction ns with
 | nil=>intro us r;rw[Br] at r;cases r;exact .nil
 | cons n ns ih =>
   intro us r;rw[Ax] at r
   cases r with
   | cons r1 r2 =>
     obtain⟨t,e⟩:=r1;subst e;exact .cons n t (ih r2)
section
variable {X:Cx} {e:Expr} {te:TE} {lo hi:Option Expr} {tl th:TO} {pos p2:Pos}
theorem zlP:PO X none zlg:=by
 intro pins s σ H Q I h;rw[Em];exact Ae ⟨none,H,I,.none,h⟩
theorem zi7(h:PE X e te):PO X (some e) (zoU te):=by
 intro pins s σ H Q I hw;rw[evalPart_some];refine thn (h pins s σ H _ I hw) ?_;rintro u s1 ⟨x,H1,I1,r1,q1⟩;obtain⟨i,rfl,q⟩:=q1;obtain⟨t,rfl⟩:=r1;exact⟨some i,H1,I1,.int i t,q⟩
def SlR(X:Cx)(r:V->Option Int->Option Int->Hp->VK->Prop):Prop :=
 ∀ (pins:List (Addr×Obj)) (s:Shared) (σ:St) (H:Hp) (x:V) (v vl vu:Value) (lo hi:Option Int) (sl:Addr) (Q:VK),Inv X pins σ H s->RelV x v->s.heap.IsSliceOf sl vl vu .none->IsPart vl lo->IsPart vu hi->r x lo hi H Q ->
   ∃ T id,typeLookup (.type T) "__getitem__"=pure (some (.builtin id))/\s.TypeIs v T/\wpAny (model X.prog X.w) X.A (getItem v (.ref sl)) (EP X pins σ Q) X.xe s
noncomputable def tSl(r:V->Option Int->Option Int->Hp->VK->Prop)(te:TE)(tl th:TO):TE:=fun σ H Q=>te σ H fun x H1=>tl σ H1 fun l H2=>th σ H2 fun u H3=>r x l u H3 Q
theorem zdW{r:V->Option Int->Option Int->Hp->VK->Prop}(hr:SlR X r)(he:PE X e te)(hl:PO X lo tl)(hu:PO X hi th):PE X (.Subscript e (.Slice lo hi none p2) pos) (tSl r te tl th):=by
 intro pins s σ H Q I h;refine Eh (thn (he pins s σ H _ I h) ?_);rintro v s1 ⟨x,H1,I1,r1,q1⟩;refine wpAny_Slice (thn (hl pins s1 σ H1 _ I1 q1) fun vl s2 ⟨l,H2,I2,pl,q2⟩=>thn (hu pins s2 σ H2 _ I2 q2) ?_);rintro vu s3 ⟨u,H3,I3,pu,q3⟩;rw[Em];refine Ae ?_;have I4:Inv X pins σ H3 { s3 with heap:=s3.heap.push { cls:=.type "slice",data:=.fields #[vl,vu,.none] } }:=I3.kept (t':=s3.toks) fun b ob q=>Ad _ q;obtain⟨T,id,hT,ht,hg⟩:=hr pins { s3 with heap:=s3.heap.push { cls:=.type "slice",data:=.fields #[vl,vu,.none] } } σ H3 x v vl vu l u s3.heap.objs.size Q I4 r1 (ED ..) pl pu q3;show wpAny (model X.prog X.w) X.A (subscriptTail e (.Slice lo hi none p2) v (.ref s3.heap.objs.size)) (EP X pins σ Q) X.xe { s3 with heap:=s3.heap.push { cls:=.type "slice",data:=.fields #[vl,vu,.none] } };exact tail_any (ops:=[.ref s3.heap.objs.size,v]) ht hT hg (by with_unfolding_all rfl)
noncomputable def cutV(xs:List V)(lo hi:Option Int):List V:=(xs.drop (HT.sIx xs.length 0 lo)).take (HT.sIx xs.length xs.length hi - HT.sIx xs.length 0 lo)
theorem zdx(xs:List V)(lo hi:Option Int):(cutV xs lo hi).length<=xs.length:=by
 unfold cutV;rw[AJ,AY];omega
noncomputable def rSlT(K:Ab):V->Option Int->Option Int->Hp->VK->Prop:=fun x lo hi H Q=>∃ a xs,x=.ref a/\SqT K H a xs /\
 ¬ (HT.sIx xs.length 0 lo=0/\HT.sIx xs.length xs.length hi=xs.length)/\∀ p,H p=none->Q (.ref p) (upd H p (.tup (cutV xs lo hi)))
theorem zm4:SlR X (rSlT X.K):=by
 intro pins s σ H x v vl vu lo hi sl Q I rx hs pl pu h;obtain⟨a,xs,rfl,hx,hw,q⟩:=h;cases rx;obtain⟨its,r,ht,hz⟩:=I.tuple hx;have hlen:its.toArray.size=xs.length:=by rw[Am];exact r.length.symm
 refine⟨"tuple",_,PyProof.Rows.slot_tuple_getitem.lookup,ht.typeIs,?_⟩;refine HT.getItem_tuple_cut ht hs pl pu (by rw[hlen];exact hw) ?_ (by rw[hlen];exact hz);rw[hlen];refine⟨.ref s.heap.objs.size,_,I.laid (t':=s.toks) (o:=.tup (cutV xs lo hi)) (fun b ob q=>Ad _ q) (Af _) ?_,rfl,q _ (I.hok.fresh (Af _))⟩;exact⟨AC (zdx xs lo hi) hz,_,(r.drop (HT.sIx xs.length 0 lo)).take (HT.sIx xs.length xs.length hi - HT.sIx xs.length 0 lo),zed.new _ _⟩
noncomputable def rLtT(K:Ab):R2:=fun x y H Q=>∃ a b ns ms,x=.ref a/\y=.ref b/\SqT K H a (ns.map V.int)/\SqT K H b (ms.map V.int)/\Q (.bl (HT.lexLt ns ms)) H
theorem znM(hu:X.A.units < cLine):OpR X (compareOp .Lt) (rLtT X.K):=by
 intro pins s σ H x y v u Q I rx ry h;obtain⟨a,b,ns,ms,rfl,rfl,ha,hb,q⟩:=h;cases rx;cases ry;obtain⟨its,r1,p1,_⟩:=I.tuple ha;obtain⟨its2,r2,p2,_⟩:=I.tuple hb;have i1:IntsAre its.toArray.toList ns:=intsAre_of r1;have i2:IntsAre its2.toArray.toList ms:=intsAre_of r2;exact HT.lt_tupInts p1 p2 i1 i2 hu ⟨.bl (HT.lexLt ns ms),H,I,rfl,q⟩
noncomputable def zo8(K:Ab):R2:=fun x y H Q=>∃ a b xs ys,x=.ref a/\y=.ref b/\SqT K H a xs/\SqT K H b ys/\xs≠[]/\xs.length+ys.length<=sizeLine /\
 (ys=[]->Q (.ref a) H)/\(ys≠[]->∀ p,H p=none->Q (.ref p) (upd H p (.tup (xs++ys))))
theorem Vals.nil_iff{xs:List V}{us:List Value}(r:Vals xs us):us=[] ↔ xs=[]:=by
 cases r with
 | nil=>simp
 | cons _ _=>simp
theorem zl7:OpR X (binaryOp .Add) (zo8 X.K):=by
 intro pins s σ H x y v u Q I rx ry h;obtain⟨a,b,xs,ys,rfl,rfl,ha,hb,hx,hz,q1,q2⟩:=h;cases rx;cases ry;obtain⟨its,r1,p1,_⟩:=I.tuple ha;obtain⟨its2,r2,p2,_⟩:=I.tuple hb;refine HT.cat_tup p1 p2 (fun z=>hx (r1.nil_iff.mp z)) (fun z=>⟨.ref a,H,I,rfl,q1 (r2.nil_iff.mp z)⟩) (fun z=>?_) (by rw[<-r1.length,<-r2.length];exact hz);refine⟨.ref s.heap.objs.size,_,I.laid (t':=s.toks) (o:=.tup (xs++ys)) (fun b ob q=>Ad _ q) (Af _) ?_,rfl,q2 (fun w=>z (r2.nil_iff.mpr w)) _ (I.hok.fresh (Af _))⟩;exact⟨by rw[Aq];exact hz,_,r1.append r2,zed.new _ _⟩
end
noncomputable def ixN(n:Nat)(i:Int):Option Nat:=if 0<=i then (if i < n then some i.toNat else none) else if -(n:Int)<=i then some (i+n).toNat else none
noncomputable def atI{α:Type}(xs:List α)(i:Int):Option α:=(ixN xs.length i).bind fun j=>xs[j]?
theorem zjh{n:Nat}{i:Int}{j:Nat}(h:ixN n i=some j):seqIndex? i n=some j/\j < n/\-(n:Int)<=i/\i < n:=by
 unfold ixN at h
 by_cases h0:0<=i
 . rw[if_pos h0] at h
   by_cases h1:i < n
   . rw[if_pos h1] at h;have e:i.toNat=j:=Ay h;exact⟨by rw[EN h0 h1,e],by omega,by omega,h1⟩
   . rw[if_neg h1] at h;cases h
 . rw[if_neg h0] at h
   by_cases h1:-(n:Int)<=i
   . rw[if_pos h1] at h;have e:(i+n).toNat=j:=Ay h;exact⟨by rw[EE (by omega) h1,e],by omega,h1,by omega⟩
   . rw[if_neg h1] at h;cases h
theorem zhD{α:Type}{xs:List α}{i:Int}{v:α}(h:atI xs i=some v):∃ j,seqIndex? i xs.length=some j/\xs[j]?=some v/\j < xs.length/\-(xs.length:Int)<=i/\i < xs.length:=by
 unfold atI at h
 cases e:ixN xs.length i with
 | none=>rw[e] at h;cases h
 | some j =>
   rw[e] at h;obtain⟨h1,h2,h3,h4⟩:=zjh e;exact⟨j,h1,h,h2,h3,h4⟩
def zhH(b:Expr):Prop:=∀ o i,subscripted b false o i=operate [o,i] (getItem o i)
def IxR(X:Cx)(r:R2):Prop :=
 ∀ (value slice:Expr) (pins:List (Addr×Obj)) (s:Shared) (σ:St) (H:Hp) (x y:V) (v u:Value) (Q:VK),Inv X pins σ H s->RelV x v->RelV y u->r x y H Q ->
   subscripted slice false v u=operate [v,u] (getItem v u)->wpAny (model X.prog X.w) X.A (subscriptTail value slice v u) (EP X pins σ Q) X.xe s
def MtR(X:Cx)(id:String)(r:V->List V->Hp->VK->Prop):Prop :=
 ∀ (pins:List (Addr×Obj)) (s:Shared) (σ:St) (H:Hp) (x:V) (xs:List V) (v:Value) (us:List Value) (Q:VK),Inv X pins σ H s->RelV x v->Vals xs us->r x xs H Q ->
   wpAny (model X.prog X.w) X.A (call (.builtin id) (v::us)) (EP X pins σ Q) X.xe s
section
variable {X:Cx} {a b:Expr} {ta tb:TE} {pos:Pos}
theorem zpd{r:R2}(hr:IxR X r)(ha:PE X a ta)(hb:PE X b tb)(hs:zhH b):PE X (.Subscript a b pos) (tOp r ta tb):=by
 intro pins s σ H Q I h;exact Eh (binT ha hb I h fun v u s2 x y H2 I2 rx ry q=>hr a b pins s2 σ H2 x y v u Q I2 rx ry q (hs _ _))
noncomputable def rIxL(K:Ab):R2:=fun x y H Q=>∃ p xs i v,x=.ref p/\y=.int i/\SqL K H p xs/\atI xs i=some v/\Q v H
noncomputable def rIxT(K:Ab):R2:=fun x y H Q=>∃ p xs i v,x=.ref p/\y=.int i/\SqT K H p xs/\atI xs i=some v/\Q v H
noncomputable def rIxS:R2:=fun x y H Q=>∃ z i c,x=.str z/\y=.int i/\z.length<=sizeLine/\atI z.cps.toList i=some c/\Q (.str ⟨#[c]⟩) H
theorem zjg:IxR X (rIxL X.K):=by
 intro value slice pins s σ H x y v u Q I rx ry h hs;obtain⟨p,xs,i,z,rfl,rfl,hq,he,q⟩:=h;cases rx;obtain⟨t,rfl⟩:=ry;obtain⟨its,r,pl,hz⟩:=I.list hq;obtain⟨j,h1,h2,h3,h4,h5⟩:=zhD he;obtain⟨w,ew,rw'⟩:=r.get h2;have hl:=r.length;have hn:=ze1;have fin:EP X pins σ Q w s:=⟨z,H,I,rw',q⟩
 by_cases h0:0<=i
 . have hj:i.toNat=j:=by
     rw[EN h0 h5] at h1;exact Ay h1
   exact item_listR pl.isList h0 (by omega) (by rw[hj];simpa using ew) fin hs
 . have hj:(i+(its.toArray.size:Int)).toNat=j:=by
     rw[EE (by omega) h4] at h1;rw[Am,<-hl];exact Ay h1
   exact DW (x:=w) pl.isList.typeIs slot_list_getitem.lookup
     (wpAny_getItem_list_neg (Q:=fun r s'=>r=w/\EP X pins σ Q r s') pl.isList (by omega) (by rw[Am] <;> omega) (by omega) (by rw[hj];simpa using ew) ⟨rfl,fin⟩) hs
theorem zcu:IxR X (rIxT X.K):=by
 intro value slice pins s σ H x y v u Q I rx ry h hs;obtain⟨p,xs,i,z,rfl,rfl,hq,he,q⟩:=h;cases rx;obtain⟨t,rfl⟩:=ry;obtain⟨its,r,pl,hz⟩:=I.tuple hq;obtain⟨j,h1,h2,h3,h4,h5⟩:=zhD he;obtain⟨w,ew,rw'⟩:=r.get h2;have hl:=r.length;have hn:=ze1;have fin:EP X pins σ Q w s:=⟨z,H,I,rw',q⟩
 exact DW (x:=w) pl.typeIs slot_tuple_getitem.lookup
   (getItem_tuple (j:=j) (Q:=fun r s'=>r=w/\EP X pins σ Q r s') pl (by omega) (by omega) (by rw[Am,<-hl];exact h1) (by simpa using ew) ⟨rfl,fin⟩) hs
theorem zob:IxR X rIxS:=by
 intro value slice pins s σ H x y v u Q I rx ry h hs;obtain⟨z,i,c,rfl,rfl,hz,he,q⟩:=h;obtain⟨t,rfl⟩:=rx;obtain⟨t',rfl⟩:=ry;obtain⟨j,h1,h2,h3,h4,h5⟩:=zhD he;have hl:z.cps.toList.length=z.length:=by simp[Str.length]
 rw[hl] at h1 h4 h5;have hn:=ze1;exact tail_any (Ff s z t) slot_str_getitem.lookup (getItem_str (c:=c) (by
   have e1:decide (i < -(2 ^ 63:Int))=false:=decide_eq_false (by omega);have e2:decide (i ≥ 2 ^ 63)=false:=decide_eq_false (by omega);rw[e1,e2,Fw]) (by rw[h1];simpa using h2) ⟨.str ⟨#[c]⟩,H,I.tok _,⟨_,rfl⟩,q⟩) hs
theorem zg3(its:List Value)(n j:Nat)(u:Value):Bv (·.setIfInBounds j u) { cls:=.type "list",data:=.seq its.toArray n }={ cls:=.type "list",data:=.seq (its.set j u).toArray n }:=by
 simp[Bv]
theorem Inv.lst{pins:List (Addr×Obj)}{σ:St}{H:Hp}{s:Shared}{p:Addr}{xs:List V}(I:Inv X pins σ H s)(h:H p=some (.lst xs)) :
   ∃ (its:List Value) (n:Nat),Vals xs its/\s.heap.get? p=some { cls:=.type "list",data:=.seq its.toArray n }/\xs.length<=sizeLine:=by
 obtain⟨z,its,n,r,e⟩:=I.hok p _ h;exact⟨its,n,r,e,z⟩
theorem Inv.lstUpd{pins:List (Addr×Obj)}{σ:St}{H:Hp}{s:Shared}{p:Addr}{xs ys:List V}{its its':List Value}{n n':Nat}{f:Obj->Obj}(I:Inv X pins σ H s)(h:H p=some (.lst xs))
   (ho:s.heap.get? p=some { cls:=.type "list",data:=.seq its.toArray n }) (hf:f { cls:=.type "list",data:=.seq its.toArray n }={ cls:=.type "list",data:=.seq its'.toArray n' }) (r:Vals ys its') (hz:ys.length<=sizeLine) (t:Nat) :
   Inv X pins σ (upd H p (.lst ys)) { s with heap:=s.heap.update p f,toks:=t }:=by
 have e:(s.heap.update p f).get? p=some { cls:=.type "list",data:=.seq its'.toArray n' }:=by
   rw[CM f ho (by rw[hf] <;> rfl),hf]
 refine I.write (x:=p) (e:=p) (by rw[h];trivial) (.inl rfl) (fun b u hb q=>(DX _ _ (A7 hb)).trans q) ⟨_,e⟩ ?_;exact⟨hz,its',n',r,e⟩
noncomputable def zo7:V->V->V->Hp->(Hp->Prop)->Prop:=fun o i v H Q=>∃ p xs k j,o=.ref p/\i=.int k/\H p=some (.lst xs)/\ixN xs.length k=some j/\Q (upd H p (.lst (xs.set j v)))
theorem set_list:PSet X zo7:=by
 intro pins s σ H o i v ov iv u Q I ro ri rv h;obtain⟨p,xs,k,j,rfl,rfl,hp,hj,q⟩:=h;cases ro;obtain⟨t,rfl⟩:=ri;obtain⟨its,n,r,ho,hz⟩:=I.lst hp;obtain⟨h1,h2,h3,h4⟩:=zjh hj;have hl:=r.length;have hn:=ze1;have I':Inv X pins σ (upd H p (.lst (xs.set j v))) { s with heap:=s.heap.update p (Bv (·.setIfInBounds j u)) } :=
   I.lstUpd hp ho (zg3 its n j u) (r.set rv j) (by rw[BO];exact hz) s.toks
 by_cases h0:0<=k
 . have hk:k.toNat=j:=by
     rw[EN h0 h4] at h1;exact Ay h1
   exact PySem.W.ki_setAt ho h0 (by omega) (by rw[Am,<-hl];exact h4) (by rw[hk];exact⟨_,I',q⟩)
 . have hk:(k+(its.toArray.size:Int)).toNat=j:=by
     rw[EE (by omega) h3] at h1;rw[Am,<-hl];exact Ay h1
   exact PySem.W.ki_setBack ho (by omega) (by rw[Am,<-hl];exact h3) (by omega) (by rw[hk];exact⟨_,I',q⟩)
theorem zeO(lo hi:Option Int)(n:Nat):(sliceBounds lo hi none n).1=((HT.sIx n 0 lo:Nat):Int)/\(sliceBounds lo hi none n).2.1=((HT.sIx n n hi:Nat):Int)/\(sliceBounds lo hi none n).2.2=1:=by
 refine⟨?_,?_,rfl⟩
 . cases lo with
   | none=>simp[sliceBounds,HT.sIx]
   | some i =>
     simp only[sliceBounds,HT.sIx,EV,show (1:Int) > 0 by decide,if_true]
     by_cases h:i < 0
     . simp only[h,if_true] <;> omega
     . simp only[h,if_false] <;> omega
 . cases hi with
   | none=>simp[sliceBounds,HT.sIx]
   | some i =>
     simp only[sliceBounds,HT.sIx,EV,show (1:Int) > 0 by decide,if_true]
     by_cases h:i < 0
     . simp only[h,if_true] <;> omega
     . simp only[h,if_false] <;> omega
theorem zem(its:List Value)(lo hi:Option Int):slicePick its.toArray lo hi none=((its.drop (HT.sIx its.length 0 lo)).take (HT.sIx its.length its.length hi - HT.sIx its.length 0 lo)).toArray:=by
 obtain⟨h1,h2,h3⟩:=zeO lo hi its.toArray.size;unfold slicePick;rw[h1,h2,h3];simp only[sliceRange_one,pick_run,Am] <;> rfl
noncomputable def rSlL(K:Ab):V->Option Int->Option Int->Hp->VK->Prop:=fun x lo hi H Q=>∃ a xs,x=.ref a/\SqL K H a xs/\∀ p,H p=none->Q (.ref p) (upd H p (.lst (cutV xs lo hi)))
theorem ziZ:SlR X (rSlL X.K):=by
 intro pins s σ H x v vl vu lo hi sl Q I rx hs pl pu h;obtain⟨a,xs,rfl,hx,q⟩:=h;cases rx;obtain⟨its,r,ht,hz⟩:=I.list hx;have hlen:=r.length;refine⟨"list",_,slot_list_getitem.lookup,ht.isList.typeIs,?_⟩;refine wpAny_getItem_list_slice ht.isList hs pl pu .none (by simp) ?_ (by rw[Am] <;> omega);rw[zem,<-hlen];refine⟨.ref s.heap.objs.size,_,I.laid (t':=s.toks) (o:=.lst (cutV xs lo hi)) (fun b ob q=>Ad _ q) (Af _) ?_,rfl,q _ (I.hok.fresh (Af _))⟩;exact⟨AC (zdx xs lo hi) hz,_,0,(r.drop (HT.sIx xs.length 0 lo)).take (HT.sIx xs.length xs.length hi - HT.sIx xs.length 0 lo),Ar _ rfl⟩
theorem zb4:ziT X (.builtin "len") (fun xs H Q=>∃ p ys,xs=[.ref p]/\(SqL X.K H p ys\/SqT X.K H p ys)/\Q (.int ys.length) H):=by
 intro pins s σ H xs us Q I r h;obtain⟨p,ys,rfl,hq,q⟩:=h;obtain⟨u,rfl,rx⟩:=vals1 r;cases rx;have hn:=ze1
 rcases hq with hq | hq
 . obtain⟨its,r',pl,hz⟩:=I.list hq;have hlen:=r'.length;exact Calls.call_len_list pl.isList (by simp only[Am] <;> omega) ⟨.int ys.length,H,I.tok _,⟨s.toks+1,by rw[Am,hlen]⟩,q⟩
 . obtain⟨its,r',pl,hz⟩:=I.tuple hq;have hlen:=r'.length;exact len_tuple pl (by simp only[Am] <;> omega) ⟨.int ys.length,H,I.tok _,⟨s.toks+1,by rw[Am,hlen]⟩,q⟩
theorem ze8:ziT X (.builtin "len") (fun xs H Q=>∃ z,xs=[.str z]/\z.length<=sizeLine/\Q (.int z.length) H):=by
 intro pins s σ H xs us Q I r h;obtain⟨z,rfl,hz,q⟩:=h;obtain⟨u,rfl,t,rfl⟩:=vals1 r;have hn:=ze1;exact len_str (by omega) ⟨.int z.length,H,I.tok _,⟨_,rfl⟩,q⟩
theorem zb3:ziT X (.type "list") (fun xs H Q=>∃ p ys,xs=[.ref p]/\(SqL X.K H p ys\/SqT X.K H p ys)/\∀ l,H l=none->Q (.ref l) (upd H l (.lst ys))):=by
 intro pins s σ H xs us Q I r h;obtain⟨p,ys,rfl,hq,q⟩:=h;obtain⟨u,rfl,rx⟩:=vals1 r;cases rx;have fin:∀ (its:List Value),Vals ys its->ys.length<=sizeLine->∀ (h':Heap) (c':Nat),(∀ b o',s.heap.get? b=some o'->h'.get? b=some o') ->
     h'.get? s.heap.objs.size=some { cls:=.type "list",dict:=none,data:=.seq its.toArray c',slots:=#[] }->EP X pins σ Q (.ref s.heap.objs.size) { s with heap:=h' }:=fun its r' hz h' c' kp e =>
   ⟨.ref s.heap.objs.size,_,I.laid (t':=s.toks) kp (Af _) (show zcA X.prog X.w _ h' _ (.lst ys) from ⟨hz,its,c',r',e⟩),rfl,q _ (I.hok.fresh (Af _))⟩
 rcases hq with hq | hq
 . obtain⟨its,r',pl,hz⟩:=I.list hq;have hlen:=r'.length;obtain⟨o,ho,hc,n,hd⟩:=pl.isList;exact call_list_seq p (.inl rfl) ho hc hd (fun h' c' kp e=>fin its r' hz h' c' kp e) (by simp only[Am] <;> omega)
 . obtain⟨its,r',pl,hz⟩:=I.tuple hq;have hlen:=r'.length;obtain⟨o,ho,hc,n,hd⟩:=pl;exact call_list_seq p (.inr rfl) ho hc hd (fun h' c' kp e=>fin its r' hz h' c' kp e) (by simp only[Am] <;> omega)
theorem zcH:ziT X (.type "tuple") (fun xs H Q=>∃ p ys,xs=[.ref p]/\((SqL X.K H p ys/\∀ l,H l=none->Q (.ref l) (upd H l (.tup ys)))\/(SqT X.K H p ys/\Q (.ref p) H))):=by
 intro pins s σ H xs us Q I r h;obtain⟨p,ys,rfl,h⟩:=h;obtain⟨u,rfl,rx⟩:=vals1 r;cases rx
 rcases h with ⟨hq,q⟩ | ⟨hq,q⟩
 . obtain⟨its,r',pl,hz⟩:=I.list hq;have hlen:=r'.length;refine call_tuple_list pl.isList (fun h' kp=>?_) (by simp only[Am] <;> omega);have I1:Inv X pins σ H { s with heap:=h' }:=I.kept (t':=s.toks) kp;have I2:Inv X pins σ (upd H h'.objs.size (.tup ys)) { s with heap:=h'.push { cls:=.type "tuple",data:=.seq its.toArray } } :=
     I1.laid (t':=s.toks) (fun b o e=>Ad _ e) (Af _) (show zcA X.prog X.w _ _ _ (.tup ys) from ⟨hz,its,r',zed.new _ _⟩)
   exact⟨.ref h'.objs.size,_,I2,rfl,q _ (I1.hok.fresh (Af _))⟩
 . obtain⟨its,r',pl,hz⟩:=I.tuple hq;exact call_tuple_same pl ⟨.ref p,H,I,rfl,q⟩
def tyV(K:Ab)(T:String)(x:V)(H:Hp):Prop:=match x with
 | .str _=>T="str"
 | .int _=>T="int"
 | .ref p=>(T="list"/\∃ xs,SqL K H p xs)\/(T="tuple"/\∃ o,K.lookup p=some o/\o.cls=.type "tuple"/\o.dict=none) \/
     (T="dict"/\((∃ kvs,H p=some (.dK kvs))\/∃ kvs,H p=some (.dT kvs)))\/(T="set"/\∃ S n,H p=some (.set S n))
 | _=>False
theorem zlb{pins:List (Addr×Obj)}{σ:St}{H:Hp}{s:Shared}{T:String}{x:V}{v:Value}(I:Inv X pins σ H s)(r:RelV x v)(ty:tyV X.K T x H) :
   s.TypeIs v T/\∀ a,v=.ref a->∃ ob,s.heap.get? a=some ob/\ob.dict=none:=by
 cases x with
 | str z =>
   obtain⟨t,rfl⟩:=r
   cases (show T="str" from ty)
   exact⟨Ff s z t,fun _ e=>nomatch e⟩
 | int i =>
   obtain⟨t,rfl⟩:=r
   cases (show T="int" from ty)
   exact⟨typeIs_int s i t,fun _ e=>nomatch e⟩
 | ref p =>
   cases r
   rcases ty with ⟨rfl,xs,hq⟩ | ⟨rfl,o,hk,hc,hd⟩ | ⟨rfl,hk⟩ | ⟨rfl,S,n,hk⟩
   . obtain⟨its,_,pl,_⟩:=I.list hq;refine⟨pl.isList.typeIs,fun a e=>?_⟩;cases e;obtain⟨o,n,e,c,hd,_⟩:=pl;exact⟨o,e,hd⟩
   . refine⟨⟨o,I.kIn p o hk,hc⟩,fun a e=>?_⟩;cases e;exact⟨o,I.kIn _ o hk,hd⟩
   . have z:∃ o,s.heap.get? p=some o/\o.ExactDict:=by
       rcases hk with ⟨kvs,hk⟩ | ⟨kvs,hk⟩
       . obtain⟨_,_,_,_,o,_,_,e,ex,_⟩:=I.hok p _ hk;exact⟨o,e,ex⟩
       . obtain⟨_,_,_,_,o,_,_,e,ex,_⟩:=I.hok p _ hk;exact⟨o,e,ex⟩
     obtain⟨o,e,ex⟩:=z;refine⟨⟨o,e,ex.1⟩,fun a e2=>?_⟩;cases e2;exact⟨o,e,ex.2.1⟩
   . obtain⟨o,_,_,_,e,ex,_⟩:=I.hok p _ hk;refine⟨⟨o,e,ex.1⟩,fun a e2=>?_⟩;cases e2;exact⟨o,e,ex.2.1⟩
 | _=>exact False.elim ty
noncomputable def tBM0(K:Ab)(T:String)(r:V->List V->Hp->VK->Prop)(to:TE):TE:=fun σ H Q=>to σ H fun x H1=>tyV K T x H1/\r x [] H1 Q
noncomputable def tBM(K:Ab)(T:String)(r:V->List V->Hp->VK->Prop)(to:TE)(t:TA):TE:=fun σ H Q=>to σ H fun x H1=>tyV K T x H1/\t σ H1 fun xs H2=>r x xs H2 Q
variable {o e:Expr} {es:List Expr} {to:TE} {t:TA} {name:Str} {apos cpos:Pos} {T id:String} {r:V->List V->Hp->VK->Prop}
theorem znE(pa:PlainAttrs T)(slot:Slot T name id)(hty:typeOf (.builtin id)=pure (.type "method_descriptor"))(hm:MtR X id r)(ho:PE X o to)
   (hbase:attributeBase o name X.env (eval o X.env)=eval o X.env:=by rfl) (hline:(apos.endLine==cpos.line)=true:=by rfl):PE X (.Call (.Attribute o name apos) [] [] cpos) (tBM0 X.K T r to):=by
 intro pins s σ H Q I h;refine wpAny_Call_method0_late hbase hline (thn (ho pins s σ H _ I h) ?_);rintro v s1 ⟨x,H1,I1,r1,ty,q1⟩;obtain⟨h1,h2⟩:=zlb I1 r1 ty;exact⟨T,id,pa,slot,hty,h1,h2,DY rfl (PySem.evalArgs_none (hm pins s1 σ H1 x [] v [] Q I1 r1 .nil q1))⟩
theorem znF(pa:PlainAttrs T)(slot:Slot T name id)(hty:typeOf (.builtin id)=pure (.type "method_descriptor"))(hm:MtR X id r)(ho:PE X o to)(ha:PA X (e::es) t)
   (hbase:attributeBase o name X.env (eval o X.env)=eval o X.env:=by rfl)
   (hfew:((backTo cpos (starEach (e::es) X.env)).all (fun x=>!x.1)&&(backToKw cpos (keywordEach [] X.env)).all (fun x=>x.1.isSome)
    &&decide ((e::es).length+([]:List Keyword).length+(if ([]:List Keyword).isEmpty then 0 else 1) < 30))=true:=by rfl)
   (hline:(apos.endLine==cpos.line)=true:=by rfl) (hs:starEach (e::es) X.env=(false,eval e X.env)::starEach es X.env:=by rfl) (hplain:(backTo cpos (starEach es X.env)).any (·.1)=false:=by rfl) :
   PE X (.Call (.Attribute o name apos) (e::es) [] cpos) (tBM X.K T r to t):=by
 intro pins s σ H Q I h;refine wpAny_Call_method_late hbase hfew hline rfl (thn (ho pins s σ H _ I h) ?_);rintro v s1 ⟨x,H1,I1,r1,ty,q1⟩;obtain⟨h1,h2⟩:=zlb I1 r1 ty;refine⟨T,id,pa,slot,hty,h1,h2,?_⟩;have hA:=ha cpos pins s1 σ H1 _ I1 q1;rw[hs] at hA ⊢;refine DY (by show (false || (backTo cpos (starEach es X.env)).any (·.1))=false;rw[hplain] <;> rfl) (Calls.evalArgs_plain ?_);exact thn hA fun us s2 ⟨vs,H2,I2,r2,q2⟩=>hm pins s2 σ H2 x vs v us Q I2 r1 r2 q2
end
def MtM(X:Cx)(id:String)(r:V->List V->Hp->VK->Prop):Prop :=
 ∀ (pins:List (Addr×Obj)) (s:Shared) (σ:St) (H:Hp) (x:V) (xs:List V) (v:Value) (us:List Value) (Q:VK),Inv X pins σ H s->RelV x v->Vals xs us->r x xs H Q ->
   wpAny (model X.prog X.w) X.A (call (.builtin id) (v::us)) (EP X pins σ Q) X.xe s
theorem Vals.one:∀ {x:V} {us:List Value},Vals [x] us->∃ u,us=[u]/\RelV x u
 | _,_,.cons r .nil=>⟨_,rfl,r⟩
theorem Vals.two{x y:V}{us:List Value}(h:Vals [x,y] us):∃ u v,us=[u,v]/\RelV x u/\RelV y v:=by
 cases h with
 | cons r t =>
   cases t with
   | cons q t =>
     cases t;exact⟨_,_,rfl,r,q⟩
theorem Vals.zero:∀ {us:List Value},Vals [] us->us=[]
 | _,.nil=>rfl
theorem Vals.dropLast{xs:List V}{us:List Value}(h:Vals xs us):Vals xs.dropLast us.dropLast:=by
 induction h with
 | nil=>exact .nil
 | cons r t ih =>
   cases t with
   | nil=>exact .nil
   | cons q t'=>exact .cons r ih
theorem Vals.eraseIdx:∀ {xs:List V} {us:List Value} (i:Nat),Vals xs us->Vals (xs.eraseIdx i) (us.eraseIdx i)
 | _,_,_,.nil=>.nil
 | _,_,0,.cons _ t=>t
 | _,_,i+1,.cons r t=>.cons r (Vals.eraseIdx i t)
theorem zhj{α:Type}(l:List α):l.eraseIdx (l.length - 1)=l.dropLast:=by
 induction l with
 | nil=>rfl
 | cons a r ih =>
   cases r with
   | nil=>rfl
   | cons b r =>
     have e:(a::b::r).length - 1=((b::r).length - 1)+1:=by
       have h1:(a::b::r).length=r.length+2:=rfl;have h2:(b::r).length=r.length+1:=rfl;omega
     rw[e,List.eraseIdx_cons_succ,ih]
     all_goals rfl
theorem zfy{α:Type}:∀ (l:List α) (i:Nat),(l.eraseIdx i).length<=l.length
 | [],_=>Af _
 | _::_,0=>Ci _
 | _::r,i+1=>CJ (zfy r i)
section
variable {X:Cx} {pins:List (Addr×Obj)} {σ:St} {H:Hp} {s:Shared} {l b:Addr} {xs ys zs:List V}
theorem Inv.lset{its its':List Value}{n:Nat}{f:Array Value->Array Value}{t':Nat}(I:Inv X pins σ H s)(hH:H l=some (.lst xs))
   (e:s.heap.get? l=some { cls:=.type "list",data:=.seq its.toArray n }) (hf:f its.toArray=its'.toArray) (hv:Vals ys its') (hz:ys.length<=sizeLine) :
   Inv X pins σ (upd H l (.lst ys)) { s with heap:=s.heap.update l (Bv f),toks:=t' }:=by
 have q:=PySem.IsL.update e f;rw[hf] at q;refine I.write (x:=l) (e:=l) (by rw[hH];exact trivial) (.inl rfl) (fun b' u hb hu=>(DX s.heap (Bv f) (A7 hb)).trans hu) ⟨_,q⟩ ?_;exact⟨hz,its',_,hv,q⟩
theorem Inv.lnew{its:List Value}{t':Nat}(I:Inv X pins σ H s)(hv:Vals ys its)(hz:ys.length<=sizeLine) :
   Inv X pins σ (upd H s.heap.objs.size (.lst ys)) { s with heap:=s.heap.push { cls:=.type "list",data:=.seq its.toArray },toks:=t' } :=
 I.laid (fun _ _ q=>Ad _ q) (Af _) ⟨hz,its,0,hv,Ar _ rfl⟩
theorem Inv.fresh(I:Inv X pins σ H s):H s.heap.objs.size=none:=I.hok.fresh (Af _)
theorem Inv.lstM(I:Inv X pins σ H s)(hH:H l=some (.lst xs)):xs.length<=sizeLine/\∃ (its:List Value) (n:Nat),Vals xs its/\xs.length=its.length/\s.heap.get? l=some { cls:=.type "list",data:=.seq its.toArray n }:=by
 obtain⟨z,its,n,r,e⟩:=I.hok l _ hH;exact⟨z,its,n,r,r.length,e⟩
theorem zkh{n:Nat}(h:n<=sizeLine):Cs n=false:=by
 unfold Cs;exact decide_eq_false (by omega)
end
section
variable {X:Cx}
noncomputable def zlF:V->List V->Hp->VK->Prop:=fun x vs H Q=>∃ l xs y,x=.ref l/\vs=[y]/\H l=some (.lst xs)/\xs.length < sizeLine/\Q .non (upd H l (.lst (xs++[y])))
theorem zfu:MtM X "list.append" zlF:=by
 intro pins s σ H x vs v us Q I rx rv h;obtain⟨l,xs,y,rfl,rfl,hH,hz,q⟩:=h;cases rx;obtain⟨u,rfl,ru⟩:=rv.one;obtain⟨z,its,n,r,hl,e⟩:=I.lstM hH;refine Ei F.slot_list_append ⟨_,e,rfl⟩ F.entry_list_append (F.args_list_append_2 _ _) (PySem.list_append l its.toArray n u (by rw[Am];omega)) ⟨e,?_⟩;refine⟨.non,_,I.lset (its':=its++[u]) hH e (by simp) (r.append (.cons ru .nil)) ?_,rfl,q⟩;rw[Aq,Bo];omega
noncomputable def zlE:V->List V->Hp->VK->Prop:=fun x vs H Q=>∃ l b xs zs,x=.ref l/\vs=[.ref b]/\H l=some (.lst xs)/\H b=some (.lst zs)/\xs.length+zs.length<=sizeLine/\Q .non (upd H l (.lst (xs++zs)))
theorem zis:MtM X "list.extend" zlE:=by
 intro pins s σ H x vs v us Q I rx rv h;obtain⟨l,b,xs,zs,rfl,rfl,hH,hB,hz,q⟩:=h;cases rx;obtain⟨u,rfl,ru⟩:=rv.one;cases ru;obtain⟨z,its,n,r,hl,e⟩:=I.lstM hH;obtain⟨z2,its2,n2,r2,hl2,e2⟩:=I.lstM hB;have hsz:its.toArray.size+its2.toArray.size<=sizeLine:=by rw[Am,Am];omega
 have hlong:¬ (!its.toArray.isEmpty&&Cs (its.toArray.size+its2.toArray.size))=true:=by
   rw[zkh hsz,Bool.and_false];exact A9
 refine Ei F.slot_list_extend ⟨_,e,rfl⟩ F.entry_list_extend (F.args_list_extend_2 _ _)
   (AutoSeq1.list_extend_list_list_0 l its.toArray n b its2.toArray n2 hlong (by rw[Am];omega) (by omega)) ⟨e,e2,?_⟩
 refine⟨.non,_,I.lset (its':=its++its2) hH e (by simp) (r.append r2) ?_,rfl,q⟩;rw[Aq];omega
noncomputable def rPop:V->List V->Hp->VK->Prop:=fun x vs H Q=>∃ l xs y,x=.ref l/\vs=[]/\H l=some (.lst xs)/\xs[xs.length - 1]?=some y/\Q y (upd H l (.lst xs.dropLast))
theorem znX:MtM X "list.pop" rPop:=by
 intro pins s σ H x vs v us Q I rx rv h;obtain⟨l,xs,y,rfl,rfl,hH,hy,q⟩:=h;cases rx;have hus:=rv.zero;subst hus;obtain⟨z,its,n,r,hl,e⟩:=I.lstM hH;obtain⟨u,hu,ru⟩:=r.get hy;have hy':its.toArray[its.toArray.size - 1]?=some u:=by
   show its.toArray[its.length - 1]?=some u;rw[<-Bp,<-hl];exact hu
 refine Ei F.slot_list_pop ⟨_,e,rfl⟩ F.entry_list_pop (F.args_list_pop_1 _) (MeetsSeq.list_pop_last l its.toArray n u hy' (by rw[Am];omega)) ⟨e,?_⟩;refine⟨y,_,I.lset (its':=its.dropLast) hH e ?_ r.dropLast ?_,ru,q⟩
 . show its.toArray.eraseIdxIfInBounds (its.toArray.size - 1)=its.dropLast.toArray;rw[Am,CN,zhj]
 . rw[List.length_dropLast];omega
noncomputable def znl:V->List V->Hp->VK->Prop:=fun x vs H Q=>∃ l xs i k y,x=.ref l/\vs=[.int i]/\H l=some (.lst xs)/\-(2 ^ 63)<=i/\i < 2 ^ 63/\seqIndex? i xs.length=some k/\xs[k]?=some y/\Q y (upd H l (.lst (xs.eraseIdx k)))
theorem zkj:MtM X "list.pop" znl:=by
 intro pins s σ H x vs v us Q I rx rv h;obtain⟨l,xs,i,k,y,rfl,rfl,hH,h1,h2,hk,hy,q⟩:=h;cases rx;obtain⟨u,rfl,ru⟩:=rv.one;obtain⟨t,rfl⟩:=ru;obtain⟨z,its,n,r,hl,e⟩:=I.lstM hH;obtain⟨w,hw,rw'⟩:=r.get hy;refine Ei F.slot_list_pop ⟨_,e,rfl⟩ F.entry_list_pop (F.args_list_pop_2 _ _)
   (MeetsSeq.list_pop_at l its.toArray n i t k w (fitsIndex_both h1 h2) (by rw[Am,<-hl];exact hk) (by rw[<-Bp];exact hw) (by rw[Am];omega)) ⟨e,?_⟩
 refine⟨y,_,I.lset (its':=its.eraseIdx k) hH e ?_ (r.eraseIdx k) ?_,rw',q⟩
 . show its.toArray.eraseIdxIfInBounds k=(its.eraseIdx k).toArray;rw[CN]
 . have:=zfy xs k;omega
noncomputable def rCat:R2:=fun x y H Q=>∃ l b xs zs,x=.ref l/\y=.ref b/\H l=some (.lst xs)/\H b=some (.lst zs)/\xs.length+zs.length<=sizeLine/\∀ p,H p=none->Q (.ref p) (upd H p (.lst (xs++zs)))
theorem znQ:OpR X (binaryOp .Add) rCat:=by
 intro pins s σ H x y v u Q I rx ry h;obtain⟨l,b,xs,zs,rfl,rfl,hH,hB,hz,q⟩:=h;cases rx;cases ry;obtain⟨z,its,n,r,hl,e⟩:=I.lstM hH;obtain⟨z2,its2,n2,r2,hl2,e2⟩:=I.lstM hB;refine PySem.P.add_list e e2 ?_ (by rw[Am,Am];omega);have ea:its.toArray++its2.toArray=(its++its2).toArray:=by simp
 rw[ea];exact⟨.ref _,_,I.lnew (t':=s.toks) (r.append r2) (by rw[Aq];omega),rfl,q _ I.fresh⟩
end
section
variable {prog:Program} {w:World} {A:Around} {E:Value->Shared->Prop} {s:Shared}
set_option maxRecDepth 100000 in
end
end L2
namespace Att
open PySem PySem.W PySem.Calls PyProof.Rows
theorem zdo{P:Params}{h:Heap}:∀ (ns:List Int) (vs:List Value),WellAll P h vs (ns.map WData.int)->IntsAre vs ns:=by
 intro ns
 induction ns with
 | nil =>
   intro vs w;rw[Br] at w;cases w;exact .nil
 | cons n ns ih =>
   intro vs w;rw[Ax] at w
   cases w with
   | cons a b =>
     cases a;exact .cons _ _ (ih _ b)
theorem zh6{l:OpenLaw}{n:Nat}(hn:l.most=some n){P:Params}{h:Heap}{args:List WData}{vals:List Value}
   (hpre:l.row.toRowW.claim.pre args=true) (hwl:WellAll P h vals args) :
   ∃ a vs ns,vals=[A4 a]/\args=[WData.list (ns.map WData.int)]/\h.get? a=some { cls:=.type "list",data:=.seq vs.toArray }/\IntsAre vs ns/\ns.length<=n:=by
 have hsh:WShape.hasAll [] args [.list .int]=true:=(pre_splitW hpre).1;have hc:l.pre.holds [] { args:=args }=true:=(pre_splitW hpre).2;obtain⟨d,r,rfl,h1,h2⟩:=hasAllW_cons hsh;obtain rfl:=hasAllW_nil h2;obtain⟨xs,rfl,h3⟩:=hasW_list h1;obtain⟨ns,rfl⟩:=items_int h3;have hlen:ns.length<=n:=by
   unfold OpenLaw.pre at hc;have h4:(WTm.not (.lt (.lit (.int (n:Int))) (.len (.arg 0)))).holds [] { args:=[.list (ns.map .int)] }=true:=by
     have h4:=(holds_andW hc).1;rw[hn] at h4;exact h4
   have h5:=condW_of h4 (w_not (w_lt w_lit (w_len_list (w_arg rfl))));rw[Aj] at h5;refine Nat.le_of_not_lt fun q=>?_;have q':(n:Int) < ((ns.length:Nat):Int):=by omega
   first
     | (rw[decide_eq_true q'] at h5;exact absurd h5 (by decide))
     | (simp at h5;omega)
 cases hwl with
 | cons w1 w2 =>
   cases w2
   cases w1 with
   | list ho hall=>exact⟨_,_,ns,rfl,rfl,ho,zdo ns _ hall,hlen⟩
theorem zie(l:OpenLaw)(args:List WData):l.row.toRowW.claim.post args (.bool true) args=true :=
 postW_of (r:=l.row.toRowW) (X:=(true==true))
   (show WShape.has [] (.bool true) .bool=true by first | rfl | decide | simp[WShape.has,WShape.arms,WShape.armsAll])
   (show (WTm.eq .res (.lit (.bool true))).value [] { args:=args,res:=some (.bool true),after:=args }=some (.bool (true==true)) from w_eq_bool (w_res rfl) w_lit) rfl
theorem attach_call{l:OpenLaw}{n:Nat}{q:Program}{loose:List Str}{XP:(Str->Option Value)->Heap->Prop}{YP:World->Heap->Prop}{d:DefRec}
   (hn:l.most=some n) (hdf:d.params.defaults=[])
   (call:∀ (w:World) (s₀ s₁:Shared) (mg mb:Str->Option Value) (fa:Addr) (o:Obj) (pm cd doc:Value) (a:Addr) (vs:List Value) (ns:List Int),
     Ground q loose [] XP w s₀ mg mb s₁.heap->YP w s₁.heap ->
     s₁.heap.get? fa=some o->o.data=.func (docDef d.name d.params d.body d.scope pm cd doc)->s₁.heap.CodeRec cd d.name->mg d.name=some (.ref fa) ->
     s₁.heap.get? a=some { cls:=.type "list",data:=.seq vs.toArray }->IntsAre vs ns->ns.length<=n->s₁.gens=#[] ->
     codeAny (model l.prog w) callerA (.call (.ref fa) ⟨[.ref a],[]⟩) (fun r s'=>r=.ok (.ret (.bool true))/\OldK s₁.heap s'.heap/\s'.os=s₁.os/\AllBare s'.gens) s₁) :
   WalkO q loose XP YP l.row.toRowW d [] (fun f vs=>Fg f vs):=by
 intro w s₀ s₁ mg mb G Y fa o pm cd doc dV kV ho hd hcd hD hmg hg args vals as hpre hlay hrd hwl hlo;obtain rfl:dV=.none:=Dflts.none hD hdf;obtain rfl:kV=.none:=Dflts.noKw hD;obtain⟨a,vs,ns,rfl,rfl,hobj,hints,hlen⟩:=zh6 hn hpre hwl;refine enter_call (Ex (call w s₀ s₁ mg mb fa o pm cd doc a vs ns G Y ho (fd_plain hd) hcd hmg hobj hints hlen hg) fun r s' hq=>?_);obtain⟨rfl,h2,h3,h4⟩:=hq;exact⟨.inl ⟨.bool true,.bool true,[],rfl,fun _=>rfl,.bool true,zie l _,fun _=>⟨Dr,fun _ hm=>(nomatch hm)⟩⟩,h2,h3,h4⟩
end Att
namespace L2
open PySem PySem.Spec PyProof.Rows
theorem zfa:∀ {vs:List Value} {ns:List Int},IntsAre vs ns->Vals (ns.map V.int) vs
 | _,_,.nil=>.nil
 | _,_,.cons n t h=>.cons ⟨t,rfl⟩ (zfa h)
def Only(H:Hp):Prop:=∀ b,H b=none\/∃ o xs,H b=some (.frz o (.lst xs))
theorem zkv{P:Program}{w:World}{K:Ab}{mg mb:Str->Option Value}{CX:CXT}{k:Nat}{fa a:Addr}{fd:FuncData}{x:Str}{sp:Sp}{s₁:Shared}{vs:List Value}{ns:List Int}
   (KX:K.In s₁.heap) (hns:s₁.heap.Ns mainGlobals mg) (hb:s₁.heap.Ns builtinsNs mb) (hbb:∀ x:Str,x≠"__name__"->mb x=bootBuiltins x) (hlim:s₁.heap.NoLimit) (hg:s₁.gens=#[])
   (ha:s₁.heap.get? a=some { cls:=.type "list",data:=.seq vs.toArray }) (hi:IntsAre vs ns) (hl:ns.length<=sizeLine) (hr:Room k callerA)
   (F:∀ base:Heap,K.In base->base.Ns mainGlobals mg->FnOk P w K mg base CX k fa fd [x] sp) (hbind:∀ (s:Shared) (u:Value),BindsTo s fd ⟨[u],[]⟩ [(x,u)])
   (hsp:∀ H:Hp,Only H->SqL K H a (ns.map V.int)->sp [.ref a] H (fun v _=>v=.bl true) fun _ _ _=>False)
   (hCX:∀ H e s',CX [] H s₁ (fun _ _ _=>False) e s'->False) :
   codeAny (model P w) callerA (.call (.ref fa) ⟨[.ref a],[]⟩) (fun r s'=>r=.ok (.ret (.bool true))/\OldK s₁.heap s'.heap/\s'.os=s₁.os/\AllBare s'.gens) s₁:=by
 have rv:=zfa hi;have lenV:=hi.length
 -- from an abstract heap in which nothing but the script may be tracked
 have core:∀ H:Hp,Only H->SqL K H a (ns.map V.int)->HOk P w H s₁.heap->(∀ b,H b≠none->b=a)->(H a≠none->K.lookup a=none) ->
     codeAny (model P w) callerA (.call (.ref fa) ⟨[.ref a],[]⟩) (fun r s'=>r=.ok (.ret (.bool true))/\OldK s₁.heap s'.heap/\s'.os=s₁.os/\AllBare s'.gens) s₁:=by
   intro H hO hS hok hA hK;have base_of:∀ {b:Addr} {o:Obj},s₁.heap.get? b=some o->H b=none->(hidT s₁.heap H).get? b=some o:=fun e n=>zky e n;have noA:∀ {b:Addr} {o:Obj} {es:Array DictEntry} {ep:Nat},s₁.heap.get? b=some o->o.data=.dict es ep->H b=none:=fun {b o es ep} e d=>by
     cases q:H b with
     | none=>rfl
     | some u =>
       have e':b=a:=hA b (by rw[q];simp);subst e';rw[ha] at e;cases e;have d':Data.seq vs.toArray _=Data.dict es ep:=d;cases d'
   have nsK:∀ {b:Addr} {m:Str->Option Value},s₁.heap.Ns b m->(hidT s₁.heap H).Ns b m:=fun {b m} ⟨o,es,ep,e,d,r⟩=>⟨o,es,ep,base_of e (noA e d),d,r⟩
   have hKb:K.In (hidT s₁.heap H):=fun b o e=>base_of (KX b o e) (by
     cases q:H b with
     | none=>rfl
     | some u =>
       have e':b=a:=hA b (by rw[q];simp);subst e';rw[hK (by rw[q];simp)] at e;cases e)
   have hM:Mod K mg (hidT s₁.heap H):=⟨hKb,nsK hns,⟨mb,nsK hb,hbb⟩,let ⟨mc,h1,h2⟩:=hlim;⟨mc,nsK h1,h2⟩⟩
   have e0:Env0 P w K mg (hidT s₁.heap H) callerA [] s₁ H:=⟨rfl,hM,fun b o e=>zl8 e,Nat.le_of_eq (ziF _ _),trivial,fun b hb=>absurd (show b∈([]:List Addr) from hb) (by simp),hok,.of_eq hg⟩
   refine Ex ((F _ hKb (nsK hns)).run callerA [] s₁ H ⟨[.ref a],[]⟩ [.ref a] [.ref a] _ _ hr e0 (hbind s₁ (.ref a)) (.cons rfl .nil) (hsp H hO hS)) fun r s' h=>?_
   cases r with
   | error e=>exact (hCX H e s' h).elim
   | ok fl =>
     cases fl with
     | next=>exact False.elim h
     | brk=>exact False.elim h
     | cont=>exact False.elim h
     | ret u =>
       obtain⟨v,H',os,bare,un,hok',r',q⟩:=h;have q':v=.bl true:=q;subst q';obtain rfl:u=Cy true:=r';refine⟨rfl,OldK.of_keep fun b o e=>?_,os,bare⟩
       cases q:H b with
       | none=>exact un.keep b o e q (by intro z;exact absurd (show b∈([]:List Addr) from z) (by simp)) (by simp)
       | some u =>
         rcases hO b with z | ⟨ob,xs,z⟩
         . rw[q] at z;cases z
         . have z2:=un.frzs b ob _ z;obtain⟨e1,_⟩:=hok b _ z;obtain⟨e2,_⟩:=hok' b _ z2;rw[e] at e1;cases e1;exact e2
 cases hk:K.lookup a with
 | some o =>
   -- the script is one of the module's own objects
   have e:=KX a o hk;rw[ha] at e;cases e;refine core (fun _=>none) (fun _=>.inl rfl) (.inr ⟨_,vs.toArray,_,hk,rfl,rfl,rfl,by rw[Am,lenV];exact hl,by simpa using rv⟩) (fun b u z=>by have z':(none:Option HO)=some u:=z;cases z') (fun b z=>absurd rfl z) fun z=>absurd rfl z
 | none =>
   refine core (fun b=>if b=a then some (.frz { cls:=.type "list",data:=.seq vs.toArray } (.lst (ns.map V.int))) else none) (fun b=>?_) (.inl (.inr ⟨{ cls:=.type "list",data:=.seq vs.toArray },if_pos rfl⟩)) (fun b u z=>?_) (fun b z=>?_) fun _=>hk
   . by_cases hb:b=a
     . exact .inr ⟨_,_,if_pos hb⟩
     . exact .inl (if_neg hb)
   . by_cases hb:b=a
     . have z':=(if_pos hb).symm.trans z;cases z';subst hb;exact⟨ha,by rw[Aj];exact hl,vs,_,rv,ha⟩
     . have z':=(if_neg hb).symm.trans z;cases z'
   . by_cases hb:b=a
     . exact hb
     . exact absurd (if_neg hb) z
theorem walk_of{l:DL}{n k:Nat}{q:Program}{loose:List Str}{XP:(Str->Option Value)->Heap->Prop}{YP:World->Heap->Prop}{d:DefRec}{K:Params->Ab}{CX:World->CXT}{sp:World->Sp}{x:Str}
   (hn:l.most=some n) (hn2:n<=sizeLine) (hdf:d.params.defaults=[]) (hr:Room k callerA)
   (hY:∀ (w:World) (h:Heap),YP w h->(K w.params).In h)
   (F:∀ (w:World) (mg:Str->Option Value) (fa:Addr) (h:Heap),(K w.params).In h->h.Ns mainGlobals mg->mg d.name=some (.ref fa) ->
     ∃ fd:FuncData,(∀ (s:Shared) (u:Value),BindsTo s fd ⟨[u],[]⟩ [(x,u)]) /\
       ∀ base:Heap,(K w.params).In base->base.Ns mainGlobals mg->FnOk l.prog w (K w.params) mg base (CX w) k fa fd [x] (sp w))
   (hsp:∀ (w:World) (H:Hp) (a:Addr) (ns:List Int),ns.length<=n->Only H->SqL (K w.params) H a (ns.map V.int)->sp w [.ref a] H (fun v _=>v=.bl true) fun _ _ _=>False)
   (hCX:∀ (w:World) (H:Hp) (s:Shared) (e:Value) (s':Shared),CX w [] H s (fun _ _ _=>False) e s'->False) :
   Fx q loose XP YP l.row.toRowW d [] (fun f vs=>Fg f vs):=by
 refine Att.attach_call hn hdf fun w s₀ s₁ mg mb fa o pm cd doc a vs ns G Y ho hd hcd hmg hobj hints hlen hg=>?_;have KX:=hY w _ Y;obtain⟨fd,hb,hF⟩:=F w mg fa _ KX G.T.g hmg;exact zkv KX G.T.g G.T.b G.T.builtins G.T.nolimit hg hobj hints (AC hlen hn2) hr hF hb (fun H hO hS=>hsp w H a ns hlen hO hS) fun H e s'=>hCX w H s₁ e s'
noncomputable def zdb(s:Stmt):Arguments:=match s with
 | .FunctionDef _ a _ _ _ _ _ _ _ _=>a
 | _=>{ posonlyargs:=[],args:=[],vararg:=none,kwonlyargs:=[],kw_defaults:=[],kwarg:=none,defaults:=[] }
noncomputable def zbQ(s:Stmt):List Stmt:=match s with
 | .FunctionDef _ _ b _ _ _ _ _ _ _=>b
 | _=>[]
noncomputable def zar(s:Stmt):Scope:=match s with
 | .FunctionDef _ _ _ _ _ _ sc _ _ _=>sc
 | _=>{ kind:=.function,names:=[],isGenerator:=false,isCoroutine:=false }
noncomputable abbrev CX0:CXT:=fun _ _ _ _ _ _=>False
noncomputable abbrev E0:XK:=fun _ _ _=>False
theorem zpf{X:Cx}:Passes CX0 X E0:=fun _ _ _ _ _ _ _ h=>h.elim
structure Fun(K:Ab)(x qual:Str)(st:Stmt)(f:Addr)(fd:FuncData):Prop where
 ex:∃ (oc:Value) (od:Option Addr) (kV doc pm:Value) (an:Option Addr) (cdv ct:Value) (osl:Array (Option Value)),
   fd=BJ x qual (zdb st) (zbQ st) (zar st) .none kV doc pm an cdv ct/\K.lookup f=some ⟨oc,od,.func fd,osl⟩/\Cz K cdv qual=true
 kp:BV K (.ref f)=true
section
variable {P:Program} {w:World} {K:Ab} {mg:Str->Option Value} {base:Heap}
theorem Fun.ok{x qual:Str}{st:Stmt}{f:Addr}{fd:FuncData}{N ps:List Str}{k:Nat}{sp:Sp}(F:Fun K x qual st f fd)(S:FnScope N ps (zar st))(len:∀ vs H Q E,sp vs H Q E->vs.length=ps.length)
   (hbody:∀ (cdv:Value) (A:Around) (outer:List Env) (s:Shared) (H:Hp) (vs:List V) (Q:VK) (E:XK),Room k (A.deeper (envOfC qual (zar st) s.heap.objs.size f cdv))->sp vs H Q E ->
     ∃ t,PSs (cxOf CX0 P w K mg base N qual (zar st) f cdv A outer s H E).nox (zbQ st) t/\t { nx:=fun _ H'=>Q .non H',rt:=Q } (start N vs) H):FnOk P w K mg base CX0 (k+1) f fd ps sp:=by
 obtain⟨oc,od,kV,doc,pm,an,cdv,ct,osl,rfl,lk,hcd⟩:=F.ex;refine zpr lk hcd S len fun A outer s H vs Q E hr hsp=>?_;obtain⟨t,h,q⟩:=hbody cdv A outer s H vs Q E hr hsp;exact⟨t,h.nox,q⟩
theorem Fun.binds{x qual:Str}{st:Stmt}{f:Addr}{fd:FuncData}{ps:List Str}(F:Fun K x qual st f fd)
   (h:∀ (kV doc pm:Value) (an:Option Addr) (cdv ct:Value) (us:List Value),us.length=ps.length->bindArgs (BJ x qual (zdb st) (zbQ st) (zar st) .none kV doc pm an cdv ct) ⟨us,[]⟩=pure (ps.zip us)):Binds K fd ps []:=by
 obtain⟨oc,od,kV,doc,pm,an,cdv,ct,osl,rfl,lk,hcd⟩:=F.ex;exact .all (h kV doc pm an cdv ct)
theorem zkB{x qual:Str}{st:Stmt}{f:Addr}{oc:Value}{od an:Option Addr}{osl:Array (Option Value)}{kV doc pm cdv ct:Value}(l:K.lookup f=some ⟨oc,od,.func (BJ x qual (zdb st) (zbQ st) (zar st) .none kV doc pm an cdv ct),osl⟩)
   (c:Cz K cdv qual=true) (k:BV K (.ref f)=true):Fun K x qual st f (BJ x qual (zdb st) (zbQ st) (zar st) .none kV doc pm an cdv ct):=⟨⟨oc,od,kV,doc,pm,an,cdv,ct,osl,rfl,l,c⟩,k⟩
end
theorem zbP{A:Around}{k:Nat}(hr:Room k A):A.units+1 < cLine:=Bs (C0 (by decide:1<=64) _) hr.units
end L2
namespace L2.MP
open PySem PySem.Spec PyProof.Rows
inductive D where
 | non | bl (b:Bool) | int (i:Int) | str (x:Str) | tup (xs:List D) | ref (n:Nat) | kl (xs:List D)
inductive O where
 | lst (xs:List D) | fz (xs:List D) | dk (kvs:List (Key×D)) | dt (kvs:List (List Key×D)) | fk (kvs:List (Key×D)) | ft (kvs:List (List Key×D)) | ob (C:Addr) (fs:List (Str×D)) | sz (n:Nat)
noncomputable abbrev Sto:=List O
noncomputable abbrev Rho:=List (Option D)
structure Kp(H H':Hp):Prop where
 tup:∀ a xs,H a=some (.tup xs)->H' a=some (.tup xs)
 frz:∀ a o u,H a=some (.frz o u)->H' a=some (.frz o u)
def SqF(K:Ab)(H:Hp)(a:Addr)(xs:List V):Prop :=
 (∃ o,H a=some (.frz o (.lst xs)))\/∃ (o:Obj) (its:Array Value) (n:Nat),K.lookup a=some o/\o.cls=.type "list"/\o.dict=none/\o.data=.seq its n/\its.size<=sizeLine/\Vals xs its.toList
theorem SqF.sq{K:Ab}{H:Hp}{a:Addr}{xs:List V}(h:SqF K H a xs):SqL K H a xs:=by
 rcases h with h | h
 . exact .inl (.inr h)
 . exact .inr h
theorem SqF.kp{K:Ab}{H H':Hp}{a:Addr}{xs:List V}(T:Kp H H')(h:SqF K H a xs):SqF K H' a xs:=by
 rcases h with ⟨o,h⟩ | h
 . exact .inl ⟨o,T.frz _ _ _ h⟩
 . exact .inr h
mutual
noncomputable def Rep(K:Ab)(H:Hp)(io:List Addr):V->D->Prop
 | v,.non=>v=.non
 | v,.bl b=>v=.bl b
 | v,.int i=>v=.int i
 | v,.str x=>v=.str x
 | v,.tup ds=>∃ a xs,v=.ref a/\H a=some (.tup xs)/\Reps K H io xs ds
 | v,.ref n=>∃ a,v=.ref a/\io[n]?=some a
 | v,.kl ds=>∃ a xs,v=.ref a/\SqF K H a xs/\Reps K H io xs ds
noncomputable def Reps(K:Ab)(H:Hp)(io:List Addr):List V->List D->Prop
 | xs,[]=>xs=[]
 | xs,d::ds=>∃ y ys,xs=y::ys/\Rep K H io y d/\Reps K H io ys ds
end
mutual
theorem Rep.mono{K:Ab}{H H':Hp}{io ka:List Addr}(T:Kp H H'):∀ {v:V} {d:D},Rep K H io v d->Rep K H' (io++ka) v d
 | _,.non,h=>h
 | _,.bl _,h=>h
 | _,.int _,h=>h
 | _,.str _,h=>h
 | _,.tup ds,h=>by
   obtain⟨a,xs,e,q,r⟩:=h;exact⟨a,xs,e,T.tup a xs q,Reps.mono T r⟩
 | _,.ref n,h=>by
   obtain⟨a,e,q⟩:=h;exact⟨a,e,by rw[As (List.getElem?_eq_some_iff.mp q).1];exact q⟩
 | _,.kl ds,h=>by
   obtain⟨a,xs,e,q,r⟩:=h;exact⟨a,xs,e,q.kp T,Reps.mono T r⟩
theorem Reps.mono{K:Ab}{H H':Hp}{io ka:List Addr}(T:Kp H H'):∀ {xs:List V} {ds:List D},Reps K H io xs ds->Reps K H' (io++ka) xs ds
 | _,[],h=>h
 | _,d::ds,h=>by
   obtain⟨y,ys,e,r,rs⟩:=h;exact⟨y,ys,e,Rep.mono T r,Reps.mono T rs⟩
end
section
variable {K:Ab} {H H' H1 H2:Hp} {io ka kb:List Addr} {st st':Sto} {xs ys:List V} {ds es:List D}
theorem Reps.length:∀ {xs:List V} {ds:List D},Reps K H io xs ds->xs.length=ds.length
 | _,[],h=>by rw[show _=[] from h];rfl
 | _,d::ds,h=>by
   obtain⟨y,ys,e,_,rs⟩:=h;rw[e,AX,AX,Reps.length rs]
theorem Reps.get:∀ {xs:List V} {ds:List D} {i:Nat} {d:D},Reps K H io xs ds->ds[i]?=some d->∃ v,xs[i]?=some v/\Rep K H io v d
 | _,[],_,_,_,e=>by simp at e
 | _,a::ds,0,d,h,e=>by
   obtain⟨y,ys,rfl,r,_⟩:=h;have e':a=d:=by simpa using e
   subst e';exact⟨y,rfl,r⟩
 | _,a::ds,i+1,d,h,e=>by
   obtain⟨y,ys,rfl,_,rs⟩:=h;exact Reps.get (i:=i) rs (by simpa using e)
theorem Reps.append:∀ {xs ys:List V} {ds es:List D},Reps K H io xs ds->Reps K H io ys es->Reps K H io (xs++ys) (ds++es)
 | _,_,[],_,h,q=>by rw[show _=[] from h];exact q
 | _,_,d::ds,_,h,q=>by
   obtain⟨y,ys,rfl,r,rs⟩:=h;exact⟨y,_,rfl,r,Reps.append rs q⟩
theorem Reps.set:∀ {xs:List V} {ds:List D} {v:V} {d:D} (i:Nat),Reps K H io xs ds->Rep K H io v d->Reps K H io (xs.set i v) (ds.set i d)
 | _,[],_,_,_,h,_=>by rw[show _=[] from h];exact rfl
 | _,a::ds,v,d,0,h,q=>by
   obtain⟨y,ys,rfl,_,rs⟩:=h;exact⟨v,ys,rfl,q,rs⟩
 | _,a::ds,v,d,i+1,h,q=>by
   obtain⟨y,ys,rfl,r,rs⟩:=h;exact⟨y,_,rfl,r,Reps.set i rs q⟩
theorem Reps.take:∀ {xs:List V} {ds:List D} (n:Nat),Reps K H io xs ds->Reps K H io (xs.take n) (ds.take n)
 | _,[],n,h=>by rw[show _=[] from h];simp[Reps]
 | _,_::_,0,_=>by simp[Reps]
 | _,d::ds,n+1,h=>by
   obtain⟨y,ys,rfl,r,rs⟩:=h;exact⟨y,_,rfl,r,Reps.take n rs⟩
theorem Reps.drop:∀ {xs:List V} {ds:List D} (n:Nat),Reps K H io xs ds->Reps K H io (xs.drop n) (ds.drop n)
 | _,[],n,h=>by rw[show _=[] from h];simp[Reps]
 | _,_::_,0,h=>h
 | _,d::ds,n+1,h=>by
   obtain⟨y,ys,rfl,r,rs⟩:=h;exact Reps.drop n rs
theorem Reps.nil:Reps K H io [] []:=rfl
theorem Reps.cons{v:V}{d:D}(r:Rep K H io v d)(rs:Reps K H io xs ds):Reps K H io (v::xs) (d::ds):=⟨v,xs,rfl,r,rs⟩
theorem Reps.one{d:D}(r:Reps K H io xs [d]):∃ v,xs=[v]/\Rep K H io v d:=by
 obtain⟨y,ys,rfl,r,e⟩:=r
 cases (show ys=[] from e)
 exact⟨y,rfl,r⟩
theorem Reps.two{d e:D}(r:Reps K H io xs [d,e]):∃ v u,xs=[v,u]/\Rep K H io v d/\Rep K H io u e:=by
 obtain⟨y,ys,rfl,r,q⟩:=r;obtain⟨v,rfl,q'⟩:=q.one;exact⟨y,v,rfl,r,q'⟩
noncomputable abbrev KR (κ:Type) (K:Ab) (H:Hp) (io:List Addr):List (κ×V)->List (κ×D)->Prop:=Paired fun (p:κ×V) (q:κ×D)=>p.1=q.1/\Rep K H io p.2 q.2
def SetZ(a:Addr)(n:Nat)(h:Heap):Prop:=∃ o es ep t,h.get? a=some o/\o.ExactSet/\o.data=.set es ep t/\es.size < scanBound/\t.fits es.size=true/\es.size=n
noncomputable def OR(K:Ab)(H:Hp)(io:List Addr)(a:Addr):O->Prop
 | .lst ds=>∃ xs,H a=some (.lst xs)/\Reps K H io xs ds
 | .fz ds=>∃ o xs,H a=some (.frz o (.lst xs))/\Reps K H io xs ds
 | .dk kvs=>∃ ps,H a=some (.dK ps)/\KR Key K H io ps kvs
 | .dt kvs=>∃ ps,H a=some (.dT ps)/\KR (List Key) K H io ps kvs
 | .fk kvs=>∃ o ps,H a=some (.frz o (.dK ps))/\KR Key K H io ps kvs
 | .ft kvs=>∃ o ps,H a=some (.frz o (.dT ps))/\KR (List Key) K H io ps kvs
 | .ob C fs=>∃ dx ps,H a=some (.ins C dx ps)/\KR Str K H io ps fs
 | .sz n=>H a=some (.ext (SetZ a n))
structure StR(K:Ab)(H:Hp)(io:List Addr)(st:Sto):Prop where
 len:io.length=st.length
 nd:io.Nodup
 ob:∀ (n:Nat) (a:Addr) (o:O),io[n]?=some a->st[n]?=some o->OR K H io a o
structure EnvR(K:Ab)(H:Hp)(io:List Addr)(σ:St)(ρ:Rho):Prop where
 len:σ.length=ρ.length
 at_:∀ (i:Nat) (d:D),ρ[i]?=some (some d)->∃ v,σ[i]?=some (some v)/\Rep K H io v d
structure Ext(io ka:List Addr)(H H':Hp):Prop where
 keep:∀ b o,H b=some o->b ∉ io->H' b=some o
 fresh:∀ b,b∈ka->H b=none
 frz:∀ b o u,H b=some (.frz o u)->H' b=some (.frz o u)
theorem OR.stands{a:Addr}{o:O}(h:OR K H io a o):∃ u,H a=some u/\∀ xs,u≠.tup xs/\∀ ob,u≠.frz ob (.tup xs):=by
 cases o with
 | lst ds=>obtain⟨xs,e,_⟩:=h;exact⟨_,e,fun _=>⟨by simp,by simp⟩⟩
 | fz ds=>obtain⟨ob,xs,e,_⟩:=h;exact⟨_,e,fun _=>⟨by simp,by simp⟩⟩
 | dk kvs=>obtain⟨xs,e,_⟩:=h;exact⟨_,e,fun _=>⟨by simp,by simp⟩⟩
 | dt kvs=>obtain⟨xs,e,_⟩:=h;exact⟨_,e,fun _=>⟨by simp,by simp⟩⟩
 | fk kvs=>obtain⟨ob,xs,e,_⟩:=h;exact⟨_,e,fun _=>⟨by simp,by simp⟩⟩
 | ft kvs=>obtain⟨ob,xs,e,_⟩:=h;exact⟨_,e,fun _=>⟨by simp,by simp⟩⟩
 | ob C fs=>obtain⟨dx,xs,e,_⟩:=h;exact⟨_,e,fun _=>⟨by simp,by simp⟩⟩
 | sz n=>exact⟨_,h,fun _=>⟨by simp,by simp⟩⟩
theorem StR.mem(S:StR K H io st){a:Addr}(h:a∈io):∃ u,H a=some u/\∀ xs,u≠.tup xs/\∀ ob,u≠.frz ob (.tup xs):=by
 obtain⟨n,hn,e⟩:=Cj h;have h1:io[n]?=some a:=by rw[Aw hn,e]
 have h2:n < st.length:=by rw[<-S.len];exact hn
 exact (S.ob n a _ h1 (Aw h2)).stands
theorem Ext.sqT(S:StR K H io st)(E:Ext io ka H H'):∀ a xs,H a=some (.tup xs)->H' a=some (.tup xs):=by
 intro a xs h;refine E.keep _ _ h fun m=>?_;obtain⟨u,e,q⟩:=S.mem m;rw[h] at e;exact (q xs).1 (Ay e).symm
theorem Ext.kp(S:StR K H io st)(E:Ext io ka H H'):Kp H H':=⟨E.sqT S,E.frz⟩
theorem Ext.refl:Ext io [] H H:=⟨fun _ _ h _=>h,fun _ h=>absurd h (by simp),fun _ _ _ h=>h⟩
theorem Ext.trans(S1:StR K H1 (io++ka) st)(E1:Ext io ka H H1)(E2:Ext (io++ka) kb H1 H2):Ext io (ka++kb) H H2 where
 keep:=fun b o h n=>E2.keep b o (E1.keep b o h n) fun m=>by
   rcases List.mem_append.mp m with m | m
   . exact n m
   . rw[E1.fresh b m] at h;cases h
 fresh:=fun b m=>by
   rcases List.mem_append.mp m with m | m
   . exact E1.fresh b m
   . have h1:=E2.fresh b m
     cases e:H b with
     | none=>rfl
     | some o =>
       by_cases hb:b∈io
       . obtain⟨u,e',_⟩:=S1.mem (AK _ hb);rw[e'] at h1;cases h1
       . rw[E1.keep b o e hb] at h1;cases h1
 frz:=fun b o u h=>E2.frz b o u (E1.frz b o u h)
theorem Ext.app(E:Ext io (ka++[]) H H'):Ext io ka H H':=by rw[Ah] at E;exact E
theorem Rep.ext{v:V}{d:D}(S:StR K H io st)(E:Ext io ka H H')(h:Rep K H io v d):Rep K H' (io++ka) v d:=Rep.mono (E.kp S) h
theorem Reps.ext(S:StR K H io st)(E:Ext io ka H H')(h:Reps K H io xs ds):Reps K H' (io++ka) xs ds:=Reps.mono (E.kp S) h
theorem EnvR.ext{σ:St}{ρ:Rho}(h:EnvR K H io σ ρ)(S:StR K H io st)(E:Ext io ka H H'):EnvR K H' (io++ka) σ ρ :=
 ⟨h.len,fun i d e=>let ⟨v,q,r⟩:=h.at_ i d e;⟨v,q,r.ext S E⟩⟩
theorem EnvR.set{σ:St}{ρ:Rho}{v:V}{d:D}(i:Nat)(h:EnvR K H io σ ρ)(r:Rep K H io v d):EnvR K H io (σ.set i (some v)) (ρ.set i (some d)):=by
 refine⟨by rw[BO,BO];exact h.len,fun j e q=>?_⟩
 by_cases hij:i=j
 . subst hij;rw[Ds] at q;rw[if_pos rfl] at q
   split at q
   . rename_i hl
     cases (Ay (Ay q))
     exact⟨v,by rw[Ds,if_pos rfl,if_pos (by rw[h.len];exact hl)],r⟩
   . cases q
 . rw[Au hij] at q;obtain⟨u,q',r'⟩:=h.at_ j e q;exact⟨u,by rw[Au hij];exact q',r'⟩
theorem StR.nil(S:StR K H io st):StR K H (io++[]) st:=by rw[Ah];exact S
theorem KR.mono{κ:Type}{ps:List (κ×V)}{kvs:List (κ×D)}(T:Kp H H')(h:KR κ K H io ps kvs):KR κ K H' (io++ka) ps kvs:=Paired.mapP h fun _ _ z=>⟨z.1,Rep.mono T z.2⟩
theorem OR.mono{a:Addr}{o:O}(T:Kp H H')(e:H' a=H a)(h:OR K H io a o):OR K H' (io++ka) a o:=by
 cases o with
 | lst ds=>obtain⟨xs,q,r⟩:=h;exact⟨xs,e.trans q,Reps.mono T r⟩
 | fz ds=>obtain⟨ob,xs,q,r⟩:=h;exact⟨ob,xs,e.trans q,Reps.mono T r⟩
 | dk kvs=>obtain⟨xs,q,r⟩:=h;exact⟨xs,e.trans q,KR.mono T r⟩
 | dt kvs=>obtain⟨xs,q,r⟩:=h;exact⟨xs,e.trans q,KR.mono T r⟩
 | fk kvs=>obtain⟨ob,xs,q,r⟩:=h;exact⟨ob,xs,e.trans q,KR.mono T r⟩
 | ft kvs=>obtain⟨ob,xs,q,r⟩:=h;exact⟨ob,xs,e.trans q,KR.mono T r⟩
 | ob C fs=>obtain⟨dx,xs,q,r⟩:=h;exact⟨dx,xs,e.trans q,KR.mono T r⟩
 | sz n=>exact e.trans h
theorem zft{p:Addr}{o:HO}(S:StR K H io st)(hp:H p=none):Ext io [] H (upd H p o)/\StR K (upd H p o) (io++[]) st:=by
 have E:Ext io [] H (upd H p o):=⟨fun b u h _=>by rw[zaG (zaq h hp)];exact h,fun _ h=>absurd h (by simp),fun b u v h=>by rw[zaG (zaq h hp)];exact h⟩
 refine⟨E,?_⟩;refine⟨by rw[Ah];exact S.len,by rw[Ah];exact S.nd,fun n a ob h1 h2=>?_⟩;rw[Ah] at h1;obtain⟨u,hu,_⟩:=(S.ob n a ob h1 h2).stands;exact OR.mono (E.kp S) (zaG (zaq hu hp)) (S.ob n a ob h1 h2)
theorem ziq{p:Addr}{o:HO}{ob:O}(S:StR K H io st)(hp:H p=none)(new:∀ H',Kp H H'->H' p=some o->OR K H' (io++[p]) p ob):Ext io [p] H (upd H p o)/\StR K (upd H p o) (io++[p]) (st++[ob]):=by
 have E:Ext io [p] H (upd H p o):=⟨fun b u h _=>by rw[zaG (zaq h hp)];exact h,fun b h=>by rw[List.mem_singleton.mp h];exact hp,fun b u v h=>by rw[zaG (zaq h hp)];exact h⟩
 have np:p ∉ io:=fun m=>by
   obtain⟨u,hu,_⟩:=S.mem m;rw[hp] at hu;cases hu
 refine⟨E,by simp[S.len],?_,fun n a ob' h1 h2=>?_⟩
 . rw[Dt];refine⟨S.nd,by simp,fun a ha b hb=>?_⟩;rw[List.mem_singleton.mp hb];rintro rfl;exact np ha
 . by_cases hn:n < io.length
   . rw[As hn] at h1;rw[As (by rw[<-S.len];exact hn)] at h2;obtain⟨u,hu,_⟩:=(S.ob n a ob' h1 h2).stands;exact OR.mono (E.kp S) (zaG (zaq hu hp)) (S.ob n a ob' h1 h2)
   . have hl:n < (io++[p]).length:=(List.getElem?_eq_some_iff.mp h1).1;rw[Aq,Bo] at hl;have e:n=io.length:=by omega
     subst e;rw[AL (Af _),BX] at h1;rw[S.len,AL (Af _),BX] at h2
     cases (Ay h1)
     cases (Ay h2)
     exact new _ (E.kp S) zbn
theorem zdS{p:Addr}{n:Nat}{o:HO}{ob old:O}(S:StR K H io st)(hn:io[n]?=some p)(ho:st[n]?=some old)(nf:∀ o u,H p≠some (.frz o u))(new:∀ H',Kp H H'->H' p=some o->OR K H' (io++[]) p ob):Ext io [] H (upd H p o)/\StR K (upd H p o) (io++[]) (st.set n ob):=by
 have hp:p∈io:=A1 hn;have E:Ext io [] H (upd H p o):=⟨fun b u h nb=>by rw[zaG (fun e=>nb (by rw[e];exact hp))];exact h,fun b h=>absurd h (by simp),fun b u v h=>by
   by_cases hb:b=p
   . subst hb;exact absurd h (nf u v)
   . rw[zaG hb];exact h⟩
 refine⟨E,by simp[S.len],by rw[Ah];exact S.nd,fun m a ob' h1 h2=>?_⟩;rw[Ah] at h1
 by_cases hm:m=n
 . subst hm;rw[hn] at h1
   cases (Ay h1)
   rw[Ds,if_pos rfl] at h2
   split at h2
   . cases (Ay h2)
     exact new _ (E.kp S) zbn
   . cases h2
 . rw[Au (fun e=>hm e.symm)] at h2;have hap:a≠p:=fun e=>by
     subst e;exact hm ((List.getElem?_inj (List.getElem?_eq_some_iff.mp h1).1 S.nd).mp (h1.trans hn.symm))
   exact OR.mono (E.kp S) (zaG hap) (S.ob m a ob' h1 h2)
end
noncomputable abbrev ME:=Rho->Sto->Option (D×Sto)
noncomputable abbrev MT:=Rho->Sto->Option (Bool×Sto)
noncomputable abbrev MA:=Rho->Sto->Option (List D×Sto)
inductive Fl where
 | nx (ρ:Rho) | rt (d:D) | bk (ρ:Rho) | ct (ρ:Rho)
noncomputable abbrev MS:=Rho->Sto->Option (Fl×Sto)
noncomputable abbrev MG:=D->Rho->Sto->Option (Rho×Sto)
noncomputable abbrev MGs:=List D->Rho->Sto->Option (Rho×Sto)
def Bh(K:Ab)(io:List Addr)(H:Hp)(st':Sto)(d:D)(Q:VK):Prop:=∀ v H' ka,Ext io ka H H'->StR K H' (io++ka) st'->Rep K H' (io++ka) v d->Q v H'
inductive tE (K:Ab) (m:ME) (σ:L2.St) (H:Hp) (Q:VK):Prop
 | mk (ρ:Rho) (st:Sto) (io:List Addr) (d:D) (st':Sto) (h1:EnvR K H io σ ρ) (h2:StR K H io st) (h3:m ρ st=some (d,st')) (h4:Bh K io H st' d Q)
inductive tT (K:Ab) (m:MT) (σ:L2.St) (H:Hp) (Q:Bool->Hp->Prop):Prop
 | mk (ρ:Rho) (st:Sto) (io:List Addr) (b:Bool) (st':Sto) (h1:EnvR K H io σ ρ) (h2:StR K H io st) (h3:m ρ st=some (b,st')) (h4:∀ H' ka,Ext io ka H H'->StR K H' (io++ka) st'->Q b H')
inductive tA (K:Ab) (m:MA) (σ:L2.St) (H:Hp) (Q:List V->Hp->Prop):Prop
 | mk (ρ:Rho) (st:Sto) (io:List Addr) (ds:List D) (st':Sto) (h1:EnvR K H io σ ρ) (h2:StR K H io st) (h3:m ρ st=some (ds,st')) (h4:∀ vs H' ka,Ext io ka H H'->StR K H' (io++ka) st'->Reps K H' (io++ka) vs ds->Q vs H')
noncomputable def tS(K:Ab)(m:MS):TS:=fun N σ H=>∃ ρ st io f st',EnvR K H io σ ρ/\StR K H io st/\m ρ st=some (f,st') /\
 match f with
 | .nx ρ'=>∀ σ' H' ka,Ext io ka H H'->StR K H' (io++ka) st'->EnvR K H' (io++ka) σ' ρ'->N.nx σ' H'
 | .bk ρ'=>∀ σ' H' ka,Ext io ka H H'->StR K H' (io++ka) st'->EnvR K H' (io++ka) σ' ρ'->N.bk σ' H'
 | .ct ρ'=>∀ σ' H' ka,Ext io ka H H'->StR K H' (io++ka) st'->EnvR K H' (io++ka) σ' ρ'->N.ct σ' H'
 | .rt d=>Bh K io H st' d N.rt
inductive tG (K:Ab) (m:MG) (v:V) (σ:L2.St) (H:Hp) (Q:L2.St->Hp->Prop):Prop
 | mk (d:D) (ρ:Rho) (st:Sto) (io:List Addr) (ρ':Rho) (st':Sto) (h0:Rep K H io v d) (h1:EnvR K H io σ ρ) (h2:StR K H io st) (h3:m d ρ st=some (ρ',st')) (h4:∀ σ' H' ka,Ext io ka H H'->StR K H' (io++ka) st'->EnvR K H' (io++ka) σ' ρ'->Q σ' H')
inductive tGs (K:Ab) (m:MGs) (vs:List V) (σ:L2.St) (H:Hp) (Q:L2.St->Hp->Prop):Prop
 | mk (ds:List D) (ρ:Rho) (st:Sto) (io:List Addr) (ρ':Rho) (st':Sto) (h0:Reps K H io vs ds) (h1:EnvR K H io σ ρ) (h2:StR K H io st) (h3:m ds ρ st=some (ρ',st')) (h4:∀ σ' H' ka,Ext io ka H H'->StR K H' (io++ka) st'->EnvR K H' (io++ka) σ' ρ'->Q σ' H')
def SE(X:Cx)(e:Expr)(m:ME):Prop:=PE X e (tE X.K m)
def SB(X:Cx)(e:Expr)(m:MT):Prop:=PT X e (tT X.K m)
def SA(X:Cx)(es:List Expr)(m:MA):Prop:=PA X es (tA X.K m)
def SS(X:Cx)(s:Stmt)(m:MS):Prop:=PS X s (tS X.K m)
def SSs(X:Cx)(s:List Stmt)(m:MS):Prop:=PSs X s (tS X.K m)
def SG(X:Cx)(e:Expr)(m:MG):Prop:=PG X e (tG X.K m)
def SGs(X:Cx)(e:List Expr)(m:MGs):Prop:=PGs X e (tGs X.K m)
section
variable {X:Cx} {e a b c:Expr} {es:List Expr} {st1 st2:Stmt} {rest body orelse:List Stmt} {pos:Pos} {m ma mb mc:ME} {mt mu:MT} {mm:MA} {ms mq mr:MS} {mg:MG} {mgs:MGs}
theorem PE.imp{t u:TE}(h:PE X e t)(k:∀ σ H Q,u σ H Q->t σ H Q):PE X e u:=fun pins s σ H Q I q=>h pins s σ H Q I (k σ H Q q)
theorem PT.imp{t u:TT}(h:PT X e t)(k:∀ σ H Q,u σ H Q->t σ H Q):PT X e u:=fun pins s σ H Q I q=>h pins s σ H Q I (k σ H Q q)
theorem PA.imp{t u:TA}(h:PA X es t)(k:∀ σ H Q,u σ H Q->t σ H Q):PA X es u:=fun p pins s σ H Q I q=>h p pins s σ H Q I (k σ H Q q)
theorem PS.imp{t u:TS}(h:PS X st1 t)(k:∀ N σ H,u N σ H->t N σ H):PS X st1 u:=fun pins s σ H N I q=>h pins s σ H N I (k N σ H q)
theorem PSs.imp{t u:TS}(h:PSs X rest t)(k:∀ N σ H,u N σ H->t N σ H):PSs X rest u:=fun pins s σ H N I q=>h pins s σ H N I (k N σ H q)
theorem PG.imp{t u:TG}(h:PG X e t)(k:∀ v σ H Q,u v σ H Q->t v σ H Q):PG X e u:=fun pins s σ H v w Q I r q=>h pins s σ H v w Q I r (k v σ H Q q)
theorem PGs.imp{t u:TGs}(h:PGs X es t)(k:∀ v σ H Q,u v σ H Q->t v σ H Q):PGs X es u:=fun pins s σ H v w Q I r q=>h pins s σ H v w Q I r (k v σ H Q q)
theorem zad{α β:Type}{x:Option α}{f:α->Option β}{y:β}(h:x.bind f=some y):∃ z,x=some z/\f z=some y:=by
 cases x with
 | none=>cases h
 | some z=>exact⟨z,rfl,h⟩
variable {K:Ab} {H H1 H2:Hp} {io ka kb:List Addr} {st st':Sto}
theorem Bh.now{d:D}{Q:VK}{v:V}(h:Bh K io H st d Q)(S:StR K H io st)(r:Rep K H io v d):Q v H:=h v H [] Ext.refl S.nil (by rw[Ah];exact r)
theorem Bh.on{d:D}{Q:VK}(h:Bh K io H st' d Q)(S1:StR K H1 (io++ka) st)(E:Ext io ka H H1):Bh K (io++ka) H1 st' d Q:=fun v H' kb E' S' r =>
 h v H' (ka++kb) (E.trans S1 E') (by rw[<-Al];exact S') (by rw[<-Al];exact r)
noncomputable def mVar(i:Nat):ME:=fun ρ st=>match ρ[i]? with
 | some (some d)=>some (d,st)
 | _=>none
theorem zac(i:Nat){x:Str}{pos:Pos}(hN:X.N[i]?=some x:=by rfl)(hv:Vis X.env.scope x:=by first | exact AA rfl | exact Az (AA rfl) | exact Az (Az rfl))(hd:(x==("__debug__":Str))=false:=by decide)
   (hcd:(x==("__classdict__":Str))=false:=by decide):SE X (.Name x pos) (mVar i):=PE.imp (znw hN hv hd hcd) <| by
 rintro σ H Q ⟨ρ,st,io,d,st',E,S,e,k⟩;unfold mVar at e
 split at e
 . rename_i d' he;cases e;obtain⟨v,hv,r⟩:=E.at_ i _ he;exact⟨v,hv,k.now S r⟩
 . cases e
noncomputable def mCon(d:D):ME:=fun _ st=>some (d,st)
theorem zah{i j pos}:SE X (.Constant (.int i) j pos) (mCon (.int i)):=PE.imp znD <| by
 rintro σ H Q ⟨ρ,st,io,d,st',E,S,e,k⟩
 cases e;exact k.now S rfl
theorem zgD{b j pos}:SE X (.Constant (.bool b) j pos) (mCon (.bl b)):=PE.imp zpe <| by
 rintro σ H Q ⟨ρ,st,io,d,st',E,S,e,k⟩
 cases e;exact k.now S rfl
theorem zbH{x j pos}:SE X (.Constant (.str x) j pos) (mCon (.str x)):=PE.imp zny <| by
 rintro σ H Q ⟨ρ,st,io,d,st',E,S,e,k⟩
 cases e;exact k.now S rfl
theorem zjQ{j pos}:SE X (.Constant .none j pos) (mCon .non):=PE.imp znB <| by
 rintro σ H Q ⟨ρ,st,io,d,st',E,S,e,k⟩
 cases e;exact k.now S rfl
noncomputable abbrev G2:=D->D->Sto->Option (D×Sto)
inductive r2M (K:Ab) (g:G2) (x y:V) (H:Hp) (Q:VK):Prop
 | mk (dx dy:D) (st:Sto) (io:List Addr) (d:D) (st':Sto) (h0:Rep K H io x dx) (h1:Rep K H io y dy) (h2:StR K H io st) (h3:g dx dy st=some (d,st')) (h4:Bh K io H st' d Q)
def OpM(X:Cx)(f:Value->Value->Sem Value)(g:G2):Prop:=OpR X f (r2M X.K g)
noncomputable def mBin(g:G2)(ma mb:ME):ME:=fun ρ st=>(ma ρ st).bind fun (x,s1)=>(mb ρ s1).bind fun (y,s2)=>g x y s2
theorem zcP{g:G2}{σ:L2.St}{H:Hp}{Q:VK}(h:tE K (mBin g ma mb) σ H Q):tOp (r2M K g) (tE K ma) (tE K mb) σ H Q:=by
 obtain⟨ρ,st,io,d,st',E,S,e,k⟩:=h;obtain⟨⟨x,s1⟩,e1,e⟩:=zad e;obtain⟨⟨y,s2⟩,e2,e3⟩:=zad e;refine⟨ρ,st,io,x,s1,E,S,e1,fun v1 H1 k1 X1 S1 R1=>?_⟩;refine⟨ρ,s1,io++k1,y,s2,E.ext S X1,S1,e2,fun v2 H2 k2 X2 S2 R2=>?_⟩;exact⟨x,y,s2,(io++k1)++k2,d,st',R1.ext S1 X2,R2,S2,e3,(k.on S1 X1).on S2 X2⟩
theorem zap{op:Operator}{g:G2}(ho:OpM X (binaryOp op) g)(ha:SE X a ma)(hb:SE X b mb):SE X (.BinOp a op b pos) (mBin g ma mb):=PE.imp (zpc ho ha hb) fun _ _ _ h=>zcP h
theorem zh5{op:CmpOp}{g:G2}(ho:OpM X (compareOp op) g)(ha:SE X a ma)(hb:SE X b mb)(hm:behindInMarks op b=false):SE X (.Compare a [op] [b] pos) (mBin g ma mb):=PE.imp (zlW ho ha hb hm) fun _ _ _ h=>zcP h
noncomputable def mTst(m:ME):MT:=fun ρ st=>(m ρ st).bind fun (x,s1)=>match x with
 | .bl b=>some (b,s1)
 | _=>none
theorem zhP{ρ:Rho}{b:Bool}(e:mTst m ρ st=some (b,st')):m ρ st=some (.bl b,st'):=by
 obtain⟨⟨x,s1⟩,e1,e⟩:=zad e;dsimp only at e
 split at e
 . cases e;exact e1
 . cases e
theorem zb9{σ:L2.St}{H:Hp}{Q:Bool->Hp->Prop}(h:tT K (mTst m) σ H Q):tE K m σ H fun x H'=>∃ b,x=.bl b/\Q b H':=by
 obtain⟨ρ,st,io,b,st',E,S,e,k⟩:=h;exact⟨ρ,st,io,_,st',E,S,zhP e,fun v H' ka X' S' R'=>⟨b,R',k H' ka X' S'⟩⟩
theorem zbt{op:CmpOp}{g:G2}(ho:OpM X (compareOp op) g)(ha:SE X a ma)(hb:SE X b mb)(hm:behindInMarks op b=false):SB X (.Compare a [op] [b] pos) (mTst (mBin g ma mb)) :=
 PT.imp (zlJ ho ha hb hm) fun σ H Q h=>zcP (zb9 h)
theorem zi2(h:SE X a m)(he:∀ whole,isTrue a X.env whole=(do let v <-whole;standAt a.pos;holding [v] (truthy v)):=by intro _;rfl):SB X a (mTst m) :=
 PT.imp (zgM h he) fun σ H Q h=>by
   obtain⟨ρ,st,io,b,st',E,S,e,k⟩:=zb9 h;refine⟨ρ,st,io,b,st',E,S,e,fun v H' ka X' S' R'=>?_⟩;obtain⟨c,hc,q⟩:=k v H' ka X' S' R';subst hc;exact⟨c,rfl,q⟩
noncomputable def zdj(m:MT):MT:=fun ρ st=>(m ρ st).map fun (b,s)=>(!b,s)
theorem zc3(h:SB X a mt):SB X (.UnaryOp .Not a pos) (zdj mt):=PT.imp (znm h) <| by
 rintro σ H Q ⟨ρ,st,io,b,st',E,S,e,k⟩;unfold zdj at e
 cases e1:mt ρ st with
 | none=>rw[e1] at e;cases e
 | some p=>rw[e1] at e;cases e;exact⟨ρ,st,io,_,_,E,S,e1,fun H' ka X' S'=>k H' ka X' S'⟩
noncomputable def zeu(m n:MT):MT:=fun ρ st=>(m ρ st).bind fun (b,s)=>if b=true then n ρ s else some (false,s)
noncomputable def mOrT(m n:MT):MT:=fun ρ st=>(m ρ st).bind fun (b,s)=>if b=true then some (true,s) else n ρ s
def SW(X:Cx)(e:Expr)(m:MT):Prop:=PW X e (tT X.K m)
theorem PW.imp{t u:TT}(h:PW X e t)(k:∀ σ H Q,u σ H Q->t σ H Q):PW X e u:=fun w pins s σ H Q I q=>h w pins s σ H Q I (k σ H Q q)
theorem SW.sb(h:SW X a mt):SB X a mt:=PW.pt h
theorem zei(ha:SB X a mt):SW X (.BoolOp .And [a] pos) mt:=pw_and1 ha
theorem zfM(ha:SB X a mt):SW X (.BoolOp .Or [a] pos) mt:=pw_or1 ha
theorem zgX{n:MT}{σ:L2.St}{ρ:Rho}{Q:Bool->Hp->Prop}{b:Bool}{s1:Sto}(E:EnvR K H io σ ρ)(S:StR K H io st)(X1:Ext io ka H H1)(S1:StR K H1 (io++ka) s1)(e:n ρ s1=some (b,st'))(k:∀ H' ka,Ext io ka H H'->StR K H' (io++ka) st'->Q b H'):tT K n σ H1 Q :=
 ⟨ρ,s1,io++ka,b,st',E.ext S X1,S1,e,fun H' kb X' S'=>k H' (ka++kb) (X1.trans S1 X') (by rw[<-Al];exact S')⟩
theorem zfN{rs:List Expr}(ha:SB X a mt)(hb:SW X (.BoolOp .And (b::rs) pos) mu):SW X (.BoolOp .And (a::b::rs) pos) (zeu mt mu):=PW.imp (pw_and ha hb) <| by
 rintro σ H Q ⟨ρ,st,io,v,st',E,S,e,k⟩;obtain⟨⟨x,s1⟩,e1,e⟩:=zad e;refine⟨ρ,st,io,x,s1,E,S,e1,fun H1 k1 X1 S1=>?_⟩
 cases x with
 | true=>rw[if_pos rfl];exact zgX E S X1 S1 e k
 | false =>
   rw[if_neg (by decide)];have e':some (false,s1)=some (v,st'):=e;cases e';exact k H1 k1 X1 S1
theorem zhT{rs:List Expr}(ha:SB X a mt)(hb:SW X (.BoolOp .Or (b::rs) pos) mu):SW X (.BoolOp .Or (a::b::rs) pos) (mOrT mt mu):=PW.imp (pw_or ha hb) <| by
 rintro σ H Q ⟨ρ,st,io,v,st',E,S,e,k⟩;obtain⟨⟨x,s1⟩,e1,e⟩:=zad e;refine⟨ρ,st,io,x,s1,E,S,e1,fun H1 k1 X1 S1=>?_⟩
 cases x with
 | false=>rw[if_neg (by decide)];exact zgX E S X1 S1 e k
 | true =>
   rw[if_pos rfl];have e':some (true,s1)=some (v,st'):=e;cases e';exact k H1 k1 X1 S1
noncomputable def ziu(m n:ME):ME:=fun ρ st=>(mTst m ρ st).bind fun (b,s)=>if b=true then n ρ s else some (.bl false,s)
noncomputable def zme(m:ME):ME:=fun ρ st=>(mTst m ρ st).map fun (b,s)=>(.bl !b,s)
theorem znS{n:ME}{σ:L2.St}{ρ:Rho}{Q:VK}{d:D}{s1:Sto}(E:EnvR K H io σ ρ)(S:StR K H io st)(X1:Ext io ka H H1)(S1:StR K H1 (io++ka) s1)(e:n ρ s1=some (d,st'))(k:Bh K io H st' d Q):tE K n σ H1 Q :=
 ⟨ρ,s1,io++ka,d,st',E.ext S X1,S1,e,k.on S1 X1⟩
theorem zfj(ha:SE X a ma):SE X (.BoolOp .And [a] pos) ma:=znz ha
theorem zeQ{rs:List Expr}(ha:SE X a ma)(hb:SE X (.BoolOp .And (b::rs) pos) mb):SE X (.BoolOp .And (a::b::rs) pos) (ziu ma mb):=PE.imp (znG ha hb) <| by
 rintro σ H Q ⟨ρ,st,io,v,st',E,S,e,k⟩;obtain⟨⟨x,s1⟩,e1,e⟩:=zad e;refine⟨ρ,st,io,.bl x,s1,E,S,zhP e1,fun v1 H1 k1 X1 S1 R1=>⟨x,R1,?_⟩⟩
 cases x with
 | true=>rw[if_pos rfl];exact znS E S X1 S1 e k
 | false =>
   rw[if_neg (by decide)];have e':some (D.bl false,s1)=some (v,st'):=e;cases e';exact k _ H1 k1 X1 S1 rfl
theorem zly(ha:SE X a ma):SE X (.UnaryOp .Not a pos) (zme ma):=PE.imp (znA ha) <| by
 rintro σ H Q ⟨ρ,st,io,v,st',E,S,e,k⟩;unfold zme at e
 cases e1:mTst ma ρ st with
 | none=>rw[e1] at e;cases e
 | some p =>
   rw[e1] at e;cases e;exact⟨ρ,st,io,_,_,E,S,zhP e1,fun v1 H1 k1 X1 S1 R1=>⟨_,R1,k _ H1 k1 X1 S1 rfl⟩⟩
end
end L2.MP
set_option linter.unusedVariables false
namespace L2.MP
open PySem PySem.Spec PyProof.Rows
section
variable {X:Cx} {e a b c:Expr} {es:List Expr} {st1 st2:Stmt} {rest body orelse:List Stmt} {pos:Pos} {m ma mb mc:ME} {mt mu:MT} {mm:MA} {ms mq mr:MS} {mg:MG} {mgs:MGs}
variable {K:Ab} {H H1 H2:Hp} {io ka kb:List Addr} {st st':Sto}
noncomputable def mNil:MA:=fun _ st=>some ([],st)
noncomputable def zab(m:ME)(mm:MA):MA:=fun ρ st=>(m ρ st).bind fun (x,s1)=>(mm ρ s1).bind fun (xs,s2)=>some (x::xs,s2)
theorem zae:SA X [] mNil:=PA.imp zlZ <| by
 rintro σ H Q ⟨ρ,st,io,ds,st',E,S,e,k⟩
 cases e;exact k [] H [] Ext.refl S.nil Reps.nil
theorem zaa(ha:SE X e m)(hr:SA X es mm)(hs:starEach (e::es) X.env=(false,eval e X.env)::starEach es X.env:=by rfl):SA X (e::es) (zab m mm):=PA.imp (zgQ ha hr hs) <| by
 rintro σ H Q ⟨ρ,st,io,ds,st',E,S,e,k⟩;obtain⟨⟨x,s1⟩,e1,e⟩:=zad e;obtain⟨⟨xs,s2⟩,e2,e⟩:=zad e;cases e;refine⟨ρ,st,io,x,s1,E,S,e1,fun v1 H1 k1 X1 S1 R1=>⟨ρ,s1,io++k1,xs,_,E.ext S X1,S1,e2,fun vs H2 k2 X2 S2 R2=>?_⟩⟩;exact k _ H2 (k1++k2) (X1.trans S1 X2) (by rw[<-Al];exact S2) (by rw[<-Al];exact Reps.cons (R1.ext S1 X2) R2)
noncomputable def fits(n:Nat):Bool:=decide (n<=sizeLine)
noncomputable def mTup(mm:MA):ME:=fun ρ st=>(mm ρ st).bind fun (xs,s)=>if fits xs.length=true then some (.tup xs,s) else none
noncomputable def mLst(mm:MA):ME:=fun ρ st=>(mm ρ st).bind fun (xs,s)=>if fits xs.length=true then some (.ref s.length,s++[.lst xs]) else none
theorem zam{α:Type}{c:Prop}[Decidable c]{x:Option α}{y:α}(h:(if c then x else none)=some y):c/\x=some y:=by
 by_cases hc:c
 . rw[if_pos hc] at h;exact⟨hc,h⟩
 . rw[if_neg hc] at h;cases h
theorem Bh.tup{ds:List D}{vs:List V}{Q:VK}{p:Addr}(k:Bh K io H st (.tup ds) Q)(S:StR K H io st)(R:Reps K H io vs ds)(hp:H p=none):Q (.ref p) (upd H p (.tup vs)):=by
 obtain⟨E,S'⟩:=zft (o:=.tup vs) S hp;refine k _ _ [] E S' ⟨p,vs,rfl,zbn,R.ext S E⟩
theorem getElem?_len{α:Type}(l:List α)(x:α):(l++[x])[l.length]?=some x:=by
 rw[AL (Af _),BX];rfl
theorem Bh.lst{ds:List D}{vs:List V}{Q:VK}{p:Addr}(k:Bh K io H (st++[.lst ds]) (.ref st.length) Q)(S:StR K H io st)(R:Reps K H io vs ds)(hp:H p=none):Q (.ref p) (upd H p (.lst vs)):=by
 obtain⟨E,S'⟩:=ziq (o:=.lst vs) (ob:=.lst ds) S hp fun H' T e=>⟨vs,e,Reps.mono T R⟩
 exact k _ _ [p] E S' ⟨p,rfl,by rw[<-S.len];exact getElem?_len io p⟩
theorem zaE{x1}(h:SA X es mm):SE X (.Tuple es x1 pos) (mTup mm):=PE.imp (znx h) <| by
 rintro σ H Q ⟨ρ,st,io,d,st',E,S,e,k⟩;obtain⟨⟨xs,s1⟩,e1,e⟩:=zad e;obtain⟨hf,e⟩:=zam e;cases e;refine⟨ρ,st,io,xs,_,E,S,e1,fun vs H1 k1 X1 S1 R1=>⟨by rw[R1.length];exact of_decide_eq_true hf,fun p hp=>(k.on S1 X1).tup S1 R1 hp⟩⟩
theorem zbC(h:SA X es mm):SE X (.List es pos) (mLst mm):=PE.imp (znC h) <| by
 rintro σ H Q ⟨ρ,st,io,d,st',E,S,e,k⟩;obtain⟨⟨xs,s1⟩,e1,e⟩:=zad e;obtain⟨hf,e⟩:=zam e;cases e;refine⟨ρ,st,io,xs,_,E,S,e1,fun vs H1 k1 X1 S1 R1=>⟨by rw[R1.length];exact of_decide_eq_true hf,fun p hp=>(k.on S1 X1).lst S1 R1 hp⟩⟩
noncomputable abbrev GN:=List D->Sto->Option (D×Sto)
inductive rNM (K:Ab) (g:GN) (xs:List V) (H:Hp) (Q:VK):Prop
 | mk (ds:List D) (st:Sto) (io:List Addr) (d:D) (st':Sto) (h1:Reps K H io xs ds) (h2:StR K H io st) (h3:g ds st=some (d,st')) (h4:Bh K io H st' d Q)
def zcM(X:Cx)(f:Value)(g:GN):Prop:=ziT X f (rNM X.K g)
noncomputable def zat(g:GN)(mm:MA):ME:=fun ρ st=>(mm ρ st).bind fun (xs,s)=>g xs s
theorem zeA{g:GN}{σ:L2.St}{Q:VK}(h:tE K (zat g mm) σ H Q):tCB (rNM K g) (tA K mm) σ H Q:=by
 obtain⟨ρ,st,io,d,st',E,S,e,k⟩:=h;obtain⟨⟨xs,s1⟩,e1,e⟩:=zad e;exact⟨ρ,st,io,xs,s1,E,S,e1,fun vs H1 k1 X1 S1 R1=>⟨xs,s1,io++k1,d,st',R1,S1,e,k.on S1 X1⟩⟩
theorem zaC{x:Str}{p:Pos}{id:String}{g:GN}(hc:zcM X (.builtin id) g)(hg:Gl X x)(hm:X.mg x=none)(hv:bootBuiltins x=some (.builtin id))(ha:SA X (e::es) mm)(hn:x≠"__name__":=by decide)(hdb:(x==("__debug__":Str))=false:=by decide)
   (he:starEach (e::es) X.env=(false,eval e X.env)::starEach es X.env:=by rfl) (hpl:(backTo pos (starEach es X.env)).any (·.1)=false:=by rfl):SE X (.Call (.Name x p) (e::es) [] pos) (zat g mm) :=
 PE.imp (zgP hc hg hm hv ha hn hdb he hpl) fun _ _ _ h=>zeA h
theorem zcN{x:Str}{p:Pos}{T:String}{g:GN}(hc:zcM X (.type T) g)(hg:Gl X x)(hm:X.mg x=none)(hv:bootBuiltins x=some (.type T))(ha:SA X (e::es) mm)(hn:x≠"__name__":=by decide)(hdb:(x==("__debug__":Str))=false:=by decide)
   (he:starEach (e::es) X.env=(false,eval e X.env)::starEach es X.env:=by rfl) (hpl:(backTo pos (starEach es X.env)).any (·.1)=false:=by rfl):SE X (.Call (.Name x p) (e::es) [] pos) (zat g mm) :=
 PE.imp (zih hc hg hm hv ha hn hdb he hpl) fun _ _ _ h=>zeA h
noncomputable def spM(K:Ab)(n:Nat)(g:GN):Sp:=fun vs H Q _=>∃ ds st io d st',vs.length=n/\Reps K H io vs ds/\StR K H io st/\g ds st=some (d,st')/\Bh K io H st' d Q
theorem zlA{x:Str}{p:Pos}{k:Nat}{f:Addr}{fd:FuncData}{ps:List Str}{n:Nat}{g:GN}(F:FnOk X.prog X.w X.K X.mg X.base CX0 k f fd ps (spM X.K n g))(hr:Room k X.A)(hg:Gl X x)(hm:X.mg x=some (.ref f))(hk:BV X.K (.ref f)=true)(hb:Binds X.K fd ps [])
   (ha:SA X (e::es) mm) (hdb:(x==("__debug__":Str))=false:=by decide) (he:starEach (e::es) X.env=(false,eval e X.env)::starEach es X.env:=by rfl) (hpl:(backTo pos (starEach es X.env)).any (·.1)=false:=by rfl) (hn:(e::es).length=n:=by rfl)
   (hl:∀ ρ st xs s,mm ρ st=some (xs,s)->xs.length=n) :
   SE X (.Call (.Name x p) (e::es) [] pos) (zat g mm):=PE.imp (zlX F hr hg hm hk hb .nil zpf ha hdb he hpl) <| by
 rintro σ H Q ⟨ρ,st,io,d,st',E,S,e,k⟩;obtain⟨⟨xs,s1⟩,e1,e⟩:=zad e;refine⟨ρ,st,io,xs,s1,E,S,e1,fun vs H1 k1 X1 S1 R1=>⟨xs,s1,io++k1,d,st',?_,?_,S1,e,k.on S1 X1⟩⟩
 . rw[Ah,R1.length];exact hl _ _ _ _ e1
 . rw[Ah];exact R1
theorem zkl{ρ:Rho}{st:Sto}{xs:List D}{s:Sto}(h:mNil ρ st=some (xs,s)):xs.length=0:=by cases h;rfl
theorem zit{ρ:Rho}{st:Sto}{xs:List D}{s:Sto}{n:Nat}(hr:∀ ρ st xs s,mm ρ st=some (xs,s)->xs.length=n)(h:zab m mm ρ st=some (xs,s)):xs.length=n+1:=by
 obtain⟨⟨x,s1⟩,e1,e⟩:=zad h;obtain⟨⟨ys,s2⟩,e2,e⟩:=zad e;cases e;rw[AX,hr _ _ _ _ e2]
noncomputable def Wn(K:Ab)(io:List Addr)(H:Hp)(st':Sto)(N:Ends):Fl->Prop
 | .nx ρ'=>∀ σ' H' ka,Ext io ka H H'->StR K H' (io++ka) st'->EnvR K H' (io++ka) σ' ρ'->N.nx σ' H'
 | .bk ρ'=>∀ σ' H' ka,Ext io ka H H'->StR K H' (io++ka) st'->EnvR K H' (io++ka) σ' ρ'->N.bk σ' H'
 | .ct ρ'=>∀ σ' H' ka,Ext io ka H H'->StR K H' (io++ka) st'->EnvR K H' (io++ka) σ' ρ'->N.ct σ' H'
 | .rt d=>Bh K io H st' d N.rt
inductive tSi (K:Ab) (m:MS) (N:Ends) (σ:L2.St) (H:Hp):Prop
 | mk (ρ:Rho) (st:Sto) (io:List Addr) (f:Fl) (st':Sto) (h1:EnvR K H io σ ρ) (h2:StR K H io st) (h3:m ρ st=some (f,st')) (h4:Wn K io H st' N f)
theorem zca{N:Ends}{σ:L2.St}{H:Hp}:tS K ms N σ H ↔ tSi K ms N σ H:=by
 constructor
 . rintro ⟨ρ,st,io,f,st',E,S,e,k⟩;exact⟨ρ,st,io,f,st',E,S,e,by cases f <;> exact k⟩
 . rintro ⟨ρ,st,io,f,st',E,S,e,k⟩;exact⟨ρ,st,io,f,st',E,S,e,by cases f <;> exact k⟩
theorem zer{P:L2.St->Hp->Prop}{ρ':Rho}(h:∀ σ' H' ka,Ext io ka H H'->StR K H' (io++ka) st'->EnvR K H' (io++ka) σ' ρ'->P σ' H')(X1:Ext io ka H H1)(S1:StR K H1 (io++ka) st) :
   ∀ σ' H' kb,Ext (io++ka) kb H1 H'->StR K H' ((io++ka)++kb) st'->EnvR K H' ((io++ka)++kb) σ' ρ'->P σ' H':=fun σ' H' kb E' S' R' =>
 h σ' H' (ka++kb) (X1.trans S1 E') (by rw[<-Al];exact S') (by rw[<-Al];exact R')
theorem Wn.on{N:Ends}{f:Fl}(h:Wn K io H st' N f)(X1:Ext io ka H H1)(S1:StR K H1 (io++ka) st):Wn K (io++ka) H1 st' N f:=by
 cases f with
 | nx ρ'=>exact zer h X1 S1
 | bk ρ'=>exact zer h X1 S1
 | ct ρ'=>exact zer h X1 S1
 | rt d=>exact Bh.on h S1 X1
theorem zjw{N:Ends}{σ:L2.St}{ρ:Rho}{f:Fl}(E:EnvR K H io σ ρ)(S:StR K H io st)(e:ms ρ st=some (f,st'))(w:Wn K io H st' N f):tS K ms N σ H:=zca.mpr ⟨ρ,st,io,f,st',E,S,e,w⟩
theorem zmU{N:Ends}{σ:L2.St}{ρ:Rho}{f:Fl}{s1:Sto}(X1:Ext io ka H H1)(S1:StR K H1 (io++ka) s1)(E:EnvR K H1 (io++ka) σ ρ)(e:ms ρ s1=some (f,st'))(w:Wn K io H st' N f):tS K ms N σ H1 :=
 zjw E S1 e (w.on X1 S1)
noncomputable def zcO:MS:=fun ρ st=>some (.nx ρ,st)
theorem zll:SSs X [] zcO:=PSs.imp zlM fun N σ H h=>by
 obtain⟨ρ,st,io,f,st',E,S,e,w⟩:=zca.mp h;cases e;exact w σ H [] Ext.refl S.nil (by rw[Ah];exact E)
noncomputable def mSeq(m n:MS):MS:=fun ρ st=>(m ρ st).bind fun (f,s)=>match f with
 | .nx ρ1=>n ρ1 s
 | f=>some (f,s)
theorem zjB(h1:SS X st1 ms)(h2:SSs X rest mq):SSs X (st1::rest) (mSeq ms mq):=PSs.imp (zj5 h1 h2) fun N σ H h=>by
 obtain⟨ρ,st,io,f,st',E,S,e,w⟩:=zca.mp h;obtain⟨⟨f1,s1⟩,e1,e⟩:=zad e;refine zjw E S e1 ?_
 cases f1 with
 | nx ρ1=>exact fun σ' H' ka X' S' R'=>zmU X' S' R' e w
 | bk ρ1=>cases e;exact w
 | ct ρ1=>cases e;exact w
 | rt d=>cases e;exact w
theorem zlk(h1:SS X st1 ms):SSs X [st1] ms:=zlL h1
noncomputable def mExp(m:ME):MS:=fun ρ st=>(m ρ st).map fun (_,s)=>(.nx ρ,s)
noncomputable def mRet(m:ME):MS:=fun ρ st=>(m ρ st).map fun (d,s)=>(.rt d,s)
theorem zag{α β:Type}{x:Option α}{f:α->β}{y:β}(h:x.map f=some y):∃ z,x=some z/\f z=y:=by
 cases x with
 | none=>cases h
 | some z=>exact⟨z,rfl,Ay h⟩
theorem zcV(he:SE X e m)(hs:swapsWith e none pos.line X.env=pure false:=by rfl):SS X (.Expr e pos) (mExp m):=PS.imp (zlN he hs) fun N σ H h=>by
 obtain⟨ρ,st,io,f,st',E,S,e,w⟩:=zca.mp h;obtain⟨⟨d,s1⟩,e1,e⟩:=zag e;cases e;exact⟨ρ,st,io,d,_,E,S,e1,fun v H' ka X' S' R'=>w σ H' ka X' S' (E.ext S X')⟩
theorem zaX(he:SE X e m):SS X (.Return (some e) pos) (mRet m):=PS.imp (zno he) fun N σ H h=>by
 obtain⟨ρ,st,io,f,st',E,S,e,w⟩:=zca.mp h;obtain⟨⟨d,s1⟩,e1,e⟩:=zag e;cases e;exact⟨ρ,st,io,d,_,E,S,e1,w⟩
noncomputable def mIf(c:MT)(m n:MS):MS:=fun ρ st=>(c ρ st).bind fun (b,s)=>if b=true then m ρ s else n ρ s
theorem zo3(hc:SB X c mt)(h1:SSs X body ms)(h2:SSs X orelse mq):SS X (.If c body orelse pos) (mIf mt ms mq):=PS.imp (zpa hc h1 h2) fun N σ H h=>by
 obtain⟨ρ,st,io,f,st',E,S,e,w⟩:=zca.mp h;obtain⟨⟨x,s1⟩,e1,e⟩:=zad e;refine⟨ρ,st,io,x,s1,E,S,e1,fun H1 k1 X1 S1=>?_⟩
 cases x with
 | true=>rw[if_pos rfl];exact zmU X1 S1 (E.ext S X1) e w
 | false=>rw[if_neg (by decide)];exact zmU X1 S1 (E.ext S X1) e w
noncomputable def gNm(i:Nat):MG:=fun d ρ st=>some (ρ.set i (some d),st)
theorem zaB{i:Nat}{x:Str}(hN:X.N.Nodup)(hi:X.N[i]?=some x)(hx:Loc X.env.scope x)(hf:X.fn x=true\/X.env.scope.names.lookup x=some .local:=by first | exact .inl rfl | exact .inr rfl | assumption):SG X (.Name x pos) (gNm i) :=
 PG.imp (zlS hN hi hx hf) <| by
   rintro v σ H Q ⟨d,ρ,st,io,ρ',st',R,E,S,e,k⟩;cases e;exact k _ H [] Ext.refl S.nil (by rw[Ah];exact E.set i R)
noncomputable def gN0:MGs:=fun ds ρ st=>match ds with
 | []=>some (ρ,st)
 | _=>none
noncomputable def gC(g:MG)(h:MGs):MGs:=fun ds ρ st=>match ds with
 | d::r=>(g d ρ st).bind fun (ρ1,s1)=>h r ρ1 s1
 | []=>none
theorem zcc:SGs X [] gN0:=PGs.imp zlR <| by
 rintro v σ H Q ⟨ds,ρ,st,io,ρ',st',R,E,S,e,k⟩
 cases ds with
 | nil=>cases e;exact⟨R,k σ H [] Ext.refl S.nil (by rw[Ah];exact E)⟩
 | cons d r=>cases e
theorem zaL(h1:SG X e mg)(h2:SGs X es mgs)(hs:(assignEach (e::es) X.env).map (·.2)=assign e X.env::(assignEach es X.env).map (·.2):=by rfl):SGs X (e::es) (gC mg mgs) :=
 PGs.imp (zka h1 h2 hs) <| by
   rintro v σ H Q ⟨ds,ρ,st,io,ρ',st',R,E,S,e,k⟩
   cases ds with
   | nil=>cases e
   | cons d r =>
     obtain⟨y,ys,rfl,r1,rs⟩:=R;obtain⟨⟨ρ1,s1⟩,e1,e⟩:=zad e;refine⟨y,ys,rfl,d,ρ,st,io,ρ1,s1,r1,E,S,e1,fun σ1 H1 k1 X1 S1 E1=>?_⟩;exact⟨r,ρ1,s1,io++k1,ρ',st',rs.ext S X1,E1,S1,e,zer k X1 S1⟩
noncomputable def gTp(n:Nat)(h:MGs):MG:=fun d ρ st=>match d with
 | .tup ds=>if ds.length=n then h ds ρ st else none
 | _=>none
theorem zdM{k:Nat}{n:Nat}(hc:X.calm=true)(h:SGs X es mgs)(hn:(assignEach es X.env).length=n:=by rfl)(hst:(assignEach es X.env).findIdx? (·.1)=none:=by rfl):SG X (.Tuple es k pos) (gTp n mgs) :=
 PG.imp (znu hc h hn hst) <| by
   rintro v σ H Q ⟨d,ρ,st,io,ρ',st',R,E,S,e,k⟩
   cases d with
   | tup ds =>
     obtain⟨a,xs,rfl,hq,rs⟩:=R;obtain⟨hl,e⟩:=zam e;exact⟨a,xs,rfl,SqT.of hq,by rw[rs.length];exact hl,ds,ρ,st,io,ρ',st',rs,E,S,e,k⟩
   | _=>cases e
noncomputable abbrev G3:=D->D->D->Sto->Option Sto
inductive tSetM (K:Ab) (g:G3) (o i v:V) (H:Hp) (Q:Hp->Prop):Prop
 | mk (d1 d2 d3:D) (st:Sto) (io:List Addr) (st':Sto) (h0:Rep K H io o d1) (h1:Rep K H io i d2) (h2:Rep K H io v d3) (h3:StR K H io st) (h4:g d1 d2 d3 st=some st') (h5:∀ H' ka,Ext io ka H H'->StR K H' (io++ka) st'->Q H')
def SetM(X:Cx)(g:G3):Prop:=PSet X (tSetM X.K g)
noncomputable def gSb(g:G3)(mo mi:ME):MG:=fun d ρ st=>(mo ρ st).bind fun (o,s1)=>(mi ρ s1).bind fun (i,s2)=>(g o i d s2).map fun s3=>(ρ,s3)
theorem znb{o i:Expr}{mo mi:ME}{g:G3}(ho:SE X o mo)(hi:SE X i mi)(hs:SetM X g)
   (ha:∀ v,assign (.Subscript o i pos) X.env v=(do
     let ov <-holding [v] (eval o X.env)
     let iv <-holding [v,ov] (eval i X.env)
     standAt pos
     holding [v,ov,iv] (setItem ov iv v)
     release [v,ov,iv] []):=by intro _;rfl):SG X (.Subscript o i pos) (gSb g mo mi) :=
 PG.imp (znv ho hi hs ha) <| by
   rintro v σ H Q ⟨d,ρ,st,io,ρ',st',R,E,S,e,k⟩;obtain⟨⟨x,s1⟩,e1,e⟩:=zad e;obtain⟨⟨y,s2⟩,e2,e⟩:=zad e;obtain⟨s3,e3,e⟩:=zag e;cases e;refine⟨ρ,st,io,x,s1,E,S,e1,fun v1 H1 k1 X1 S1 R1=>⟨ρ,s1,io++k1,y,s2,E.ext S X1,S1,e2,fun v2 H2 k2 X2 S2 R2=>?_⟩⟩;have X12:=X1.trans S1 X2;refine⟨x,y,d,s2,(io++k1)++k2,_,R1.ext S1 X2,R2,(R.ext S X1).ext S1 X2,S2,e3,fun H3 k3 X3 S3=>?_⟩;rw[Al] at X3 S2;rw[Al,Al] at S3;refine k σ H3 ((k1++k2)++k3) (X12.trans S2 X3) (by simpa using S3) ?_;have E2:EnvR X.K H2 (io++(k1++k2)) σ ρ:=E.ext S X12;have:=E2.ext S2 X3;simpa using this
noncomputable def mAsg(m:ME)(g:MG):MS:=fun ρ st=>(m ρ st).bind fun (d,s1)=>(g d ρ s1).map fun (ρ',s2)=>(.nx ρ',s2)
theorem ziO{N:Ends}{σ:L2.St}{H:Hp}(h:tS K (mAsg m mg) N σ H):tAsg (tE K m) (tG K mg) N σ H:=by
 obtain⟨ρ,st,io,f,st',E,S,e,w⟩:=zca.mp h;obtain⟨⟨x,s1⟩,e1,e⟩:=zad e;obtain⟨⟨ρ',s2⟩,e2,e⟩:=zag e;cases e;exact⟨ρ,st,io,x,s1,E,S,e1,fun v1 H1 k1 X1 S1 R1=>⟨x,ρ,s1,io++k1,ρ',_,R1,E.ext S X1,S1,e2,zer w X1 S1⟩⟩
theorem zfQ{tg:Expr}(he:SE X e m)(hg:SG X tg mg)(hs:swapsWithSole [tg] e pos.line X.env=pure false:=by rfl)(hw:swappedStores [tg] e X.env=pure none:=by rfl)
   (h1:(assignEach [tg] X.env).map (·.2)=[assign tg X.env]:=by rfl):SS X (.Assign [tg] e pos) (mAsg m mg):=PS.imp (znr he hg hs hw h1) fun _ _ _ h=>ziO h
theorem zbi{i:Nat}{x:Str}{pos':Pos}(hN:X.N.Nodup)(hi:X.N[i]?=some x)(hx:Loc X.env.scope x)(he:SE X e m)(hs:swapsWith e (some (.Name x pos')) pos.line X.env=pure false:=by rfl)(hf:X.fn x=true\/X.env.scope.names.lookup x=some .local:=by first | exact .inl rfl | exact .inr rfl | assumption) :
   SS X (.Assign [.Name x pos'] e pos) (mAsg m (gNm i)):=PS.imp (znn hN hi hx he hs hf) fun N σ H h=>by
 obtain⟨ρ,st,io,f,st',E,S,e,w⟩:=zca.mp h;obtain⟨⟨x,s1⟩,e1,e⟩:=zad e;obtain⟨⟨ρ',s2⟩,e2,e⟩:=zag e;cases e;cases e2;exact⟨ρ,st,io,x,_,E,S,e1,fun v1 H1 k1 X1 S1 R1=>w _ H1 k1 X1 S1 ((E.ext S X1).set i R1)⟩
structure Wk where
 ds:List D
 g:List (Nat×List D)
def stays(W:Wk)(st:Sto):Prop:=∀ p,p∈W.g->st[p.1]?=some (.lst p.2)\/st[p.1]?=some (.fz p.2)
structure ItOk(K:Ab)(H0:Hp)(io:List Addr)(W:Wk)(J:It):Prop where
 go:∀ i d H ka st,W.ds[i]?=some d->Ext io ka H0 H->StR K H (io++ka) st->stays W st->J.go i H/\∀ x H',J.yld i H x H'->Ext (io++ka) [] H H'/\StR K H' (io++ka) st/\Rep K H' (io++ka) x d
 stop:∀ H ka st,Ext io ka H0 H->StR K H (io++ka) st->stays W st->J.stop W.ds.length H
 stop':∀ H ka st i,W.ds.length<=i->Ext io ka H0 H->StR K H (io++ka) st->stays W st->J.stop i H
noncomputable abbrev MI:=Rho->Sto->Option (Wk×Sto)
inductive tI (K:Ab) (m:MI) (σ:L2.St) (H:Hp) (R:It->Hp->Prop):Prop
 | mk (ρ:Rho) (st:Sto) (io:List Addr) (W:Wk) (st':Sto) (h1:EnvR K H io σ ρ) (h2:StR K H io st) (h3:m ρ st=some (W,st')) (h4:∀ J H' ka,Ext io ka H H'->StR K H' (io++ka) st'->ItOk K H' (io++ka) W J->R J H')
def SI(X:Cx)(tg iter:Expr)(m:MI):Prop:=PI X tg iter (tI X.K m)
theorem PI.imp{tg iter:Expr}{t u:TI}(h:PI X tg iter t)(k:∀ σ H R,u σ H R->t σ H R):PI X tg iter u:=fun pins s σ H R I q=>h pins s σ H R I (k σ H R q)
end
mutual
noncomputable def D.eqb:D->D->Bool
 | .non,.non=>true
 | .bl a,.bl b=>a==b
 | .int a,.int b=>decide (a=b)
 | .str a,.str b=>decide (a=b)
 | .tup a,.tup b=>D.eqbs a b
 | .ref a,.ref b=>decide (a=b)
 | .kl a,.kl b=>D.eqbs a b
 | _,_=>false
noncomputable def D.eqbs:List D->List D->Bool
 | [],[]=>true
 | a::as,b::bs=>D.eqb a b&&D.eqbs as bs
 | _,_=>false
end
mutual
theorem D.eqb_refl:∀ a:D,D.eqb a a=true
 | .non=>rfl
 | .bl a=>by simp[D.eqb]
 | .int a=>by simp[D.eqb]
 | .str a=>by simp[D.eqb]
 | .tup a=>by rw[D.eqb];exact D.eqbs_refl a
 | .ref a=>by simp[D.eqb]
 | .kl a=>by rw[D.eqb];exact D.eqbs_refl a
theorem D.eqbs_refl:∀ a:List D,D.eqbs a a=true
 | []=>rfl
 | a::as=>by rw[D.eqbs,D.eqb_refl a,D.eqbs_refl as];rfl
end
mutual
theorem D.eq_of:∀ {a b:D},D.eqb a b=true->a=b
 | .non,b,h=>by cases b <;> simp[D.eqb] at h ⊢
 | .bl a,b,h=>by cases b <;> simp[D.eqb] at h ⊢;exact h
 | .int a,b,h=>by cases b <;> simp[D.eqb] at h ⊢;exact h
 | .str a,b,h=>by cases b <;> simp[D.eqb] at h ⊢;exact h
 | .tup a,.tup b,h=>by rw[D.eqb] at h;rw[D.eqs_of h]
 | .tup a,.non,h=>by simp[D.eqb] at h
 | .tup a,.bl _,h=>by simp[D.eqb] at h
 | .tup a,.int _,h=>by simp[D.eqb] at h
 | .tup a,.str _,h=>by simp[D.eqb] at h
 | .tup a,.ref _,h=>by simp[D.eqb] at h
 | .tup a,.kl _,h=>by simp[D.eqb] at h
 | .kl a,.kl b,h=>by rw[D.eqb] at h;rw[D.eqs_of h]
 | .kl a,.non,h=>by simp[D.eqb] at h
 | .kl a,.bl _,h=>by simp[D.eqb] at h
 | .kl a,.int _,h=>by simp[D.eqb] at h
 | .kl a,.str _,h=>by simp[D.eqb] at h
 | .kl a,.ref _,h=>by simp[D.eqb] at h
 | .kl a,.tup _,h=>by simp[D.eqb] at h
 | .ref a,b,h=>by cases b <;> simp[D.eqb] at h ⊢;exact h
theorem D.eqs_of:∀ {a b:List D},D.eqbs a b=true->a=b
 | [],[],_=>rfl
 | [],_::_,h=>by simp[D.eqbs] at h
 | _::_,[],h=>by simp[D.eqbs] at h
 | a::as,b::bs,h=>by
   rw[D.eqbs,Ao] at h;rw[D.eq_of h.1,D.eqs_of h.2]
end
noncomputable instance:DecidableEq D:=fun a b=>if h:D.eqb a b=true then .isTrue (D.eq_of h) else .isFalse fun e=>h (by rw[e];exact D.eqb_refl b)
noncomputable def zhe(st:Sto)(n:Nat)(ds:List D):Bool:=match st[n]? with
 | some (.lst xs)=>D.eqbs xs ds
 | some (.fz xs)=>D.eqbs xs ds
 | _=>false
theorem ziE{st:Sto}{n:Nat}{ds:List D}(h:zhe st n ds=true):st[n]?=some (.lst ds)\/st[n]?=some (.fz ds):=by
 unfold zhe at h
 split at h
 . rename_i xs e;rw[D.eqs_of h] at e;exact .inl e
 . rename_i xs e;rw[D.eqs_of h] at e;exact .inr e
 . cases h
theorem zhd{st:Sto}{n:Nat}{ds:List D}(h:st[n]?=some (.lst ds)):zhe st n ds=true:=by unfold zhe;rw[h];exact D.eqbs_refl ds
section
variable {X:Cx} {e a b c:Expr} {es:List Expr} {st1 st2:Stmt} {rest body orelse:List Stmt} {pos:Pos} {m ma mb mc:ME} {mt mu:MT} {mm:MA} {ms mq mr:MS} {mg:MG} {mgs:MGs} {mi:MI}
variable {K:Ab} {H H1 H2:Hp} {io ka kb:List Addr} {st st':Sto}
noncomputable def walked(W:Wk)(st:Sto):Bool:=W.g.all fun p=>zhe st p.1 p.2
theorem zb8{W:Wk}(h:walked W st=true):stays W st:=fun p hp=>ziE (List.all_eq_true.mp h p hp)
noncomputable def zdt(W:Wk)(g:MG)(m:MS):List D->Rho->Sto->Option (Fl×Sto)
 | [],ρ,st=>if walked W st=true then some (.nx ρ,st) else none
 | d::ds,ρ,st=>if walked W st=true then (g d ρ st).bind fun (ρ1,s1)=>(m ρ1 s1).bind fun (f,s2)=>match f with
   | .nx ρ2=>zdt W g m ds ρ2 s2
   | .ct ρ2=>zdt W g m ds ρ2 s2
   | .bk ρ2=>some (.nx ρ2,s2)
   | .rt d=>some (.rt d,s2) else none
noncomputable def mFor(mi:MI)(g:MG)(m:MS):MS:=fun ρ st=>(mi ρ st).bind fun (W,s)=>zdt W g m W.ds ρ s
theorem zm2{tg iter:Expr}(hp:PassesOwn (model X.prog X.w) X.A X.env X.xe)(hc:X.calm=true)(hi:SI X tg iter mi)(hg:SG X tg mg)(hb:SSs X body ms)
   (hs:∀ x,foldedSetIterable iter X.env x=pure x:=by intro _;rfl):SS X (.For tg iter body [] pos) (mFor mi mg ms):=PS.imp (znq hp hc hi hg hb hs) fun N σ H h=>by
 obtain⟨ρ,st,io,f,st',E,S,e,w⟩:=zca.mp h;obtain⟨⟨W,s1⟩,e1,e⟩:=zad e;refine⟨ρ,st,io,W,s1,E,S,e1,fun J H1 k1 X1 S1 IO=>?_⟩;refine⟨fun i n σ2 H2=>n=W.ds.length - i/\∃ ρ2 s2 k2,Ext (io++k1) k2 H1 H2/\StR X.K H2 ((io++k1)++k2) s2/\EnvR X.K H2 ((io++k1)++k2) σ2 ρ2/\zdt W mg ms (W.ds.drop i) ρ2 s2=some (f,st'),
   ⟨_,rfl,ρ,s1,[],Ext.refl,by rw[Ah];exact S1,by rw[Ah];exact E.ext S X1,by rw[C5];exact e⟩,?_⟩
 rintro i n σ2 H2 ⟨rfl,ρ2,s2,k2,X2,S2,E2,e2⟩;have w2:Wn X.K ((io++k1)++k2) H2 st' N f:=(w.on X1 S1).on X2 S2
 cases hd:W.ds[i]? with
 | none =>
   have hl:W.ds.length<=i:=List.getElem?_eq_none_iff.mp hd;rw[DZ hl] at e2;obtain⟨hw,e2⟩:=zam e2;cases e2;refine .inl ⟨?_,w2 σ2 H2 [] Ext.refl S2.nil (by rw[Ah];exact E2)⟩
   -- the end may lie behind
   by_cases hi:i=W.ds.length
   . rw[hi];exact IO.stop H2 k2 _ X2 S2 (zb8 hw)
   . exact IO.stop' H2 k2 _ i hl X2 S2 (zb8 hw)
 | some d =>
   have hl:i < W.ds.length:=(List.getElem?_eq_some_iff.mp hd).1;have hdr:W.ds.drop i=d::W.ds.drop (i+1):=by
     rw[Dw hl,(List.getElem?_eq_some_iff.mp hd).2]
   rw[hdr] at e2;obtain⟨hw,e2⟩:=zam e2;obtain⟨⟨ρ3,s3⟩,e3,e2⟩:=zad e2;obtain⟨⟨f4,s4⟩,e4,e2⟩:=zad e2;obtain⟨go,yl⟩:=IO.go i d H2 k2 s2 hd X2 S2 (zb8 hw);refine .inr ⟨go,fun σ5 H5=>∃ ρ5 s5 k5,Ext (io++k1) k5 H1 H5/\StR X.K H5 ((io++k1)++k5) s5/\EnvR X.K H5 ((io++k1)++k5) σ5 ρ5/\zdt W mg ms (W.ds.drop (i+1)) ρ5 s5=some (f,st'),
     fun σ5 H5 h5=>⟨W.ds.length - (i+1),by omega,rfl,h5⟩,fun x H' y=>?_⟩
   obtain⟨X3,S3,R3⟩:=yl x H' y;have X23:Ext (io++k1) k2 H1 H':=(X2.trans S2 X3).app;refine⟨d,ρ2,s2,(io++k1)++k2,ρ3,s3,R3,?_,S3,e3,fun σ6 H6 k6 X6 S6 E6=>?_⟩
   . have:=E2.ext S2 X3;rw[Ah] at this;exact this
   . refine zjw E6 S6 e4 ?_;have X26:=X23.trans S3 X6;have S6':StR X.K H6 ((io++k1)++(k2++k6)) s3:=by rw[<-Al];exact S6
     have fin:∀ {ρ7:Rho},zdt W mg ms (W.ds.drop (i+1)) ρ7 s4=some (f,st')->∀ σ7 H7 k7,Ext ((io++k1)++k2++k6) k7 H6 H7->StR X.K H7 ((io++k1)++k2++k6++k7) s4->EnvR X.K H7 ((io++k1)++k2++k6++k7) σ7 ρ7 ->
         ∃ ρ5 s5 k5,Ext (io++k1) k5 H1 H7/\StR X.K H7 ((io++k1)++k5) s5/\EnvR X.K H7 ((io++k1)++k5) σ7 ρ5/\zdt W mg ms (W.ds.drop (i+1)) ρ5 s5=some (f,st'):=by
       intro ρ7 e7 σ7 H7 k7 X7 S7 E7;rw[Al (io++k1)] at X7;rw[Al (io++k1),Al (io++k1)] at S7 E7;exact⟨ρ7,s4,(k2++k6)++k7,X26.trans S6' X7,S7,E7,e7⟩
     cases f4 with
     | nx ρ7=>exact fin e2
     | ct ρ7=>exact fin e2
     | bk ρ7 =>
       cases e2;exact ((w.on X1 S1).on X23 S3).on X6 S6
     | rt dd =>
       cases e2;exact ((w.on X1 S1).on X23 S3).on X6 S6
end
section
variable {X:Cx} {e a b c:Expr} {es:List Expr} {st1 st2:Stmt} {rest body orelse:List Stmt} {pos:Pos} {m ma mb mc:ME} {mt mu:MT} {mm:MA} {ms mq mr:MS} {mg:MG} {mgs:MGs} {mi:MI}
variable {K:Ab} {H H1 H2:Hp} {io ka kb:List Addr} {st st':Sto}
theorem zcq{ρ:Rho}{x:D}{xs:List D}{s s1 s2:Sto}(h1:m ρ s=some (x,s1))(h2:mm ρ s1=some (xs,s2)):zab m mm ρ s=some (x::xs,s2):=by
 unfold zab;rw[h1];show FH (mm ρ s1) _=_;rw[h2];rfl
noncomputable def zba(st:Sto)(n:Nat):Option (List D):=match st[n]? with
 | some (.lst ds)=>some ds
 | some (.fz ds)=>some ds
 | _=>none
theorem zaW{n:Nat}{p:Addr}{ds:List D}(S:StR K H io st)(hn:io[n]?=some p)(h:zba st n=some ds):∃ xs,SqL K H p xs/\Reps K H io xs ds:=by
 unfold zba at h
 split at h
 . rename_i o he;cases h;obtain⟨xs,e,r⟩:=S.ob n p _ hn he;exact⟨xs,SqL.of e,r⟩
 . rename_i o he;cases h;obtain⟨ob,xs,e,r⟩:=S.ob n p _ hn he;exact⟨xs,.inl (.inr ⟨ob,e⟩),r⟩
 . cases h
theorem zcr{n:Nat}{ds:List D}{W:Wk}(hm:(n,ds)∈W.g)(h:stays W st):zba st n=some ds:=by
 unfold zba
 rcases h _ hm with h | h
 . have h:st[n]?=some (.lst ds):=h;rw[h]
 . have h:st[n]?=some (.fz ds):=h;rw[h]
noncomputable def mWL(m:ME):MI:=fun ρ st=>(m ρ st).bind fun (d,s)=>match d with
 | .ref n=>(zba s n).map fun ds=>(⟨ds,[(n,ds)]⟩,s)
 | _=>none
noncomputable def mWT(m:ME):MI:=fun ρ st=>(m ρ st).bind fun (d,s)=>match d with
 | .tup ds=>some (⟨ds,[]⟩,s)
 | _=>none
theorem zbp{io ka:List Addr}{n:Nat}{p:Addr}(h:io[n]?=some p):(io++ka)[n]?=some p:=by
 rw[As (List.getElem?_eq_some_iff.mp h).1];exact h
theorem zof{n:Nat}{p:Addr}{ds:List D}(hn:io[n]?=some p):ItOk K H io ⟨ds,[(n,ds)]⟩ (Itl K p) where
 go:=fun i d H1 k1 s hd X1 S1 hs=>by
   obtain⟨xs,hx,r⟩:=zaW S1 (zbp hn) (zcr An hs);obtain⟨v,hv,rv⟩:=r.get hd;refine⟨⟨xs,v,hx,hv⟩,fun x H' y=>?_⟩;obtain⟨rfl,y⟩:=y;have e:=y xs hx;rw[hv] at e;cases e;exact⟨Ext.refl,S1,rv⟩
 stop:=fun H1 k1 s X1 S1 hs=>by
   obtain⟨xs,hx,r⟩:=zaW S1 (zbp hn) (zcr An hs);exact⟨xs,hx,by rw[r.length];exact Af _⟩
 stop':=fun H1 k1 s i hi X1 S1 hs=>by
   obtain⟨xs,hx,r⟩:=zaW S1 (zbp hn) (zcr An hs);exact⟨xs,hx,by rw[r.length];exact hi⟩
theorem zlu{tg l:Expr}(hl:SE X l m):SI X tg l (mWL m):=PI.imp (zlQ hl) <| by
 rintro σ H R ⟨ρ,st,io,W,st',E,S,e,k⟩;obtain⟨⟨d,s1⟩,e1,e⟩:=zad e;dsimp only at e
 split at e
 . rename_i n;obtain⟨ds,e2,e⟩:=zag e;cases e;refine⟨ρ,st,io,_,_,E,S,e1,fun v H1 k1 X1 S1 R1=>?_⟩;obtain⟨p,rfl,hn⟩:=R1;obtain⟨xs,hx,r⟩:=zaW S1 hn e2;exact⟨p,rfl,⟨xs,hx⟩,k _ H1 k1 X1 S1 (zof hn)⟩
 . cases e
theorem zoe{st:Sto}{p:Addr}{xs:List V}{ds:List D}(S:StR K H io st)(hp:H p=some (.tup xs))(r:Reps K H io xs ds):ItOk K H io ⟨ds,[]⟩ (Itt K p) where
 go:=fun i d H1 k1 s hd X1 S1 hs=>by
   obtain⟨v,hv,rv⟩:=(r.ext S X1).get hd;have hx:SqT K H1 p xs:=SqT.of (X1.sqT S p xs hp);refine⟨⟨xs,v,hx,hv⟩,fun x H' y=>?_⟩;obtain⟨rfl,y⟩:=y;have e:=y xs hx;rw[hv] at e;cases e;exact⟨Ext.refl,S1,rv⟩
 stop:=fun H1 k1 s X1 S1 hs=>⟨xs,SqT.of (X1.sqT S p xs hp),by rw[r.length];exact Af _⟩
 stop':=fun H1 k1 s i hi X1 S1 hs=>⟨xs,SqT.of (X1.sqT S p xs hp),by rw[r.length];exact hi⟩
theorem zm9{tg l:Expr}(hl:SE X l m):SI X tg l (mWT m):=PI.imp (zns hl) <| by
 rintro σ H R ⟨ρ,st,io,W,st',E,S,e,k⟩;obtain⟨⟨d,s1⟩,e1,e⟩:=zad e;dsimp only at e
 split at e
 . rename_i ds;cases e;refine⟨ρ,st,io,_,_,E,S,e1,fun v H1 k1 X1 S1 R1=>?_⟩;obtain⟨p,xs,rfl,hp,r⟩:=R1;exact⟨p,rfl,⟨xs,SqT.of hp⟩,k _ H1 k1 X1 S1 (zoe S1 hp r)⟩
 . cases e
noncomputable def run(lo:Int)(n:Nat):List D:=(AQ n).map fun (k:Nat)=>D.int (lo+(k:Int))
theorem zbK(lo:Int)(n:Nat):(run lo n).length=n:=by unfold run;rw[Aj,CB]
theorem run_get{lo:Int}{n i:Nat}{d:D}(h:(run lo n)[i]?=some d):i < n/\d=.int (lo+(i:Int)):=by
 have hi:i < n:=by
   have q:=(List.getElem?_eq_some_iff.mp h).1
   rwa [zbK] at q
 unfold run at h;rw[AE,Ep hi] at h;exact⟨hi,(Ay h).symm⟩
theorem zmo(lo:Int)(n:Nat):ItOk K H io ⟨run lo n,[]⟩ (Itr lo n) where
 go:=fun i d H1 k1 s hd X1 S1 hs=>by
   obtain⟨hi,rfl⟩:=run_get hd;refine⟨hi,fun x H' y=>?_⟩;obtain⟨rfl,rfl⟩:=y;exact⟨Ext.refl,S1,rfl⟩
 stop:=fun H1 k1 s X1 S1 hs=>by
   show n<=_;rw[zbK];exact Af _
 stop':=fun H1 k1 s i hi X1 S1 hs=>by
   show n<=i;have hi:(run lo n).length<=i:=hi
   rwa [zbK] at hi
noncomputable def small(j:Int):Bool:=decide (-(2 ^ 62)<=j)&&decide (j < 2 ^ 62)
theorem zbU{j:Int}(h:small j=true):-(2 ^ 62)<=j/\j < 2 ^ 62:=by
 unfold small at h;rw[Ao] at h;exact⟨of_decide_eq_true h.1,of_decide_eq_true h.2⟩
noncomputable def mR1(m:ME):MI:=fun ρ st=>(m ρ st).bind fun (d,s)=>match d with
 | .int j=>if small j=true then some (⟨run 0 j.toNat,[]⟩,s) else none
 | _=>none
theorem zcb{tg a:Expr}{p pos:Pos}(hg:Gl X "range")(hm:X.mg "range"=none)(ha:SE X a m)(hs:starEach [a] X.env=[(false,eval a X.env)]:=by rfl):SI X tg (.Call (.Name "range" p) [a] [] pos) (mR1 m) :=
 PI.imp (zig hg hm (zaa ha zae hs) hs) <| by
   rintro σ H R ⟨ρ,st,io,W,st',E,S,e,k⟩;obtain⟨⟨d,s1⟩,e1,e⟩:=zad e;dsimp only at e
   split at e
   . rename_i j;obtain⟨hj,e⟩:=zam e;cases e;refine⟨ρ,st,io,[.int j],_,E,S,(zcq e1 rfl),fun vs H1 k1 X1 S1 R1=>?_⟩;obtain⟨v,rfl,rfl⟩:=R1.one;exact⟨j,rfl,(zbU hj).1,(zbU hj).2,k _ H1 k1 X1 S1 (zmo 0 _)⟩
   . cases e
noncomputable def mR2(m n:ME):MI:=fun ρ st=>(m ρ st).bind fun (d,s)=>(n ρ s).bind fun (d2,s2)=>match d,d2 with
 | .int i,.int j=>if (small i&&small j)=true then some (⟨run i (j - i).toNat,[]⟩,s2) else none
 | _,_=>none
theorem zfh{tg a b:Expr}{p pos:Pos}(hg:Gl X "range")(hm:X.mg "range"=none)(ha:SE X a ma)(hb:SE X b mb)(hs:starEach [a,b] X.env=[(false,eval a X.env),(false,eval b X.env)]:=by rfl)(hs2:starEach [b] X.env=[(false,eval b X.env)]:=by rfl):SI X tg (.Call (.Name "range" p) [a,b] [] pos) (mR2 ma mb) :=
 PI.imp (zif hg hm (zaa ha (zaa hb zae hs2) (by rw[hs,hs2])) hs hs2) <| by
   rintro σ H R ⟨ρ,st,io,W,st',E,S,e,k⟩;obtain⟨⟨d,s1⟩,e1,e⟩:=zad e;obtain⟨⟨d2,s2⟩,e2,e⟩:=zad e
   cases d with
   | int i =>
     cases d2 with
     | int j =>
       obtain⟨hj,e⟩:=zam e;cases e;rw[Ao] at hj;refine⟨ρ,st,io,[.int i,.int j],_,E,S,(zcq e1 (zcq e2 rfl)),fun vs H1 k1 X1 S1 R1=>?_⟩;obtain⟨v,u,rfl,rfl,rfl⟩:=R1.two;exact⟨i,j,rfl,⟨(zbU hj.1).1,(zbU hj.1).2,(zbU hj.2).1,(zbU hj.2).2⟩,k _ H1 k1 X1 S1 (zmo i _)⟩
     | _=>cases e
   | _=>cases e
end
noncomputable def rho(n:Nat)(ds:List D):Rho:=ds.map some++BW (n - ds.length) none
noncomputable def fnM(n:Nat)(m:MS):GN:=fun ds st=>(m (rho n ds) st).bind fun (f,s)=>match f with
 | .rt d=>some (d,s)
 | .nx _=>some (.non,s)
 | _=>none
theorem ziH{K:Ab}{H:Hp}{io:List Addr}{N:List Str}{vs:List V}{ds:List D}(R:Reps K H io vs ds):EnvR K H io (start N vs) (rho N.length ds):=by
 have hl:=R.length;refine⟨by unfold start rho;simp[hl],fun i d h=>?_⟩;unfold rho at h;unfold start
 by_cases hi:i < ds.length
 . rw[As (by simpa using hi),AE] at h
   cases e:ds[i]? with
   | none=>rw[e] at h;cases h
   | some d' =>
     rw[e] at h
     cases (Ay (Ay h))
     obtain⟨v,hv,r⟩:=R.get e;exact⟨v,by rw[As (by simpa[hl] using hi),AE,hv];rfl,r⟩
 . rw[AL (by simpa using hi),B5] at h
   split at h <;> cases h
section
variable {P:Program} {w:World} {K:Ab} {mg:Str->Option Value} {base:Heap}
theorem fn_m{x qual:Str}{st:Stmt}{f:Addr}{fd:FuncData}{N ps:List Str}{k:Nat}{m:MS}(F:Fun K x qual st f fd)(S:FnScope N ps (zar st))
   (hbody:∀ (cdv:Value) (A:Around) (outer:List Env) (s:Shared) (H:Hp) (E:XK),Room k (A.deeper (envOfC qual (zar st) s.heap.objs.size f cdv)) ->
     SSs (cxOf CX0 P w K mg base N qual (zar st) f cdv A outer s H E).nox (zbQ st) m):FnOk P w K mg base CX0 (k+1) f fd ps (spM K ps.length (fnM N.length m)):=by
 refine F.ok S (fun vs H Q E ⟨_,_,_,_,_,h,_⟩=>h) fun cdv A outer s H vs Q E hr h=>?_;obtain⟨ds,st0,io,d,st',hl,R,SR,e,k'⟩:=h;refine⟨_,hbody cdv A outer s H E hr,?_⟩;obtain⟨⟨fl,s1⟩,e1,e⟩:=zad e;refine zjw (ziH R) SR e1 ?_
 cases fl with
 | rt dd=>cases e;exact k'
 | nx ρ=>cases e;exact fun σ' H' ka X' S' E'=>k' .non H' ka X' S' rfl
 | bk ρ=>cases e
 | ct ρ=>cases e
end
noncomputable def clOf(cells:List (Str×Addr)):List (Str×NameKind)->List (Str×Addr)->List (Str×Addr)
 | [],acc=>acc
 | (n,k)::r,acc=>if k==.free then clOf cells r ((n,(cells.lookup n).getD 0)::acc) else clOf cells r acc
theorem zdd{env:Env}(f:Str×NameKind->List (Str×Addr)->Sem (ForInStep (List (Str×Addr))))
   (hf:∀ n k acc,f (n,k) acc=if k==.free then (do let c <-cellOf env n;pure (.yield ((n,c)::acc))) else pure (.yield acc)) :
   ∀ (names:List (Str×NameKind)) (acc:List (Str×Addr)),(∀ n,(n,AI)∈names->∃ c,env.cells.lookup n=some c)->(forIn names acc f:Sem (List (Str×Addr)))=pure (clOf env.cells names acc)
 | [],acc,_=>by rw[Cd];rfl
 | (n,k)::r,acc,h=>by
   rw[CQ,hf];unfold clOf
   cases hk:k==AI with
   | false =>
     rw[if_neg (by simp),if_neg (by simp)];have:=zdd f hf r acc fun m hm=>h m (Ai _ hm);rw[<-this];rfl
   | true =>
     rw[if_pos rfl,if_pos rfl];have hk':k=AI:=by simpa using hk
     obtain⟨c,hc⟩:=h n (by rw[hk'];exact An);have:=zdd f hf r ((n,c)::acc) fun m hm=>h m (Ai _ hm);rw[hc,DE,<-this];unfold cellOf;rw[hc];rfl
theorem zhp{env:Env}{scope:Scope}(h:∀ n,(n,AI)∈scope.names->∃ c,env.cells.lookup n=some c):closureFor scope env=pure (clOf env.cells scope.names []):=by
 unfold closureFor;have:=zdd (env:=env) (fun x acc=>(match x with | (n,k)=>if k==.free then (do let c <-cellOf env n;pure (.yield ((n,c)::acc))) else pure (.yield acc))) (fun _ _ _=>rfl) scope.names [] h;refine Eq.trans ?_ this;simp only[bind_pure]
theorem ze6{cells:List (Str×Addr)}:∀ {names:List (Str×NameKind)} {acc:List (Str×Addr)} {p:Str×Addr},p∈clOf cells names acc->p∈acc\/((p.1,AI)∈names/\p.2=(cells.lookup p.1).getD 0)
 | [],acc,p,h=>.inl h
 | (n,k)::r,acc,p,h=>by
   unfold clOf at h
   cases hk:k==AI with
   | false =>
     rw[hk,if_neg (by simp)] at h
     rcases ze6 h with h | h
     . exact .inl h
     . exact .inr ⟨Ai _ h.1,h.2⟩
   | true =>
     rw[hk,if_pos rfl] at h;have hk':k=AI:=by simpa using hk
     rcases ze6 h with h | h
     . rcases List.mem_cons.mp h with h | h
       . subst h;exact .inr ⟨by rw[hk'];exact An,rfl⟩
       . exact .inl h
     . exact .inr ⟨Ai _ h.1,h.2⟩
theorem zd7{cells:List (Str×Addr)}:∀ {names:List (Str×NameKind)} {acc:List (Str×Addr)} {x:Str},((x,AI)∈names\/(acc.lookup x).isSome=true)->((clOf cells names acc).lookup x).isSome=true
 | [],acc,x,h=>by
   rcases h with h | h
   . exact absurd h (by simp)
   . exact h
 | (n,k)::r,acc,x,h=>by
   unfold clOf
   cases hk:k==AI with
   | false =>
     rw[if_neg (by simp)];refine zd7 ?_
     rcases h with h | h
     . rcases List.mem_cons.mp h with h | h
       . have:k=AI:=(CF h).2.symm;rw[this] at hk;exact absurd hk (by decide)
       . exact .inl h
     . exact .inr h
   | true =>
     rw[if_pos rfl];refine zd7 ?_
     by_cases hx:x=n
     . subst hx;exact .inr (by simp)
     . rcases h with h | h
       . rcases List.mem_cons.mp h with h | h
         . exact absurd (CF h).1 hx
         . exact .inl h
       . refine .inr ?_;rw[Bf];have:(x==n)=false:=by simpa using hx
         rw[this];exact h
theorem zdY:∀ {names:List (Str×NameKind)} {n:Nat} {acc:List (Str×Addr)} {p:Str×Addr},p∈cellsFrom n names acc->p∈acc\/n<=p.2
 | [],_,_,_,h=>.inl h
 | (x,k)::r,n,acc,p,h=>by
   unfold cellsFrom at h
   split at h
   . rcases zdY h with h | h
     . rcases List.mem_cons.mp h with h | h
       . subst h;exact .inr (Af _)
       . exact .inl h
     . exact .inr (BR h)
   . exact zdY h
theorem zcw:∀ {names:List (Str×NameKind)} {n:Nat} {acc:List (Str×Addr)},(acc.Pairwise fun x y=>x.2≠y.2)->(∀ p∈acc,p.2 < n)->(cellsFrom n names acc).Pairwise fun x y=>x.2≠y.2
 | [],_,_,h,_=>h
 | (x,k)::r,n,acc,h,hl=>by
   unfold cellsFrom
   split
   . refine zcw (List.pairwise_cons.mpr ⟨fun y hy e=>?_,h⟩) fun p hp=>?_
     . have q:=hl y hy;have e':n=y.2:=e;rw[<-e'] at q;exact AU _ q
     . rcases List.mem_cons.mp hp with rfl | hp
       . exact CK _
       . exact CC (hl p hp)
   . exact zcw h hl
theorem zgR:∀ {names:List (Str×NameKind)} {n:Nat} {acc:List (Str×Addr)} {x:Str},((x,AW)∈names\/(acc.lookup x).isSome=true)->((cellsFrom n names acc).lookup x).isSome=true
 | [],n,acc,x,h=>by
   rcases h with h | h
   . exact absurd h (by simp)
   . exact h
 | (m,k)::r,n,acc,x,h=>by
   unfold cellsFrom
   cases hk:k==AW with
   | false =>
     rw[if_neg (by simp)];refine zgR ?_
     rcases h with h | h
     . rcases List.mem_cons.mp h with h | h
       . have:k=AW:=(CF h).2.symm;rw[this] at hk;exact absurd hk (by decide)
       . exact .inl h
     . exact .inr h
   | true =>
     rw[if_pos rfl];refine zgR ?_
     by_cases hx:x=m
     . subst hx;exact .inr (by simp)
     . rcases h with h | h
       . rcases List.mem_cons.mp h with h | h
         . exact absurd (CF h).1 hx
         . exact .inl h
       . refine .inr ?_;rw[Bf];have:(x==m)=false:=by simpa using hx
         rw[this];exact h
theorem zdX:∀ {names:List (Str×NameKind)} {n:Nat} {acc:List (Str×Addr)} {x:Str},(x,AW) ∉ names->(cellsFrom n names acc).lookup x=acc.lookup x
 | [],_,_,_,_=>rfl
 | (m,k)::r,n,acc,x,h=>by
   unfold cellsFrom
   cases hk:k==AW with
   | false=>rw[if_neg (by simp)];exact zdX fun q=>h (Ai _ q)
   | true =>
     rw[if_pos rfl,zdX fun q=>h (Ai _ q),Bf];have hk':k=AW:=by simpa using hk
     have:(x==m)=false:=by
       cases e:x==m with
       | false=>rfl
       | true=>exact absurd (by rw[hk',show x=m by simpa using e];exact An) h
     rw[this]
theorem zgS:∀ {names:List (Str×NameKind)} {n:Nat} {acc:List (Str×Addr)} {x:Str} {c:Addr},(x,AW)∈names->(cellsFrom n names acc).lookup x=some c->n<=c
 | [],_,_,_,_,h,_=>absurd h (by simp)
 | (m,k)::r,n,acc,x,c,h,e=>by
   unfold cellsFrom at e
   cases hk:k==AW with
   | false =>
     rw[hk,if_neg (by simp)] at e
     rcases List.mem_cons.mp h with h | h
     . have:k=AW:=(CF h).2.symm;rw[this] at hk;exact absurd hk (by decide)
     . exact zgS h e
   | true =>
     rw[hk,if_pos rfl] at e
     by_cases hr:(x,AW)∈r
     . exact BR (zgS hr e)
     . rw[zdX hr] at e
       rcases List.mem_cons.mp h with h | h
       . have hx:x=m:=(CF h).1;subst hx;rw[List.lookup_cons_self] at e;exact Nat.le_of_eq (Ay e)
       . exact absurd h hr
theorem zdT:∀ {names:List (Str×NameKind)} {h:Heap} {acc:List (Str×Addr)} {p:Str×Addr},p∈cellsFrom h.objs.size names acc->p∈acc\/(pushCells h names).IsCell p.2 none
 | [],_,_,_,h=>.inl h
 | (x,k)::r,h,acc,p,e=>by
   unfold cellsFrom at e;unfold pushCells
   split at e
   . rename_i hk;rw[if_pos hk];have sz:(h.push { cls:=.type "cell",data:=.cell none }).objs.size=h.objs.size+1:=Bk ..;rw[<-sz] at e
     rcases zdT e with q | q
     . rcases List.mem_cons.mp q with q | q
       . subst q;exact .inr ⟨_,CS _ _ _ _ (Ar _ rfl),rfl⟩
       . exact .inl q
     . exact .inr q
   . rename_i hk;rw[if_neg hk];exact zdT e
noncomputable def zcg(X:Cx)(scope:Scope)(N':List Str)(cells:List (Str×Addr))(C:Addr)(s0:Shared)(H0:Hp)(ex:List Addr):Cx :=
 { X with N:=N',s₀:=s0,H₀:=H0,env:=compEnvC scope cells C X.env,outer:=X.stack,ex:=ex,fn:=fun x=>scope.names.any fun p=>p.1==x&&p.2==.cell,pn:=[],xe:=fun _ _=>False }
structure CompS(X:Cx)(scope:Scope)(N':List Str)(nt:Nat)(fr:List Nat):Prop where
 kind:scope.kind=.function
 nd:(scope.names.map (·.1)).Nodup
 len:N'.length=nt+fr.length
 cap:∀ (i j:Nat) (x:Str),fr[i]?=some j->N'[nt+i]?=some x->X.N[j]?=some x/\(x,AI)∈scope.names
 out:∀ x,(x,AI)∈scope.names->X.env.kindOf x=some .cell\/X.env.kindOf x=some .free
theorem lookup_mem:∀ {l:List (Str×NameKind)} {x:Str} {k:NameKind},(l.map (·.1)).Nodup->(x,k)∈l->l.lookup x=some k
 | [],_,_,_,h=>absurd h (by simp)
 | (n,j)::r,x,k,nd,h=>by
   rw[Ax,DM] at nd;rw[Bf]
   rcases List.mem_cons.mp h with h | h
   . cases h;simp
   . have:x≠n:=fun e=>nd.1 (by rw[<-e];exact List.mem_map.mpr ⟨_,h,rfl⟩);have:(x==n)=false:=by simpa using this
     rw[this];exact lookup_mem nd.2 h
theorem zbl{env:Env}:∀ {l:List (Str×NameKind)} {x:Str} {k:NameKind},(l.map fun (n,k)=>if (k==AI&&env.scope.kind==.function&&env.kindOf n==some .cell) then (n,AW) else (n,k)).lookup x=some k ->
   ∃ k',l.lookup x=some k'/\(k'=k\/k'=.free)
 | [],_,_,h=>by simp at h
 | (n,j)::r,x,k,h=>by
   rw[Ax] at h;dsimp only at h
   by_cases hc:(j==AI&&env.scope.kind==.function&&env.kindOf n==some .cell)=true
   . rw[if_pos hc,Bf] at h;rw[Bf]
     cases hx:x==n with
     | true =>
       have:j=.free:=by
         rw[Ao,Ao] at hc;simpa using hc.1.1
       exact⟨j,rfl,.inr this⟩
     | false=>rw[hx] at h;exact zbl h
   . rw[if_neg hc,Bf] at h;rw[Bf]
     cases hx:x==n with
     | true=>rw[hx] at h;cases h;exact⟨j,rfl,.inl rfl⟩
     | false=>rw[hx] at h;exact zbl h
theorem zbY{env:Env}:∀ {l:List (Str×NameKind)} {x:Str},l.lookup x=some .free ->
   (l.map fun (n,k)=>if (k==AI&&env.scope.kind==.function&&env.kindOf n==some .cell) then (n,AW) else (n,k)).lookup x=some .cell \/
   (l.map fun (n,k)=>if (k==AI&&env.scope.kind==.function&&env.kindOf n==some .cell) then (n,AW) else (n,k)).lookup x=some .free
 | [],_,h=>by simp at h
 | (n,j)::r,x,h=>by
   rw[Ax];dsimp only;rw[Bf] at h
   by_cases hc:(j==AI&&env.scope.kind==.function&&env.kindOf n==some .cell)=true
   . rw[if_pos hc,Bf]
     cases hx:x==n with
     | true=>exact .inl rfl
     | false=>rw[hx] at h;exact zbY h
   . rw[if_neg hc,Bf]
     cases hx:x==n with
     | true=>rw[hx] at h;cases h;exact .inr rfl
     | false=>rw[hx] at h;exact zbY h
section
variable {X:Cx} {scope:Scope} {N':List Str} {nt:Nat} {fr:List Nat} {pins:List (Addr×Obj)} {σ:L2.St} {H:Hp} {s:Shared}
noncomputable abbrev clX (X:Cx) (scope:Scope):List (Str×Addr):=clOf X.env.cells scope.names []
noncomputable abbrev zch (X:Cx) (scope:Scope) (C:Nat):List (Str×Addr):=cellsFrom (C+1) scope.names (clX X scope)
theorem zhq(Z:CompS X scope N' nt fr)(ok:X.Ok){p:Str×Addr}(h:p∈clX X scope):(p.1,AI)∈scope.names/\X.env.cells.lookup p.1=some p.2:=by
 rcases ze6 h with h | ⟨h1,h2⟩
 . exact absurd h (by simp)
 . obtain⟨c,hc⟩:=ok.has p.1 (Z.out p.1 h1);rw[hc,DE] at h2;exact⟨h1,by rw[hc,h2]⟩
theorem ziL(Z:CompS X scope N' nt fr)(ok:X.Ok){x:Str}(h:(x,AI)∈scope.names):∃ c,X.env.cells.lookup x=some c/\∀ C,(zch X scope C).lookup x=some c:=by
 obtain⟨c,hc⟩:=ok.has x (Z.out x h);refine⟨c,hc,fun C=>?_⟩;have no:(x,AW) ∉ scope.names:=fun q=>by
   have a:=lookup_mem Z.nd h;have b:=lookup_mem Z.nd q;rw[a] at b;cases b
 rw[zdX no];have q:=zd7 (cells:=X.env.cells) (acc:=[]) (.inl h);obtain⟨c',e⟩:=Option.isSome_iff_exists.mp q;have:=(zhq Z ok (AV e)).2;have this:X.env.cells.lookup x=some c':=this;rw[hc] at this;rw[e,this]
theorem zkL(Z:CompS X scope N' nt fr)(ok:X.Ok):(clX X scope).Pairwise fun x y=>x.2≠y.2:=by
 have gen:∀ (names:List (Str×NameKind)) (acc:List (Str×Addr)),(∀ n,(n,AI)∈names->∃ c,X.env.cells.lookup n=some c)->(names.map (·.1)).Nodup->(∀ p∈acc,p.1 ∉ names.map (·.1)/\X.env.cells.lookup p.1=some p.2)->(acc.Pairwise fun x y=>x.2≠y.2) ->
     (clOf X.env.cells names acc).Pairwise fun x y=>x.2≠y.2:=by
   intro names
   induction names with
   | nil=>intro acc _ _ _ h;exact h
   | cons p r ih =>
     intro acc hf nd ha hp;obtain⟨n,k⟩:=p;rw[Ax,DM] at nd;unfold clOf
     cases hk:k==AI with
     | false =>
       rw[if_neg (by simp)];exact ih acc (fun m hm=>hf m (Ai _ hm)) nd.2 (fun q hq=>⟨fun z=>(ha q hq).1 (by rw[Ax];exact Ai _ z),(ha q hq).2⟩) hp
     | true =>
       rw[if_pos rfl];have hk':k=AI:=by simpa using hk
       obtain⟨c,hc⟩:=hf n (by rw[hk'];exact An);refine ih _ (fun m hm=>hf m (Ai _ hm)) nd.2 (fun q hq=>?_) (List.pairwise_cons.mpr ⟨fun y hy e=>?_,hp⟩)
       . rcases List.mem_cons.mp hq with rfl | hq
         . exact⟨nd.1,by rw[hc];rfl⟩
         . exact⟨fun z=>(ha q hq).1 (by rw[Ax];exact Ai _ z),(ha q hq).2⟩
       . have e1:(X.env.cells.lookup n).getD 0=y.2:=e;rw[hc,DE] at e1;have e2:=(ha y hy).2;rw[<-e1] at e2;have:=ok.inj _ _ _ e2 hc;exact (ha y hy).1 (by rw[this,Ax];exact An)
 exact gen scope.names [] (fun n hn=>ok.has n (Z.out n hn)) Z.nd (fun p hp=>absurd hp (by simp)) Dr
theorem zkK{M:Model}{A:Around}{E:Value->Shared->Prop}{env:Env}{cl:List (Str×Addr)}{Q:Env->Shared->Prop}
   (h:Q { scope:=scope,locals:=s.heap.objs.size,globals:=env.globals,cells:=cellsFrom (s.heap.objs.size+1) scope.names cl,qual:=env.qual,func:=none,code:=env.code,frame:=env.frame,builtins:=env.builtins }
     { s with heap:=pushCells (s.heap.push { cls:=.type "dict",data:=.dict #[] }) scope.names }) :
   wpAny M A (newFunctionEnv scope env.globals cl [] env.qual none .none (some env)) Q E s:=by
 simp only[newFunctionEnv,Ey,if_true];refine Aa (wpAny_alloc ?_);refine Aa (wpAny_layCells _ (fun name kind cells=>by cases hkc:kind==AW <;> simp[hkc]) _ _ _ _ ?_);rw[show ({ s with heap:=s.heap.push { cls:=.type "dict",data:=.dict #[] } }:Shared).heap.objs.size=s.heap.objs.size+1 from Bk ..];rw[Cd];exact Aa (Ae (Ae h))
noncomputable def ziK(σ:L2.St)(nt:Nat)(fr:List Nat):L2.St:=BW nt none++fr.map fun (j:Nat)=>(σ[j]?).join
theorem zkx{fp:List Addr}(Z:CompS X scope N' nt fr)(I:Inv X pins σ H s)(hf:∀ b∈fp,FpOk X pins H b)(hlt:∀ b∈fp,b < s.heap.objs.size) :
   Inv (zcg X scope N' (zch X scope s.heap.objs.size) s.heap.objs.size s H fp) [] (ziK σ nt fr) H { s with heap:=pushCells (s.heap.push { cls:=.type "dict",data:=.dict #[] }) scope.names }:=by
 have ok:=I.ok;have kp:∀ b o,s.heap.get? b=some o->(pushCells (s.heap.push { cls:=.type "dict",data:=.dict #[] }) scope.names).get? b=some o:=fun b o e=>CS _ _ b o (Ad _ e);have clt:∀ p∈clX X scope,p.2 < s.heap.objs.size:=fun p hp=>by
   obtain⟨_,e⟩:=zhq Z ok hp;obtain⟨v,q⟩:=I.cell p.1 p.2 e;exact q.lt
 have sz:(s.heap.push { cls:=.type "dict",data:=.dict #[] }).objs.size=s.heap.objs.size+1:=Bk ..;have cells:∀ x c,(zch X scope s.heap.objs.size).lookup x=some c->(X.env.cells.lookup x=some c)\/(s.heap.objs.size+1<=c/\(pushCells (s.heap.push { cls:=.type "dict",data:=.dict #[] }) scope.names).IsCell c none):=fun x c e=>by
   have m:=AV e
   rcases zdY m with h | h
   . exact .inl (zhq Z ok h).2
   . refine .inr ⟨h,?_⟩;have m':(x,c)∈cellsFrom (s.heap.push { cls:=.type "dict",data:=.dict #[] }).objs.size scope.names (clX X scope):=by rw[sz];exact m
     rcases zdT m' with q | q
     . have l:=clt _ q;exact absurd (Ap l (BR h)) (AU _)
     . exact q
 refine⟨⟨ok.mod,Z.kind,ok.glob,ok.blt,Af _,fun x y c h1 h2=>?_,fun x hx=>?_,fun x c h1 h2=>?_,ok.hd,ok.frames,.inl rfl,fun b hb=>?_,I.bs,AC ok.bsz I.sz,fun b o e hb=>?_,fun b hb=>?_,I.stack,I.stkFree⟩,
   rfl,I.bare,Un.kept kp,⟨fun _=>none,?_,fun i x v h1 h2 h3=>?_⟩,fun x c e=>?_,I.hok.fresh (Af _),fun x c e=>?_,fun p hp=>absurd hp (by simp[zcg]),I.hok.kept kp,?_⟩
 . exact name_of_addr (zcw (zkL Z ok) fun p hp=>CC (clt p hp)) (AV h1) (AV h2)
 . have hx:(relabel scope X.env).names.lookup x=some .cell\/(relabel scope X.env).names.lookup x=some .free:=hx;have q:(x,AW)∈scope.names\/(x,AI)∈scope.names:=by
     rcases hx with hx | hx
     . obtain⟨k',e,z | z⟩:=zbl hx
       . subst z;exact .inl (AV e)
       . subst z;exact .inr (AV e)
     . obtain⟨k',e,z | z⟩:=zbl hx
       . subst z;exact .inr (AV e)
       . subst z;exact .inr (AV e)
   refine Option.isSome_iff_exists.mp (zgR (n:=s.heap.objs.size+1) (acc:=clX X scope) ?_)
   rcases q with q | q
   . exact .inl q
   . exact .inr (zd7 (.inl q))
 . have h1:(scope.names.any fun p=>p.1==x&&p.2==AW)=true:=h1;obtain⟨p,hp,e⟩:=List.any_eq_true.mp h1;rw[Ao] at e;have e1:p.1=x:=by simpa using e.1
   have e2:p.2=AW:=by simpa using e.2
   have hm:(x,AW)∈scope.names:=by rw[<-e1,<-e2];exact hp
   exact BR (zgS hm h2)
 . refine⟨AG (hlt b hb),fun x c e z=>?_⟩
   rcases cells x c e with q | ⟨q,_⟩
   . exact (hf b hb).2.2.2.2.1 x c q z
   . have l:=hlt b hb;rw[<-z] at l;exact absurd (Ap l (BR q)) (AU _)
 . rcases (hf b hb).2.2.2.1 with z | z
   . exact ok.noex b o e z
   . exact absurd (Ap (Ak e) (AC ok.bsz z)) (AU _)
 . intro hs
   rcases List.mem_cons.mp (I.stkSub b hs) with e | e
   . exact (hf b hb).2.1 e
   . exact (hf b hb).2.2.1 e
 . exact (Heap.Ns.new s.heap (.type "dict")).keeps (CS _ _)
 . -- a captured name
   have hi:nt<=i:=by
     by_cases hi:i < nt
     . unfold ziK at h2;rw[As (by simpa using hi),B5,if_pos hi] at h2;cases h2
     . omega
   obtain⟨i',rfl⟩:∃ i',i=nt+i':=⟨i - nt,by omega⟩
   unfold ziK at h2;rw[AL (by simp),Cc,Nat.add_sub_cancel_left,AE] at h2
   cases ej:fr[i']? with
   | none=>rw[ej] at h2;cases h2
   | some j =>
     rw[ej] at h2;have h2:(σ[j]?).join=some v:=Ay h2;have h2:σ[j]?=some (some v):=by
       cases q:σ[j]? with
       | none=>rw[q] at h2;cases h2
       | some w=>rw[q] at h2;cases w with
         | none=>cases h2
         | some w=>cases h2;rfl
     obtain⟨hN,hfree⟩:=Z.cap i' j x ej h1;obtain⟨c,hc,hcc⟩:=ziL Z ok hfree;have ho:=Z.out x hfree;obtain⟨m,hn,hl⟩:=I.loc;obtain⟨u,r,l⟩:=hl j x v hN h2 (ho.elim (fun z=>.inr (.inl z)) fun z=>.inr (.inr z));refine⟨u,r,.inr ⟨?_,c,hcc _,?_⟩⟩
     . exact zbY (lookup_mem Z.nd hfree)
     . rcases l with ⟨k,_⟩ | ⟨_,c',e',z⟩
       . rcases ho with q | q
         . rw[k] at q;cases q
         . rw[k] at q;cases q
       . rw[hc] at e';cases e';exact z.keeps kp
 . rcases cells x c e with q | ⟨_,q⟩
   . obtain⟨v,z⟩:=I.cell x c q;exact⟨v,z.keeps kp⟩
   . exact⟨none,q⟩
 . rcases cells x c e with q | ⟨q,_⟩
   . exact I.freeC x c q
   . exact I.hok.fresh (BR q)
 . show _=N'.length;unfold ziK;rw[Z.len,Aq,Cc,Aj]
end
noncomputable abbrev FF:Value->Shared->Prop:=fun _ _=>False
theorem zf9{prog:Program}{w:World}{A:Around}{R:Result->Shared->Prop}{s:Shared}{elt target iter:Expr}{ifs:List Expr}{scope:Scope}{pos:Pos}{it acc:Value}{env:Env}(I:Nat->Shared->Prop)
   (turn:∀ n s,I n s->wpAny (model prog w) A (pyNext it) (fun r s1=>match r with
     | none=>R (.ok .next) s1
     | some v=>wpAny (model prog w) A (letOwnedTupleGo target it v) (fun _ s1=>wpAny (model prog w) A (assign target env v) (fun _ s2 =>
         wpAny (model prog w) A (forIn ifs true fun c r=>if r=true then do let ok <-isTrue c env (eval c env);pure (CT ok) else pure (CT r)) (fun ok s3 =>
           if ok=true then wpAny (model prog w) A (eval elt env) (fun x s4 =>
             wpAny (model prog w) A (call (.builtin "list.append") [acc,x]) (fun _ s5=>∃ m,m < n/\I m s5) FF s4) FF s3
           else ∃ m,m < n/\I m s3) FF s2) FF s1) FF s1) FF s)
   (n:Nat) (h:I n s) :
   codeAny (model prog w) A (.compLoop (.ListComp elt [⟨target,iter,ifs,0⟩] scope pos) 0 it acc env) R s:=by
 refine codeAny_loop rfl I (fun n s hI=>?_) n h;show wpAny _ A ((compTurn (.ListComp elt [⟨target,iter,ifs,0⟩] scope pos) 0 it acc env).onRaise (fun x=>do noteFrame x env;theTreesLotGoes x)) _ _ s;refine wpAny_noted ?_;rw[compTurn_list];refine Aa (CI (Aa (BA (turn n s hI) (fun r s₁ h₁=>?_) fun _ _ h'=>False.elim h')))
 cases r with
 | none=>exact Ae h₁
 | some v =>
   refine Aa (BA h₁ (fun _ s₂ h₂=>?_) fun _ _ h'=>False.elim h');refine Aa (BA h₂ (fun _ s₂ h₂=>Aa (BA h₂ (fun ok s₃ h₃=>?_) fun _ _ h'=>False.elim h')) fun _ _ h'=>False.elim h')
   cases ok with
   | false=>exact Ae ⟨rfl,h₃⟩
   | true =>
     exact Aa (Aa (BA h₃ (fun x s₄ h₄=>Aa (BA h₄ (fun _ s₅ h₅=>Ae (Ae ⟨rfl,h₅⟩)) fun _ _ h'=>False.elim h')) fun _ _ h'=>False.elim h'))
noncomputable def mCI(W:Wk)(g:MG)(c:MT)(m:ME):List D->Rho->Sto->Option (List D×Sto)
 | [],ρ,st=>if walked W st=true then some ([],st) else none
 | d::ds,ρ,st=>if walked W st=true then (g d ρ st).bind fun (ρ1,s1)=>(c ρ1 s1).bind fun (b,s2) =>
     if b=true then (m ρ1 s2).bind fun (x,s3)=>(mCI W g c m ds ρ1 s3).map fun (xs,s4)=>(x::xs,s4) else mCI W g c m ds ρ1 s2 else none
noncomputable def rho0(ρ:Rho)(nt:Nat)(fr:List Nat):Rho:=BW nt none++fr.map fun (j:Nat)=>(ρ[j]?).join
noncomputable def zd4(mi:MI)(nt:Nat)(fr:List Nat)(g:MG)(c:MT)(m:ME):ME:=fun ρ st=>(mi ρ st).bind fun (W,s1)=>(mCI W g c m W.ds (rho0 ρ nt fr) s1).bind fun (xs,s2) =>
 if fits xs.length=true then some (.ref s2.length,s2++[.lst xs]) else none
noncomputable def ze0:MT:=fun _ st=>some (true,st)
def SC(X:Cx)(ifs:List Expr)(m:MT):Prop:=∀ (pins:List (Addr×Obj)) (s:Shared) (σ:L2.St) (H:Hp) (Q:Bool->Hp->Prop),Inv X pins σ H s->tT X.K m σ H Q ->
 wpAny (model X.prog X.w) X.A (forIn ifs true fun c r=>if r=true then do let ok <-isTrue c X.env (eval c X.env);pure (CT ok) else pure (CT r)) (TP X pins σ Q) X.xe s
theorem zjV{X:Cx}:SC X [] ze0:=by
 rintro pins s σ H Q I ⟨ρ,st,io,b,st',E,S,e,k⟩;cases e;rw[Cd];exact Ae ⟨H,I,k H [] Ext.refl S.nil⟩
theorem zlB{X:Cx}{c:Expr}{m:MT}(h:SB X c m):SC X [c] m:=fun pins s σ H Q I q=>PySem.wpAny_tests_one (h pins s σ H Q I q)
section
variable {K:Ab} {H H1:Hp} {io ka:List Addr} {st:Sto} {σ:L2.St} {ρ:Rho}
theorem zkE{nt:Nat}{fr:List Nat}(h:EnvR K H io σ ρ):EnvR K H io (ziK σ nt fr) (rho0 ρ nt fr):=by
 refine⟨by unfold ziK rho0;simp,fun i d e=>?_⟩;unfold rho0 at e;unfold ziK
 by_cases hi:i < nt
 . rw[As (by simpa using hi),B5,if_pos hi] at e;cases e
 . rw[AL (by simpa using hi),Cc,AE] at e ⊢
   cases ej:fr[i - nt]? with
   | none=>rw[ej] at e;cases e
   | some j =>
     rw[ej] at e;have e:(ρ[j]?).join=some d:=Ay e;have e:ρ[j]?=some (some d):=by
       cases q:ρ[j]? with
       | none=>rw[q] at e;cases e
       | some w=>rw[q] at e;cases w with
         | none=>cases e
         | some w=>cases e;rfl
     obtain⟨v,hv,r⟩:=h.at_ j d e;exact⟨v,by simp[hv],r⟩
theorem adopt{p:Addr}{xs:List V}{ds:List D}(S:StR K H io st)(hp:H p=some (.lst xs))(np:p ∉ io)(R:Reps K H io xs ds):StR K H (io++[p]) (st++[.lst ds]):=by
 refine⟨by simp[S.len],?_,fun n a ob h1 h2=>?_⟩
 . rw[Dt];refine⟨S.nd,by simp,fun a ha b hb=>?_⟩;rw[List.mem_singleton.mp hb];rintro rfl;exact np ha
 . by_cases hn:n < io.length
   . rw[As hn] at h1;rw[As (by rw[<-S.len];exact hn)] at h2;exact OR.mono ⟨fun _ _ h=>h,fun _ _ _ h=>h⟩ rfl (S.ob n a ob h1 h2)
   . have hl:n < (io++[p]).length:=(List.getElem?_eq_some_iff.mp h1).1;rw[Aq,Bo] at hl;have e:n=io.length:=by omega
     subst e;rw[AL (Af _),BX] at h1;rw[S.len,AL (Af _),BX] at h2
     cases (Ay h1)
     cases (Ay h2)
     exact⟨xs,hp,Reps.mono ⟨fun _ _ h=>h,fun _ _ _ h=>h⟩ R⟩
end
section
variable {X:Cx} {scope:Scope} {N':List Str} {nt:Nat} {fr:List Nat} {elt tg iter:Expr} {ifs:List Expr} {pos:Pos} {mi:MI} {g:MG} {c:MT} {m:ME}
structure CompEnd(X:Cx)(pins:List (Addr×Obj))(σ:L2.St)(H:Hp)(io:List Addr)(d:D)(st':Sto)(Dd C:Addr)(H5:Hp)(s6:Shared):Prop where
 inv:Inv X pins σ H5 s6
 ns:∃ m,s6.heap.Ns C m
 free:H5 C=none
 ne:C≠X.env.locals
 young:X.s₀.heap.objs.size<=C
 cells:∀ x c,X.env.cells.lookup x=some c->c≠C
 pin:∀ p∈X.pn++pins,p.1≠C
 val:∃ ka,Ext io ka H H5/\StR X.K H5 (io++ka) st'/\Rep X.K H5 (io++ka) (.ref Dd) d
inductive CompI (X Y:Cx) (W:Wk) (tn:Nat->Heap->Prop) (fp io:List Addr) (H1:Hp) (Dd:Addr) (g:MG) (c:MT) (m:ME) (t2:Sto) (xs:List D) (n:Nat) (s5:Shared):Prop
 | mk (i:Nat) (σ5:L2.St) (H5:Hp) (ρ5:Rho) (st5:Sto) (k5:List Addr) (ac rs:List D) (h0:n=W.ds.length - i) (h1:Inv Y [] σ5 H5 s5) (h2:tn i s5.heap) (h3:∀ b∈fp,H5 b=none) (h4:Ext io k5 H1 H5) (h5:Dd ∉ k5) (h6:StR X.K H5 (io++k5) st5) (h7:EnvR X.K H5 (io++k5) σ5 ρ5) (h8:∃ vs,H5 Dd=some (.lst vs)/\Reps X.K H5 (io++k5) vs ac) (h9:mCI W g c m (W.ds.drop i) ρ5 st5=some (rs,t2)) (h10:xs=ac++rs)
theorem zho(hx:X.xe=FF)(hc:X.calm=true)(Z:CompS X scope N' nt fr)(hi:SI X tg iter mi)
   (hg:∀ C s0 H0 fp,SG (zcg X scope N' (zch X scope C) C s0 H0 fp) tg g) (ht:∀ C s0 H0 fp,SC (zcg X scope N' (zch X scope C) C s0 H0 fp) ifs c) (he:∀ C s0 H0 fp,SE (zcg X scope N' (zch X scope C) C s0 H0 fp) elt m)
   (hs:∀ x,foldedSetIterable iter X.env x=pure x) {pins:List (Addr×Obj)} {s:Shared} {σ:L2.St} {H:Hp} {ρ:Rho} {st st':Sto} {io:List Addr} {d:D} {use:Option (Value->Sem Unit)} {Qf:Value->Shared->Prop} {ps:Pos}
   (I:Inv X pins σ H s) (E:EnvR X.K H io σ ρ) (S:StR X.K H io st) (e:zd4 mi nt fr g c m ρ st=some (d,st'))
   (kf:∀ Dd C H5 s6,CompEnd X pins σ H io d st' Dd C H5 s6->compPost (model X.prog X.w) X.A X.xe use Qf (.ref Dd) C (.ok .next) s6) :
   wpAny (model X.prog X.w) X.A (comprehension (.ListComp elt [⟨tg,iter,ifs,0⟩] scope pos) scope X.env ps (newList []) false (eval iter X.env) use) Qf X.xe s:=by
 obtain⟨⟨W,t1⟩,e1,e⟩:=zad e;obtain⟨⟨xs,t2⟩,e2,e⟩:=zad e;obtain⟨hfit,e⟩:=zam e;cases e;refine wpAny_comprehension_free (use:=use) rfl hs (zhp fun n hn=>I.ok.has n (Z.out n hn)) Z.kind (fun x hx hl=>by
   obtain⟨n,k⟩:=x
   cases (show k=.local from hl)
   exact lookup_mem Z.nd hx) ?_
 refine thn (hi pins s σ H (fun J H1=>∃ ka,Ext io ka H H1/\StR X.K H1 (io++ka) t1/\ItOk X.K H1 (io++ka) W J) I ⟨ρ,st,io,W,t1,E,S,e1,fun J H' ka X' S' O'=>⟨ka,X',S',O'⟩⟩) fun v sa ha=>?_;refine thn ha ?_;rintro itv s2 ⟨it,fp,tn,J,H1,eit,I1,T,tn0,fpok,k1,X1,S1,IO⟩;subst eit;refine AR ?_
 -- the new list
 have hD:H1 s2.heap.objs.size=none:=I1.hok.fresh (Af _);have I3:Inv X pins σ (upd H1 s2.heap.objs.size (.lst [])) { s2 with heap:=s2.heap.push { cls:=.type "list",data:=.seq ([]:List Value).toArray },toks:=s2.toks }:=I1.lnew .nil (Bu _);obtain⟨X2,S2a⟩:=zft (o:=.lst []) S1 hD;rw[Ah] at S2a;have S2:StR X.K (upd H1 s2.heap.objs.size (.lst [])) (io++k1) t1:=S2a;clear S2a;generalize hH3:upd H1 s2.heap.objs.size (.lst [])=H3 at I3 X2 S2;have H3D:H3 s2.heap.objs.size=some (.lst []):=by rw[<-hH3];exact zbn
 generalize hD':s2.heap.objs.size=Dd at hD I3 X2 S2 hH3 H3D ⊢;generalize hs3:({ s2 with heap:=s2.heap.push { cls:=.type "list",data:=.seq ([]:List Value).toArray },toks:=s2.toks }:Shared)=s3 at I3;have fplt:∀ b∈fp,b < s3.heap.objs.size:=fun b hb=>by
   obtain⟨o,ho,_⟩:=T.obj 0 _ tn0 b hb;rw[<-hs3];exact Ap (Ak ho) (by show _<=(s2.heap.push _).objs.size;rw[Bk];exact Ci _)
 have fpD:∀ b∈fp,b≠Dd:=fun b hb z=>by
   obtain⟨o,ho,_⟩:=T.obj 0 _ tn0 b hb;have:=Ak ho;rw[z,<-hD'] at this;exact AU _ this
 have fp3:∀ b∈fp,FpOk X pins H3 b:=fun b hb=>⟨by rw[<-hH3,zaG (fpD b hb)];exact (fpok b hb).1,(fpok b hb).2⟩
 have tn3:tn 0 s3.heap:=T.keep 0 _ _ tn0 fun b _ o ho=>by rw[<-hs3];exact Ad _ ho
 refine zkK ?_;have I4:=zkx (fp:=fp) Z I3 fp3 fplt;have tn4:tn 0 (pushCells (s3.heap.push { cls:=.type "dict",data:=.dict #[] }) scope.names):=T.keep 0 _ _ tn3 fun b _ o ho=>CS _ _ _ _ (Ad _ ho);generalize hs4:({ s3 with heap:=pushCells (s3.heap.push { cls:=.type "dict",data:=.dict #[] }) scope.names }:Shared)=s4 at I4;have tn4:tn 0 s4.heap:=by rw[<-hs4];exact tn4
 show codeAny (model X.prog X.w) X.A (.compStart (.ListComp elt [⟨tg,iter,ifs,0⟩] scope pos) 0 (.ref it) (.ref Dd) (zcg X scope N' (zch X scope s3.heap.objs.size) s3.heap.objs.size s3 H3 fp).env) _ _;generalize hY:zcg X scope N' (zch X scope s3.heap.objs.size) s3.heap.objs.size s3 H3 fp=Y at I4;have yP:Y.prog=X.prog:=by rw[<-hY];rfl
 have yW:Y.w=X.w:=by rw[<-hY];rfl
 have yK:Y.K=X.K:=by rw[<-hY];rfl
 have yC:Y.calm=true:=by rw[<-hY];exact hc
 have yA:Y.A=X.A:=by rw[<-hY];rfl
 have yx:Y.xe=FF:=by rw[<-hY];rfl
 have hg:=hg s3.heap.objs.size s3 H3 fp;have ht:=ht s3.heap.objs.size s3 H3 fp;have he:=he s3.heap.objs.size s3 H3 fp;rw[hY] at hg ht he;have yex:Y.ex=fp:=by rw[<-hY];rfl
 have yfs:∀ b∈fp,b ∉ Y.fs:=fun b hb hs=>by
   rw[<-hY] at hs;have hs:b∈frs X.stack:=hs
   rcases List.mem_cons.mp (I3.stkSub b hs) with z | z
   . exact (fp3 b hb).2.1 z
   . exact (fp3 b hb).2.2.1 z
 have yL:Y.env.locals=s3.heap.objs.size:=by rw[<-hY];rfl
 -- the loop
 have hio:Dd ∉ io++k1:=fun hm=>by
   obtain⟨u,hu,_⟩:=S1.mem hm;rw[hD] at hu;cases hu
 have start:∀ {H':Hp} {sx:Shared} {σ':L2.St},Inv Y [] σ' H' sx->(∀ b∈fp,H' b=none)->∀ b∈fp,FpOk Y [] H' b:=fun {H' sx σ'} I' hn b hb=>by
   refine⟨hn b hb,fun z=>?_,yfs b hb,.inl (by rw[yex];exact hb),fun x cc e z=>?_,fun p hp=>absurd hp (by rw[<-hY];simp[zcg])⟩
   . rw[yL] at z;exact absurd (fplt b hb) (by rw[z];exact AU _)
   . exact (I'.ok.exf b (by rw[yex];exact hb)).2 x cc e z
 have loop:∀ sx:Shared,Inv Y [] (ziK σ nt fr) H3 sx->tn 0 sx.heap->codeAny (model X.prog X.w) X.A (.compLoop (.ListComp elt [⟨tg,iter,ifs,0⟩] scope pos) 0 (.ref it) (.ref Dd) Y.env) (compPost (model X.prog X.w) X.A X.xe use Qf (.ref Dd) s3.heap.objs.size) sx:=by
   intro sx Ix tnx;refine zf9 (CompI X Y W tn fp (io++k1) H1 Dd g c m t2 xs) ?_ (W.ds.length - 0)
     ⟨0,ziK σ nt fr,H3,rho0 ρ nt fr,t1,[],[],xs,rfl,Ix,tnx,fun b hb=>(fp3 b hb).1,X2,by simp,S2.nil,by rw[Ah];exact zkE (by have:=(E.ext S X1).ext S1 X2;rw[Ah] at this;exact this),⟨[],H3D,rfl⟩,by rw[C5];exact e2,rfl⟩
   rintro n s5 ⟨i,σ5,H5,ρ5,st5,k5,ac,rs,rfl,I5,tn5,fr5,X25,nk5,S5,E5,⟨vs,hvs,Rvs⟩,e5,exs⟩;have nD:∀ {kk:List Addr},Dd ∉ kk->Dd ∉ (io++k1)++kk:=fun {kk} hk hm=>(List.mem_append.mp hm).elim hio hk;have nF:∀ {kk jj:List Addr} {Ha Hb:Hp} {vv:List V},Ext jj kk Ha Hb->Ha Dd=some (.lst vv)->Dd ∉ kk:=fun {kk jj Ha Hb vv} Xx hv hm=>by
     have q:=Xx.fresh Dd hm;rw[hv] at q;cases q
   cases hd:W.ds[i]? with
   | none =>
     have hl:W.ds.length<=i:=List.getElem?_eq_none_iff.mp hd;rw[DZ hl] at e5;obtain⟨hw,e5⟩:=zam e5;cases e5;have:=T.done Y yP yW yK yC i [] s5 σ5 H5 FF I5 (start I5 fr5) tn5 (IO.stop' H5 k5 _ i hl X25 S5 (zb8 hw));rw[yA] at this;refine thn this ?_;rintro r s6 ⟨hr,I6⟩;subst hr;obtain⟨mm,hn,_⟩:=id I6.loc;rw[yL] at hn
     -- back in the frame
     have base:Un (frs X.stack) fp H3 H5 s3.heap s6.heap:=by
       have b:=I6.base;rw[<-hY] at b;exact b
     have os:s6.os=s3.os:=by
       have b:=I6.os;rw[<-hY] at b;exact b
     have free:H5 s3.heap.objs.size=none:=by
       have b:=I6.free;rw[yL] at b;exact b
     have hok:HOk X.prog X.w H5 s6.heap:=by
       have b:=I6.hok;rw[yP,yW] at b;exact b
     have I7:Inv X pins σ H5 s6:=Inv.call' (s':=s6) (ch:=fp) I3 os base hok I6.bare fun b hb=>⟨(fp3 b hb).2.2.2.1,(fp3 b hb).2.1,(fp3 b hb).2.2.2.2.1,(fp3 b hb).2.2.2.2.2⟩
     have np:Dd ∉ (io++k1)++k5:=nD nk5;rw[Ah] at exs;subst exs;have SA:=adopt S5 hvs np Rvs;have X6:Ext io (k1++k5) H H5:=X1.trans S1 X25;have lt3:X.env.locals < s3.heap.objs.size:=I3.lt;refine kf Dd s3.heap.objs.size H5 s6 ⟨I7,⟨mm,hn⟩,free,CP lt3,I3.sz,fun x cc e z=>?_,fun p hp z=>?_,?_⟩
     . obtain⟨vv,q⟩:=I3.cell x cc e;have:=q.lt;rw[z] at this;exact AU _ this
     . have:=Ak (I3.pin p hp).1;rw[z] at this;exact AU _ this
     refine⟨(k1++k5)++[Dd],⟨fun b o hb nb=>X6.keep b o hb nb,fun b hb=>?_,X6.frz⟩,(by simpa using SA),⟨Dd,rfl,?_⟩⟩
     . rcases List.mem_append.mp hb with hb | hb
       . exact X6.fresh b hb
       . rw[List.mem_singleton.mp hb]
         cases q:H Dd with
         | none=>rfl
         | some o =>
           by_cases hb:Dd∈io
           . exact absurd (AK _ hb) hio
           . have:=X1.keep Dd o q hb;rw[hD] at this;cases this
     . have:=getElem?_len ((io++k1)++k5) Dd;rw[<-S5.len];simpa using this
   | some dd =>
     have hl:i < W.ds.length:=(List.getElem?_eq_some_iff.mp hd).1;have hdr:W.ds.drop i=dd::W.ds.drop (i+1):=by
       rw[Dw hl,(List.getElem?_eq_some_iff.mp hd).2]
     rw[hdr] at e5;obtain⟨hw,e5⟩:=zam e5;obtain⟨⟨ρ6,t6⟩,e6,e5⟩:=zad e5;obtain⟨⟨b7,t7⟩,e7,e5⟩:=zad e5;obtain⟨go,yl⟩:=IO.go i dd H5 k5 st5 hd X25 S5 (zb8 hw);have hit:=T.item Y yP yW yK yC i [] s5 σ5 H5 FF I5 (start I5 fr5) tn5 go;rw[yA] at hit;refine thn hit ?_;rintro r s6 ⟨u,hr,h6⟩;subst hr;refine thn h6 ?_;rintro _ s7 ⟨x,H7,I7,r7,y7,tn7,fr7⟩;obtain⟨X7,S7,R7⟩:=yl x H7 y7;have X57:Ext (io++k1) k5 H1 H7:=(X25.trans S5 X7).app;have hv7:H7 Dd=some (.lst vs):=X7.keep _ _ hvs (nD nk5);have E7:EnvR X.K H7 ((io++k1)++k5) σ5 ρ5:=by
       have:=E5.ext S5 X7;rw[Ah] at this;exact this
     have R7v:Reps X.K H7 ((io++k1)++k5) vs ac:=by
       have:=Rvs.ext S5 X7;rw[Ah] at this;exact this
     have I7p:=I7.pinned (start I7 fr7) (T.obj _ _ tn7);rw[<-yA,<-yP,<-yW];rw[<-yx];refine thn (hg _ s7 σ5 H7 x u (fun σ8 H8=>∃ k8,Ext ((io++k1)++k5) k8 H7 H8/\StR X.K H8 (((io++k1)++k5)++k8) t6/\EnvR X.K H8 (((io++k1)++k5)++k8) σ8 ρ6) I7p r7 (by rw[yK];exact⟨dd,ρ5,st5,(io++k1)++k5,ρ6,t6,R7,E7,S7,e6,fun σ8 H8 k8 X8 S8 E8=>⟨k8,X8,S8,E8⟩⟩)) ?_;rintro _ s8 ⟨σ8,H8,I8,k8,X8,S8,E8⟩;have S8':StR X.K H8 ((io++k1)++(k5++k8)) t6:=by rw[<-Al];exact S8
     have E8':EnvR X.K H8 ((io++k1)++(k5++k8)) σ8 ρ6:=by rw[<-Al];exact E8
     have X38:Ext (io++k1) (k5++k8) H1 H8:=X57.trans S7 X8;have nk8:Dd ∉ k5++k8:=fun hm=>(List.mem_append.mp hm).elim nk5 (nF X8 hv7);refine thn (ht _ s8 σ8 H8 (fun b H9=>b=b7/\∃ k9,Ext ((io++k1)++(k5++k8)) k9 H8 H9/\StR X.K H9 (((io++k1)++(k5++k8))++k9) t7) I8 (by rw[yK];exact⟨ρ6,t6,(io++k1)++(k5++k8),b7,t7,E8',S8',e7,fun H9 k9 X9 S9=>⟨rfl,k9,X9,S9⟩⟩)) ?_;rintro ok s9 ⟨H9,I9,eb,k9,X9,S9⟩;subst eb;have X39:Ext (io++k1) ((k5++k8)++k9) H1 H9:=X38.trans S8' X9;have S9':StR X.K H9 ((io++k1)++((k5++k8)++k9)) t7:=by rw[<-Al];exact S9
     have E9:EnvR X.K H9 ((io++k1)++((k5++k8)++k9)) σ8 ρ6:=by
       have:=E8'.ext S8' X9;rw[Al] at this;exact this
     have hv8:H8 Dd=some (.lst vs):=X8.keep _ _ hv7 (nD nk5);have hv9:H9 Dd=some (.lst vs):=X9.keep _ _ hv8 (nD nk8);have nk9:Dd ∉ (k5++k8)++k9:=fun hm=>(List.mem_append.mp hm).elim nk8 (nF X9 hv8);have R8v:Reps X.K H8 ((io++k1)++(k5++k8)) vs ac:=by
       have:=R7v.ext S7 X8;rw[Al] at this;exact this
     have R9v:Reps X.K H9 ((io++k1)++((k5++k8)++k9)) vs ac:=by
       have:=R8v.ext S8' X9;rw[Al] at this;exact this
     have back:∀ {Hx:Hp} {sx:Shared} {σx:L2.St},Inv Y ([]++zgO fp s7.heap) σx Hx sx->Inv Y [] σx Hx sx/\tn (i+1) sx.heap/\∀ b∈fp,Hx b=none:=fun {Hx sx σx} Ix=>by
       refine⟨Ix.unpinned,T.keep _ _ _ tn7 fun b hb o e=>(Ix.pin (b,o) (AN _ (AN _ (zce hb e)))).1,fun b hb=>?_⟩;obtain⟨o,e,dn⟩:=T.obj _ _ tn7 b hb;exact (Ix.pin (b,o) (AN _ (AN _ (zce hb e)))).2.1
     cases ok with
     | false =>
       rw[if_neg (by decide)];have e5:mCI W g c m (W.ds.drop (i+1)) ρ6 t7=some (rs,t2):=e5;obtain⟨Ib,tnb,frb⟩:=back I9;exact⟨W.ds.length - (i+1),by omega,i+1,σ8,H9,ρ6,t7,(k5++k8)++k9,ac,rs,rfl,Ib,tnb,frb,X39,nk9,S9',E9,⟨vs,hv9,R9v⟩,e5,exs⟩
     | true =>
       rw[if_pos rfl];have e5:((m ρ6 t7).bind fun (x,s3)=>(mCI W g c m (W.ds.drop (i+1)) ρ6 s3).map fun (xs,s4)=>(x::xs,s4))=some (rs,t2):=e5;obtain⟨⟨x10,t10⟩,e10,e5⟩:=zad e5;obtain⟨⟨rs',t11⟩,e11,e5⟩:=zag e5;cases e5;refine thn (he _ s9 σ8 H9 (fun v H10=>∃ k10,Ext ((io++k1)++((k5++k8)++k9)) k10 H9 H10/\StR X.K H10 (((io++k1)++((k5++k8)++k9))++k10) t10/\Rep X.K H10 (((io++k1)++((k5++k8)++k9))++k10) v x10) I9
         (by rw[yK];exact⟨ρ6,t7,(io++k1)++((k5++k8)++k9),x10,t10,E9,S9',e10,fun v H10 k10 X10 S10 R10=>⟨k10,X10,S10,R10⟩⟩)) fun u10 s10 ⟨v10,H10,I10,r10,k10,X10,S10,R10⟩=>?_
       have X310:Ext (io++k1) (((k5++k8)++k9)++k10) H1 H10:=X39.trans S9' X10;have nk10:Dd ∉ ((k5++k8)++k9)++k10:=fun hm=>(List.mem_append.mp hm).elim nk9 (nF X10 hv9);have S10':StR X.K H10 ((io++k1)++(((k5++k8)++k9)++k10)) t10:=by rw[<-Al];exact S10
       have hv10:H10 Dd=some (.lst vs):=X10.keep _ _ hv9 (nD nk9);have E10:EnvR X.K H10 ((io++k1)++(((k5++k8)++k9)++k10)) σ8 ρ6:=by
         have:=E9.ext S9' X10;rw[Al] at this;exact this
       have R10v:Reps X.K H10 ((io++k1)++(((k5++k8)++k9)++k10)) (vs++[v10]) (ac++[x10]):=by
         have a:=R9v.ext S9' X10;rw[Al] at a;rw[Al] at R10;exact a.append (Reps.cons R10 Reps.nil)
       have hlen:vs.length < sizeLine:=by
         rw[R9v.length];have:=of_decide_eq_true hfit;rw[exs] at this;simp at this;omega
       refine thn (zfu _ s10 σ8 H10 (.ref Dd) [v10] (.ref Dd) [u10] (fun _ H11=>H11=upd H10 Dd (.lst (vs++[v10]))) I10 rfl (.cons r10 .nil) ⟨Dd,vs,v10,rfl,rfl,hv10,hlen,rfl⟩) ?_;rintro _ s11 ⟨_,H11,I11,_,e11'⟩;subst e11';have nD10:=nD nk10
       -- the new list is written: nothing of the store
       have XU:∀ b o,H10 b=some o->b≠Dd->upd H10 Dd (.lst (vs++[v10])) b=some o:=fun b o hb hn=>by rw[zaG hn];exact hb
       have TU:Kp H10 (upd H10 Dd (.lst (vs++[v10]))):=⟨fun a ys hb=>XU a _ hb (zmN hb hv10 (by simp)),fun a o u hb=>XU a _ hb (zmN hb hv10 (by simp))⟩
       have S11:StR X.K (upd H10 Dd (.lst (vs++[v10]))) ((io++k1)++(((k5++k8)++k9)++k10)) t10:=by
         refine⟨S10'.len,S10'.nd,fun n a ob h1 h2=>?_⟩;have hne:a≠Dd:=fun z=>nD10 (by rw[<-z];exact A1 h1);have:=OR.mono (ka:=[]) TU (zaG hne) (S10'.ob n a ob h1 h2);rw[Ah] at this;exact this
       have mono0:∀ {v:V} {d:D},Rep X.K H10 ((io++k1)++(((k5++k8)++k9)++k10)) v d->Rep X.K (upd H10 Dd (.lst (vs++[v10]))) ((io++k1)++(((k5++k8)++k9)++k10)) v d:=fun {v d} h=>by
         have:=Rep.mono (ka:=[]) TU h;rw[Ah] at this;exact this
       have mono1:∀ {v:List V} {d:List D},Reps X.K H10 ((io++k1)++(((k5++k8)++k9)++k10)) v d->Reps X.K (upd H10 Dd (.lst (vs++[v10]))) ((io++k1)++(((k5++k8)++k9)++k10)) v d:=fun {v d} h=>by
         have:=Reps.mono (ka:=[]) TU h;rw[Ah] at this;exact this
       obtain⟨Ib,tnb,frb⟩:=back I11;refine⟨W.ds.length - (i+1),by omega,i+1,σ8,upd H10 Dd (.lst (vs++[v10])),ρ6,t10,((k5++k8)++k9)++k10,ac++[x10],rs',rfl,Ib,tnb,frb,⟨fun b o hb nb=>XU b o (X310.keep b o hb nb) (fun z=>by rw[z,hD] at hb;cases hb),X310.fresh,fun b o u hb=>XU b _ (X310.frz b o u hb) (fun z=>by rw[z,hD] at hb;cases hb)⟩,nk10,S11,⟨E10.len,fun j dj hj=>?_⟩,⟨_,zbn,mono1 R10v⟩,e11,by rw[exs,Al];rfl⟩;obtain⟨v,q,r⟩:=E10.at_ j dj hj;exact⟨v,q,mono0 r⟩
 have l4:=loop s4 I4 tn4;exact codeAny_compStart_list l4 (T.self _ 0 _ _ _ tn4 l4)
theorem zfi(hx:X.xe=FF)(hc:X.calm=true)(Z:CompS X scope N' nt fr)(hi:SI X tg iter mi)
   (hg:∀ C s0 H0 fp,SG (zcg X scope N' (zch X scope C) C s0 H0 fp) tg g) (ht:∀ C s0 H0 fp,SC (zcg X scope N' (zch X scope C) C s0 H0 fp) ifs c) (he:∀ C s0 H0 fp,SE (zcg X scope N' (zch X scope C) C s0 H0 fp) elt m)
   (hs:∀ x,foldedSetIterable iter X.env x=pure x:=by intro _;rfl):SE X (.ListComp elt [⟨tg,iter,ifs,0⟩] scope pos) (zd4 mi nt fr g c m):=by
 rintro pins s σ H Q I ⟨ρ,st,io,d,st',E,S,e,k⟩;rw[eval_ListComp];refine zho (use:=none) hx hc Z hi hg ht he hs I E S e fun Dd C H5 s6 R=>?_;obtain⟨m5,hn⟩:=R.ns;refine⟨m5,hn,fun h' hsb=>?_⟩;obtain⟨ka,X5,S5,R5⟩:=R.val;exact⟨.ref Dd,H5,R.inv.turned (t':=s6.toks) (it:=C) (fun b o hb q=>(hsb.2 b hb).trans q) R.free R.ne (.inr R.young) R.cells R.pin,rfl,k _ _ ka X5 S5 R5⟩
theorem zfP{i:Nat}{x:Str}{pos' spos:Pos}(hx:X.xe=FF)(hc:X.calm=true)(Z:CompS X scope N' nt fr)(hi:SI X tg iter mi)
   (hg:∀ C s0 H0 fp,SG (zcg X scope N' (zch X scope C) C s0 H0 fp) tg g) (ht:∀ C s0 H0 fp,SC (zcg X scope N' (zch X scope C) C s0 H0 fp) ifs c) (he:∀ C s0 H0 fp,SE (zcg X scope N' (zch X scope C) C s0 H0 fp) elt m)
   (hN:X.N.Nodup) (hi':X.N[i]?=some x) (hl:X.env.scope.names.lookup x=some .local)
   (hsw:swapsWith (.ListComp elt [⟨tg,iter,ifs,0⟩] scope pos) (some (.Name x pos')) spos.line X.env=pure true:=by rfl)
   (hs:∀ x,foldedSetIterable iter X.env x=pure x:=by intro _;rfl):SS X (.Assign [.Name x pos'] (.ListComp elt [⟨tg,iter,ifs,0⟩] scope pos) spos) (mAsg (zd4 mi nt fr g c m) (gNm i)):=by
 intro pins s σ H N I h;obtain⟨ρ,st,io,f,st',E,S,e,w⟩:=zca.mp h;obtain⟨⟨d,s1⟩,e1,e⟩:=zad e;obtain⟨⟨ρ',s2⟩,e2,e⟩:=zag e;cases e;cases e2;rw[exec_Assign_Name_used _ _ _ _ hsw];refine Aa (CI (Aa ?_));show wpAny _ X.A (do let _ <-comprehension (.ListComp elt [⟨tg,iter,ifs,0⟩] scope pos) scope X.env _ (newList []) false (eval iter X.env) (some (assign (.Name x pos') X.env))) _ _ s;refine Aa (thn (zho (use:=some (assign (.Name x pos') X.env)) (Qf:=fun _ s'=>SP X pins N .next s') hx hc Z hi hg ht he hs I E S e1 fun Dd C H5 s6 R=>?_) fun _ s' hq=>Ae (Ae hq));obtain⟨m5,hn⟩:=R.ns;obtain⟨ka,X5,S5,R5⟩:=R.val;show wpAny _ _ (assign (.Name x pos') X.env (.ref Dd)) _ _ _;refine EG (zfd (v:=.ref Dd) R.inv hN hi' (.inl hl) rfl (?_) (.inr hl));rintro s7 I7 ⟨a,sb,ha⟩;have hCa:C≠a:=fun z=>by
   rcases ha with q | q
   . exact R.ne (z.trans q)
   . exact R.cells _ _ q z.symm
 refine⟨m5,hn.sameBut sb hCa,fun h' hsb=>?_⟩;refine⟨_,H5,I7.turned (t':=s7.toks) (it:=C) (fun b o hb q=>(hsb.2 b hb).trans q) R.free R.ne (.inr R.young) R.cells R.pin,?_⟩;exact w _ _ ka X5 S5 ((E.ext S X5).set i R5)
end
section
variable {X:Cx} {e a b c:Expr} {es:List Expr} {pos:Pos} {m ma mb mc:ME} {mm:MA}
variable {K:Ab} {H:Hp} {io ka:List Addr} {st st':Sto}
noncomputable def addD:G2
 | .int i,.int j,st=>some (.int (i+j),st)
 | .str a,.str b,st=>if fits (a.length+b.length)=true then some (.str (a++b),st) else none
 | .tup a,.tup b,st=>if (!a.isEmpty&&fits (a.length+b.length))=true then some (.tup (a++b),st) else none
 | .ref a,.ref b,st=>match st[a]?,st[b]? with
   | some (.lst x),some (.lst y)=>if fits (x.length+y.length)=true then some (.ref st.length,st++[.lst (x++y)]) else none
   | _,_=>none
 | _,_,_=>none
theorem zaz:OpM X (binaryOp .Add) addD:=by
 rintro pins s σ H x y v u Q I rx ry ⟨dx,dy,st,io,d,st',Rx,Ry,S,e,k⟩
 cases dx with
 | int i =>
   cases dy with
   | int j=>cases e;exact znR pins s σ H x y v u Q I rx ry ⟨i,j,Rx,Ry,k.now S rfl⟩
   | _=>cases e
 | str i =>
   cases dy with
   | str j =>
     obtain⟨hf,e⟩:=zam e
     cases e;exact zgW pins s σ H x y v u Q I rx ry ⟨i,j,Rx,Ry,of_decide_eq_true hf,k.now S rfl⟩
   | _=>cases e
 | tup i =>
   cases dy with
   | tup j =>
     obtain⟨hf,e⟩:=zam e;cases e;rw[Ao] at hf;obtain⟨p,xs,ex,hp,r1⟩:=Rx;obtain⟨q,ys,ey,hq,r2⟩:=Ry;refine zl7 pins s σ H x y v u Q I rx ry ⟨p,q,xs,ys,ex,ey,SqT.of hp,SqT.of hq,fun z=>?_,by rw[r1.length,r2.length];exact of_decide_eq_true hf.2,fun z=>?_,fun z p hp=>k.tup S (r1.append r2) hp⟩
     . have:=r1.length;rw[z] at this;have:i=[]:=Bq this.symm;rw[this] at hf;exact absurd hf.1 (by decide)
     . have:=r2.length;rw[z] at this;have:j=[]:=Bq this.symm;subst this;rw[Ah] at k;exact k.now S ⟨p,xs,rfl,hp,r1⟩
   | _=>cases e
 | ref i =>
   cases dy with
   | ref j =>
     unfold addD at e;dsimp only at e
     split at e
     . rename_i l1 l2 e1 e2;obtain⟨hf,e⟩:=zam e;cases e;obtain⟨p,ex,hp⟩:=Rx;obtain⟨q,ey,hq⟩:=Ry;obtain⟨xs,h1,r1⟩:=S.ob i p _ hp e1;obtain⟨ys,h2,r2⟩:=S.ob j q _ hq e2;exact znQ pins s σ H x y v u Q I rx ry ⟨p,q,xs,ys,ex,ey,h1,h2,by rw[r1.length,r2.length];exact of_decide_eq_true hf,fun p hp=>k.lst S (r1.append r2) hp⟩
     . cases e
   | _=>cases e
 | _=>cases e
noncomputable def intD(c:Int->Int->Bool)(g:Int->Int->D):G2
 | .int i,.int j,st=>if c i j=true then some (g i j,st) else none
 | _,_,_=>none
theorem zdr{f:Value->Value->Sem Value}{C:Int->Int->Prop}{c:Int->Int->Bool}{g:Int->Int->Int}(h:OpR X f (rI C fun i j=>.int (g i j)))(hc:∀ i j,c i j=true->C i j):OpM X f (intD c fun i j=>.int (g i j)):=by
 rintro pins s σ H x y v u Q I rx ry ⟨dx,dy,st,io,d,st',Rx,Ry,S,e,k⟩
 cases dx with
 | int i =>
   cases dy with
   | int j =>
     obtain⟨hf,e⟩:=zam e
     cases e;exact h pins s σ H x y v u Q I rx ry ⟨i,j,Rx,Ry,hc i j hf,k.now S rfl⟩
   | _=>cases e
 | _=>cases e
noncomputable def tt2:Int->Int->Bool:=fun _ _=>true
noncomputable def subD:G2:=intD tt2 fun i j=>.int (i - j)
theorem zcE:OpM X (binaryOp .Sub) subD:=zdr (C:=fun _ _=>True) (fun pins s σ H x y v u Q I rx ry ⟨i,j,h1,h2,_,q⟩=>znI pins s σ H x y v u Q I rx ry ⟨i,j,h1,h2,q⟩) fun _ _ _=>trivial
noncomputable def in64(i:Int):Bool:=decide (-(2 ^ 64) < i)&&decide (i < 2 ^ 64)
noncomputable def mulD:G2:=intD (fun i j=>in64 i || in64 j) fun i j=>.int (i*j)
theorem zl0:OpM X (binaryOp .Mult) mulD:=zdr znK fun i j h=>by
 rw[DN] at h;unfold in64 at h;rw[Ao,Ao] at h
 rcases h with h | h
 . exact .inl ⟨of_decide_eq_true h.1,of_decide_eq_true h.2⟩
 . exact .inr ⟨of_decide_eq_true h.1,of_decide_eq_true h.2⟩
noncomputable def modD:G2:=intD (fun _ j=>decide (0 < j)) fun i j=>.int (i % j)
theorem zcF:OpM X (binaryOp .Mod) modD:=zdr znL fun i j h=>of_decide_eq_true h
noncomputable def cmpD(g:Int->Int->Bool):G2
 | .int i,.int j,st=>some (.bl (g i j),st)
 | _,_,_=>none
theorem zfq{f:Value->Value->Sem Value}{g:Int->Int->Bool}(h:OpR X f (rI0 fun i j=>.bl (g i j))):OpM X f (cmpD g):=by
 rintro pins s σ H x y v u Q I rx ry ⟨dx,dy,st,io,d,st',Rx,Ry,S,e,k⟩
 cases dx with
 | int i =>
   cases dy with
   | int j=>cases e;exact h pins s σ H x y v u Q I rx ry ⟨i,j,Rx,Ry,k.now S rfl⟩
   | _=>cases e
 | _=>cases e
noncomputable def ltD:G2:=cmpD fun i j=>decide (i < j)
noncomputable def leD:G2:=cmpD fun i j=>decide (i<=j)
noncomputable def gtD:G2:=cmpD fun i j=>decide (j < i)
noncomputable def geD:G2:=cmpD fun i j=>decide (j<=i)
theorem zl4:OpM X (compareOp .Lt) ltD:=zfq zpg
theorem zdl:OpM X (compareOp .LtE) leD:=zfq zph
theorem znO:OpM X (compareOp .Gt) gtD:=zfq zpi
theorem znP:OpM X (compareOp .GtE) geD:=zfq zpj
noncomputable def negD:D->Sto->Option (D×Sto)
 | .int i,st=>some (.int (-i),st)
 | _,_=>none
noncomputable def mNeg(m:ME):ME:=fun ρ st=>(m ρ st).bind fun (x,s)=>negD x s
theorem zh3(ha:SE X a ma):SE X (.UnaryOp .USub a pos) (mNeg ma):=PE.imp (zpb zmR ha) <| by
 rintro σ H Q ⟨ρ,st,io,d,st',E,S,e,k⟩;obtain⟨⟨x,s1⟩,e1,e⟩:=zad e
 cases x with
 | int i =>
   cases e;exact⟨ρ,st,io,.int i,_,E,S,e1,fun v H1 k1 X1 S1 R1=>⟨i,R1,k _ H1 k1 X1 S1 rfl⟩⟩
 | _=>cases e
noncomputable def idxD:G2
 | .tup ds,.int i,st=>(atI ds i).map fun d=>(d,st)
 | .ref n,.int i,st=>(zba st n).bind fun ds=>(atI ds i).map fun d=>(d,st)
 | .kl ds,.int i,st=>(atI ds i).map fun d=>(d,st)
 | .str z,.int i,st=>if fits z.length=true then (atI z.cps.toList i).map fun c=>(.str ⟨#[c]⟩,st) else none
 | _,_,_=>none
theorem zhC{xs:List V}{ds:List D}{i:Int}{d:D}(r:Reps K H io xs ds)(h:atI ds i=some d):∃ v,atI xs i=some v/\Rep K H io v d:=by
 unfold atI at h ⊢;rw[r.length];obtain⟨j,hj,h⟩:=zad h;obtain⟨v,hv,rv⟩:=r.get h;exact⟨v,by rw[hj];exact hv,rv⟩
theorem ix_M:IxR X (r2M X.K idxD):=by
 rintro value slice pins s σ H x y v u Q I rx ry ⟨dx,dy,st,io,d,st',Rx,Ry,S,e,k⟩ hs
 cases dy with
 | int i =>
   cases dx with
   | tup ds =>
     obtain⟨d',e1,e⟩:=zag e;cases e;obtain⟨p,xs,ex,hp,r⟩:=Rx;obtain⟨w,hw,rw'⟩:=zhC r e1;exact zcu value slice pins s σ H x y v u Q I rx ry ⟨p,xs,i,w,ex,Ry,SqT.of hp,hw,k.now S rw'⟩ hs
   | ref n =>
     obtain⟨ds,e0,e⟩:=zad e;obtain⟨d',e1,e⟩:=zag e;cases e;obtain⟨p,ex,hp⟩:=Rx;obtain⟨xs,hx,r⟩:=zaW S hp e0;obtain⟨w,hw,rw'⟩:=zhC r e1;exact zjg value slice pins s σ H x y v u Q I rx ry ⟨p,xs,i,w,ex,Ry,hx,hw,k.now S rw'⟩ hs
   | kl ds =>
     obtain⟨d',e1,e⟩:=zag e;cases e;obtain⟨p,xs,ex,hx,r⟩:=Rx;obtain⟨w,hw,rw'⟩:=zhC r e1;exact zjg value slice pins s σ H x y v u Q I rx ry ⟨p,xs,i,w,ex,Ry,hx.sq,hw,k.now S rw'⟩ hs
   | str z =>
     obtain⟨hf,e⟩:=zam e;obtain⟨d',e1,e⟩:=zag e;cases e;exact zob value slice pins s σ H x y v u Q I rx ry ⟨z,i,d',Rx,Ry,of_decide_eq_true hf,e1,k.now S rfl⟩ hs
   | _=>cases e
 | _=>cases dx <;> cases e
theorem zo5(ha:SE X a ma)(hb:SE X b mb)(hs:zhH b:=by intro _ _;rfl):SE X (.Subscript a b pos) (mBin idxD ma mb):=PE.imp (zpd ix_M ha hb hs) fun _ _ _ h=>zcP h
noncomputable def lenD:GN
 | [.tup ds],st=>some (.int ds.length,st)
 | [.ref n],st=>(zba st n).map fun ds=>(.int ds.length,st)
 | [.kl ds],st=>some (.int ds.length,st)
 | [.str z],st=>if fits z.length=true then some (.int z.length,st) else none
 | _,_=>none
theorem zaT:zcM X (.builtin "len") lenD:=by
 rintro pins s σ H xs us Q I r ⟨ds,st,io,d,st',R,S,e,k⟩
 cases ds with
 | nil=>cases e
 | cons d0 r0 =>
 cases r0 with
 | cons d1 r1=>cases d0 <;> cases e
 | nil =>
 cases d0 with
 | tup ts =>
   cases e;obtain⟨v,rfl,p,ys,rfl,hp,r1⟩:=R.one;refine zb4 pins s σ H _ us Q I r ⟨p,ys,rfl,.inr (SqT.of hp),?_⟩;rw[r1.length];exact k.now S rfl
 | ref n =>
   obtain⟨ts,e0,e⟩:=zag e;cases e;obtain⟨v,rfl,p,rfl,hp⟩:=R.one;obtain⟨ys,hx,r1⟩:=zaW S hp e0;refine zb4 pins s σ H _ us Q I r ⟨p,ys,rfl,.inl hx,?_⟩;rw[r1.length];exact k.now S rfl
 | kl ts =>
   cases e;obtain⟨v,rfl,p,ys,rfl,hx,r1⟩:=R.one;refine zb4 pins s σ H _ us Q I r ⟨p,ys,rfl,.inl hx.sq,?_⟩;rw[r1.length];exact k.now S rfl
 | str z =>
   obtain⟨hf,e⟩:=zam e;cases e;obtain⟨v,rfl,rfl⟩:=R.one;exact ze8 pins s σ H _ us Q I r ⟨z,rfl,of_decide_eq_true hf,k.now S rfl⟩
 | _=>cases e
noncomputable def intC:GN
 | [.int i],st=>some (.int i,st)
 | [.bl b],st=>some (.int (if b then 1 else 0),st)
 | _,_=>none
noncomputable def absC:GN
 | [.int i],st=>some (.int (if i < 0 then -i else i),st)
 | _,_=>none
theorem ziN:zcM X (.builtin "abs") absC:=by
 rintro pins s σ H xs us Q I r ⟨ds,st,io,d,st',R,S,e,k⟩
 cases ds with
 | nil=>cases e
 | cons d0 r0 =>
 cases r0 with
 | cons d1 r1=>cases d0 <;> cases e
 | nil =>
 cases d0 with
 | int i =>
   cases e;obtain⟨v,rfl,rfl⟩:=R.one;exact zkO pins s σ H _ us Q I r ⟨i,rfl,k.now S rfl⟩
 | _=>cases e
noncomputable def zn1:GN
 | [.tup ds],st=>if fits ds.length=true then some (.ref st.length,st++[.lst ds]) else none
 | [.ref n],st=>(zba st n).bind fun ds=>if fits ds.length=true then some (.ref st.length,st++[.lst ds]) else none
 | [.kl ds],st=>if fits ds.length=true then some (.ref st.length,st++[.lst ds]) else none
 | _,_=>none
theorem zhw:zcM X (.type "list") zn1:=by
 rintro pins s σ H xs us Q I r ⟨ds,st,io,d,st',R,S,e,k⟩
 cases ds with
 | nil=>cases e
 | cons d0 r0 =>
 cases r0 with
 | cons d1 r1=>cases d0 <;> cases e
 | nil =>
 cases d0 with
 | tup ts =>
   obtain⟨hf,e⟩:=zam e;cases e;obtain⟨v,rfl,p,ys,rfl,hp,r1⟩:=R.one;exact zb3 pins s σ H _ us Q I r ⟨p,ys,rfl,.inr (SqT.of hp),fun l hl=>k.lst S r1 hl⟩
 | ref n =>
   obtain⟨ts,e0,e⟩:=zad e;obtain⟨hf,e⟩:=zam e;cases e;obtain⟨v,rfl,p,rfl,hp⟩:=R.one;obtain⟨ys,hx,r1⟩:=zaW S hp e0;exact zb3 pins s σ H _ us Q I r ⟨p,ys,rfl,.inl hx,fun l hl=>k.lst S r1 hl⟩
 | kl ts =>
   obtain⟨hf,e⟩:=zam e;cases e;obtain⟨v,rfl,p,ys,rfl,hx,r1⟩:=R.one;exact zb3 pins s σ H _ us Q I r ⟨p,ys,rfl,.inl hx.sq,fun l hl=>k.lst S r1 hl⟩
 | _=>cases e
noncomputable def zcS:GN
 | [.tup ds],st=>some (.tup ds,st)
 | [.ref n],st=>(zba st n).map fun ds=>(.tup ds,st)
 | _,_=>none
theorem zcx:zcM X (.type "tuple") zcS:=by
 rintro pins s σ H xs us Q I r ⟨ds,st,io,d,st',R,S,e,k⟩
 cases ds with
 | nil=>cases e
 | cons d0 r0 =>
 cases r0 with
 | cons d1 r1=>cases d0 <;> cases e
 | nil =>
 cases d0 with
 | tup ts =>
   cases e;obtain⟨v,rfl,p,ys,rfl,hp,r1⟩:=R.one;exact zcH pins s σ H _ us Q I r ⟨p,ys,rfl,.inr ⟨SqT.of hp,k.now S ⟨p,ys,rfl,hp,r1⟩⟩⟩
 | ref n =>
   obtain⟨ts,e0,e⟩:=zag e;cases e;obtain⟨v,rfl,p,rfl,hp⟩:=R.one;obtain⟨ys,hx,r1⟩:=zaW S hp e0;exact zcH pins s σ H _ us Q I r ⟨p,ys,rfl,.inl ⟨hx,fun l hl=>k.tup S r1 hl⟩⟩
 | _=>cases e
end
noncomputable def toPs(f:D->Option PyData):List D->Option (List PyData)
 | []=>some []
 | d::ds=>(f d).bind fun p=>(toPs f ds).map fun ps=>p::ps
noncomputable def toP:Nat->Sto->D->Option PyData
 | 0,_,_=>none
 | n+1,st,d=>match d with
   | .non=>some .none
   | .bl b=>some (.bool b)
   | .int i=>some (.int i)
   | .str x=>if EF x=true then some (.str x) else none
   | .tup ds=>(toPs (toP n st) ds).map .tuple
   | .ref k=>(zba st k).bind fun ds=>(toPs (toP n st) ds).map .list
   | .kl _=>none
theorem zcv{n:Nat}:∀ {ps:List PyData},(∀ p∈ps,p.depth<=n)->DO ps<=n
 | [],_=>by rw[DO];exact Bu _
 | p::ps,h=>by
   rw[DO];exact Nat.max_le.mpr ⟨h p An,zcv fun q hq=>h q (Ai _ hq)⟩
theorem zdf{ps:List PyData}:(∀ p∈ps,p.canLay0=true)->Bx ps=true:=by
 induction ps with
 | nil=>intro _;simp only[Bx]
 | cons p ps ih =>
   intro h;simp only[Bx];rw[h p An,ih fun q hq=>h q (Ai _ hq)];rfl
theorem zeN{f:D->Option PyData}:∀ {ds:List D} {ps:List PyData},toPs f ds=some ps->∀ p∈ps,∃ d,f d=some p
 | [],ps,h,p,hp=>by cases h;exact absurd hp (by simp)
 | d::ds,ps,h,p,hp=>by
   obtain⟨q,e1,h⟩:=zad h;obtain⟨qs,e2,h⟩:=zag h;subst h
   rcases List.mem_cons.mp hp with rfl | hp
   . exact⟨d,e1⟩
   . exact zeN e2 p hp
theorem zcT:∀ {n:Nat} {st:Sto} {d:D} {p:PyData},toP n st d=some p->p.canLay0=true/\p.depth<=n
 | 0,_,_,_,h=>by cases h
 | n+1,st,d,p,h=>by
   cases d with
   | non=>cases h;exact⟨by simp only[Bb],by simp only[Ct];exact Bu _⟩
   | bl b=>cases h;exact⟨by simp only[Bb],by simp only[Ct];exact Bu _⟩
   | int b=>cases h;exact⟨by simp only[Bb],by simp only[Ct];exact Bu _⟩
   | str b =>
     obtain⟨hs,h⟩:=zam h
     cases h;exact⟨by simp only[Bb];exact hs,by simp only[Ct];exact Bu _⟩
   | tup ds =>
     obtain⟨ps,e,h⟩:=zag h;subst h;have q:∀ p∈ps,p.canLay0=true/\p.depth<=n:=fun p hp=>let ⟨d,hd⟩:=zeN e p hp;zcT hd
     exact⟨by simp only[Bb];exact zdf fun p hp=>(q p hp).1,by simp only[Ct];exact CJ (zcv fun p hp=>(q p hp).2)⟩
   | kl ds=>cases h
   | ref k =>
     obtain⟨ds,e0,h⟩:=zad h;obtain⟨ps,e,h⟩:=zag h;subst h;have q:∀ p∈ps,p.canLay0=true/\p.depth<=n:=fun p hp=>let ⟨d,hd⟩:=zeN e p hp;zcT hd
     exact⟨by simp only[Bb];exact zdf fun p hp=>(q p hp).1,by simp only[Ct];exact CJ (zcv fun p hp=>(q p hp).2)⟩
section
variable {X:Cx} {a b:Expr} {pos:Pos} {ma mb:ME} {pins:List (Addr×Obj)} {σ:L2.St} {H:Hp} {s:Shared} {io:List Addr} {st:Sto}
theorem zcn{f:D->Option PyData}(hf:∀ {v:V} {u:Value} {d:D} {p:PyData},Rep X.K H io v d->RelV v u->f d=some p->∃ as,Reads s.heap u p as) :
   ∀ {xs:List V} {us:List Value} {ds:List D} {ps:List PyData},Reps X.K H io xs ds->Vals xs us->toPs f ds=some ps->∃ as,ReadsAll s.heap us ps as
 | _,_,[],ps,h,r,e=>by
   cases (show _=[] from h)
   cases r;cases e;exact⟨_,.nil⟩
 | _,_,d::ds,ps,h,r,e=>by
   obtain⟨y,ys,rfl,h1,h2⟩:=h
   cases r with
   | cons r1 r2 =>
     obtain⟨q,e1,e⟩:=zad e;obtain⟨qs,e2,e⟩:=zag e;subst e;obtain⟨as,ra⟩:=hf h1 r1 e1;obtain⟨bs,rb⟩:=zcn hf h2 r2 e2;exact⟨_,.cons ra rb⟩
theorem zbo(I:Inv X pins σ H s)(S:StR X.K H io st):∀ {n:Nat} {v:V} {u:Value} {d:D} {p:PyData},Rep X.K H io v d->RelV v u->toP n st d=some p->∃ as,Reads s.heap u p as
 | 0,_,_,_,_,_,_,h=>by cases h
 | n+1,v,u,d,p,h,r,e=>by
   cases d with
   | non=>cases e;cases (show v=.non from h);cases r;exact⟨_,.none⟩
   | bl b=>cases e;cases (show v=.bl b from h);cases r;exact⟨_,.bool _⟩
   | int b=>cases e;cases (show v=.int b from h);obtain⟨t,rfl⟩:=r;exact⟨_,.int _ _⟩
   | str b =>
     obtain⟨hs,e⟩:=zam e
     cases e;cases (show v=.str b from h);obtain⟨t,rfl⟩:=r;exact⟨_,.str _ _⟩
   | tup ds =>
     obtain⟨ps,e',q⟩:=zag e;subst q;obtain⟨a,xs,rfl,ha,rs⟩:=h;cases r;obtain⟨its,rv,⟨o,ho,hc,k,hd⟩,hz⟩:=I.tuple (SqT.of ha);obtain⟨as,ra⟩:=zcn (f:=toP n st) (fun h r e=>zbo I S h r e) rs rv e';exact⟨_,.tuple ho hc hd (by simpa using ra)⟩
   | kl ds=>cases e
   | ref k =>
     obtain⟨ds,e0,e⟩:=zad e;obtain⟨ps,e',q⟩:=zag e;subst q;obtain⟨a,rfl,ha⟩:=h;cases r;obtain⟨xs,hx,rs⟩:=zaW S ha e0;obtain⟨its,rv,⟨o,k,ho,hc,_,hd⟩,hz⟩:=I.list hx;obtain⟨as,ra⟩:=zcn (f:=toP n st) (fun h r e=>zbo I S h r e) rs rv e';exact⟨_,.list ho hc hd (by simpa using ra)⟩
noncomputable def eqD:G2:=fun x y st=>(toP 100 st x).bind fun p=>(toP 100 st y).map fun q=>(.bl (BD p q),st)
noncomputable def neD:G2:=fun x y st=>(toP 100 st x).bind fun p=>(toP 100 st y).map fun q=>(.bl !PyData.eqv p q,st)
theorem zdm(hu:X.A.units+100 < cLine):OpM X (compareOp .Eq) eqD:=by
 rintro pins s σ H x y v u Q I rx ry ⟨dx,dy,st,io,d,st',Rx,Ry,S,e,k⟩;obtain⟨p,e1,e⟩:=zad e;obtain⟨q,e2,e⟩:=zag e;cases e;obtain⟨as,ra⟩:=zbo I S Rx rx e1;obtain⟨bs,rb⟩:=zbo I S Ry ry e2;have h1:=zcT e1;have h2:=zcT e2;exact PySem.SeqAt.compareEq_reads ra rb h1.1 h2.1 (Bs (C0 (AC (Fh _ _) h1.2) _) hu) ⟨.bl _,H,I,rfl,k.now S rfl⟩
theorem zgV(hu:X.A.units+100 < cLine):OpM X (compareOp .NotEq) neD:=by
 rintro pins s σ H x y v u Q I rx ry ⟨dx,dy,st,io,d,st',Rx,Ry,S,e,k⟩;obtain⟨p,e1,e⟩:=zad e;obtain⟨q,e2,e⟩:=zag e;cases e;obtain⟨as,ra⟩:=zbo I S Rx rx e1;obtain⟨bs,rb⟩:=zbo I S Ry ry e2;have h1:=zcT e1;have h2:=zcT e2;exact PySem.SeqAt.compareNe_reads ra rb h1.1 h2.1 (Bs (C0 (AC (Fh _ _) h1.2) _) hu) ⟨.bl _,H,I,rfl,k.now S rfl⟩
theorem zaO{k:Nat}{A:Around}(hr:Room k A):A.units+100 < cLine:=by have:=hr.un;omega
end
section
variable {X:Cx} {pins:List (Addr×Obj)} {σ:L2.St} {H:Hp} {s:Shared} {h':Heap}
theorem Inv.turnNew{t':Nat}{fp:List Addr}{p:Addr}{o:HO}(I:Inv X pins σ H s)(hf:∀ b∈fp,FpOk X pins H b)(k:∀ b ob,b ∉ fp->s.heap.get? b=some ob->h'.get? b=some ob)(hp:s.heap.objs.size<=p)
   (hfp:∀ b∈fp,∀ ob,s.heap.get? b=some ob->∃ ob',h'.get? b=some ob') (new:zcA X.prog X.w (upd H p o) h' p o):Inv X pins σ (upd H p o) { s with heap:=h',toks:=t' }:=by
 have hpn:=I.hok.fresh hp;have nlt:∀ b ob,s.heap.get? b=some ob->b≠p:=fun b ob e=>AG (Ap (Ak e) hp);refine Inv.step (ch:=fp) (g':=s.gens) (d':=s.drawn) I (fun b hb=>⟨(hf b hb).2.2.2.1,(hf b hb).2.1,(hf b hb).2.2.2.2.1,(hf b hb).2.2.2.2.2⟩) (fun b ob _ _ hc e _=>k b ob hc e) (fun b ob _ _ hc e _=>⟨ob.slots,k b ob hc e⟩)
   (fun b ob hc e n=>by rw[zaG (nlt b ob e)];exact n) (fun b ob hc e=>⟨ob,k b ob hc e⟩) (fun b xs e=>by rw[zaG (zaq e hpn)];exact e) (fun b ob u e=>by rw[zaG (zaq e hpn)];exact e)
   (fun b ps e=>⟨#[],by rw[zaG (zaq e hpn),e];simp⟩) (fun m hm=>?_) (fun b u e=>?_) I.bare
 . obtain⟨ob,es,ep,ho,r⟩:=hm;exact⟨ob,es,ep,k _ ob (fun z=>(hf _ z).2.1 rfl) ho,r⟩
 . by_cases hb:b=p
   . subst hb;rw[zbn] at e;cases e;exact new
   . rw[zaG hb] at e;refine (I.hok b u e).stay (fun c v hc q=>k c v (fun z=>?_) q) (fun c q=>by rw[zaG (zaq q hpn)];exact q) fun c xs q=>by rw[zaG (zaq q hpn)];exact q
     have hz:=(hf c z).1
     rcases hc with rfl | hc
     . rw[hz] at e;cases e
     . rw[hz] at hc;cases hc
theorem Inv.turnAll{t':Nat}{fp:List Addr}(I:Inv X pins σ H s)(hf:∀ b∈fp,FpOk X pins H b)(k:∀ b ob,b ∉ fp->s.heap.get? b=some ob->h'.get? b=some ob):Inv X pins σ H { s with heap:=h',toks:=t' }:=by
 refine Inv.step (ch:=fp) (g':=s.gens) (d':=s.drawn) I (fun b hb=>⟨(hf b hb).2.2.2.1,(hf b hb).2.1,(hf b hb).2.2.2.2.1,(hf b hb).2.2.2.2.2⟩) (fun b ob _ _ hc e _=>k b ob hc e) (fun b ob _ _ hc e _=>⟨ob.slots,k b ob hc e⟩)
   (fun b ob hc e n=>n) (fun b ob hc e=>⟨ob,k b ob hc e⟩) (fun b xs e=>e) (fun b ob u e=>e)
   (fun b ps e=>⟨#[],by rw[e];simp⟩) (fun m hm=>?_) (fun b u e=>?_) I.bare
 . obtain⟨ob,es,ep,ho,r⟩:=hm;exact⟨ob,es,ep,k _ ob (fun z=>(hf _ z).2.1 rfl) ho,r⟩
 . refine (I.hok b u e).stay (fun c v hc q=>k c v (fun z=>?_) q) (fun c q=>q) fun c xs q=>q;have hz:=(hf c z).1
   rcases hc with rfl | hc
   . rw[hz] at e;cases e
   . rw[hz] at hc;cases hc
end
section
variable {X:Cx} {m:ME}
theorem boot_enumerate:bootBuiltins "enumerate"=some (.type "enumerate"):=by decide +kernel
noncomputable def pairs(ds:List D):List D:=(ds.zipIdx).map fun (d,k)=>.tup [.int (k:Nat),d]
theorem zfm{ds:List D}{i:Nat}{d:D}(h:(pairs ds)[i]?=some d):∃ e,ds[i]?=some e/\d=.tup [.int (i:Nat),e]:=by
 unfold pairs at h;rw[AE,List.getElem?_zipIdx] at h
 cases e:ds[i]? with
 | none=>rw[e] at h;cases h
 | some x =>
   rw[e] at h;simp at h;exact⟨x,rfl,h.symm⟩
theorem pairs_len(ds:List D):(pairs ds).length=ds.length:=by unfold pairs;simp
end
section
variable {κ:Type} [DecidableEq κ] {K:Ab} {H:Hp} {io:List Addr}
noncomputable def valD(kvs:List (κ×D))(k:κ):Option D:=(kvs.find? fun kv=>decide (kv.1=k)).map (·.2)
noncomputable def putD(kvs:List (κ×D))(k:κ)(d:D):List (κ×D) :=
 if (kvs.any fun kv=>decide (kv.1=k))=true then kvs.map (fun kv=>if kv.1=k then (kv.1,d) else kv) else kvs++[(k,d)]
theorem KR.any{ps:List (κ×V)}{kvs:List (κ×D)}(r:KR κ K H io ps kvs)(k:κ):(ps.any fun kv=>decide (kv.1=k))=(kvs.any fun kv=>decide (kv.1=k)):=by
 induction r with
 | nil=>rfl
 | cons z t ih=>rw[BG,BG,ih,z.1]
theorem KR.length{ps:List (κ×V)}{kvs:List (κ×D)}(r:KR κ K H io ps kvs):ps.length=kvs.length:=BP r
theorem KR.val{ps:List (κ×V)}{kvs:List (κ×D)}(r:KR κ K H io ps kvs)(k:κ):(valD kvs k=none/\valV ps k=none)\/∃ d v,valD kvs k=some d/\valV ps k=some v/\Rep K H io v d:=by
 induction r with
 | nil=>exact .inl ⟨rfl,rfl⟩
 | @cons p q l1 l2 z t ih =>
   unfold valD valV at *;rw[Bz,Bz,z.1]
   by_cases e:q.1=k
   . rw[decide_eq_true e];exact .inr ⟨q.2,p.2,rfl,rfl,z.2⟩
   . rw[decide_eq_false e];exact ih
theorem KR.append{ps qs:List (κ×V)}{kvs lvs:List (κ×D)}(r:KR κ K H io ps kvs)(r':KR κ K H io qs lvs):KR κ K H io (ps++qs) (kvs++lvs):=by
 induction r with
 | nil=>exact r'
 | cons z t ih=>exact .cons z ih
theorem KR.put{ps:List (κ×V)}{kvs:List (κ×D)}(r:KR κ K H io ps kvs)(k:κ){v:V}{d:D}(rv:Rep K H io v d):KR κ K H io (putK ps k v) (putD kvs k d):=by
 unfold putK putD;rw[KR.any r k]
 by_cases e:(kvs.any fun kv=>decide (kv.1=k))=true
 . rw[if_pos e,if_pos e]
   induction r with
   | nil=>exact .nil
   | @cons p q l1 l2 z t ih =>
     rw[Ax,Ax];have hrest:KR κ K H io (l1.map fun kv=>if kv.1=k then (kv.1,v) else kv) (l2.map fun kv=>if kv.1=k then (kv.1,d) else kv):=by
       clear ih e
       induction t with
       | nil=>exact .nil
       | @cons p q l1 l2 z t ih =>
         rw[Ax,Ax];refine .cons ?_ ih;rw[z.1]
         by_cases e:q.1=k
         . rw[if_pos e,if_pos e];exact⟨rfl,rv⟩
         . rw[if_neg e,if_neg e];exact z
     refine .cons ?_ hrest;rw[z.1]
     by_cases e:q.1=k
     . rw[if_pos e,if_pos e];exact⟨rfl,rv⟩
     . rw[if_neg e,if_neg e];exact z
 . rw[if_neg e,if_neg e];exact KR.append r (.cons ⟨rfl,rv⟩ .nil)
end
noncomputable def keyOf:D->Option Key
 | .int i=>some (.inl i)
 | .str x=>some (.inr x)
 | _=>none
noncomputable def keysOf:List D->Option (List Key)
 | []=>some []
 | d::ds=>(keyOf d).bind fun k=>(keysOf ds).map fun ks=>k::ks
section
variable {X:Cx} {K:Ab} {H:Hp} {io:List Addr} {st st':Sto} {a b e:Expr} {es:List Expr} {ma mb m:ME} {mm:MA} {pos:Pos}
theorem zd5{v:V}{d:D}{k:Key}(h:Rep K H io v d)(e:keyOf d=some k):v=kV k:=by
 cases d with
 | int i=>cases e;exact h
 | str i=>cases e;exact h
 | _=>cases e
theorem zcf:∀ {xs:List V} {ds:List D} {ks:List Key},Reps K H io xs ds->keysOf ds=some ks->xs=ks.map kV
 | _,[],ks,h,e=>by cases e;exact h
 | _,d::ds,ks,h,e=>by
   obtain⟨y,ys,rfl,h1,h2⟩:=h;obtain⟨k,e1,e⟩:=zad e;obtain⟨ks',e2,e⟩:=zag e;subst e;rw[zd5 h1 e1,zcf h2 e2];rfl
noncomputable def look(st:Sto)(n:Nat)(k:D):Option (Option D):=match st[n]? with
 | some (.dk kvs)=>(keyOf k).map fun q=>valD kvs q
 | some (.dt kvs)=>match k with
   | .tup ds=>(keysOf ds).map fun q=>valD kvs q
   | _=>none
 | _=>none
theorem zg6{n:Nat}{p:Addr}{k:D}{y:V}{r:Option D}(S:StR K H io st)(hp:io[n]?=some p)(ry:Rep K H io y k)(h:look st n k=some r):∃ o,DGet H p y o/\((r=none/\o=none)\/∃ d v,r=some d/\o=some v/\Rep K H io v d):=by
 unfold look at h
 split at h
 . rename_i kvs e;obtain⟨q,e1,h⟩:=zag h;subst h;obtain⟨ps,hH,r⟩:=S.ob n p _ hp e;have ey:=zd5 ry e1;subst ey;refine⟨_,DGet.k hH,?_⟩
   rcases KR.val r q with ⟨h1,h2⟩ | ⟨d,v,h1,h2,h3⟩
   . exact .inl ⟨h1,h2⟩
   . exact .inr ⟨d,v,h1,h2,h3⟩
 . rename_i kvs e
   split at h
   . rename_i ds;obtain⟨q,e1,h⟩:=zag h;subst h;obtain⟨ps,hH,r⟩:=S.ob n p _ hp e;obtain⟨b,xs,rfl,hb,rs⟩:=ry;have ex:=zcf rs e1;subst ex;refine⟨_,DGet.t hH hb,?_⟩
     rcases KR.val r q with ⟨h1,h2⟩ | ⟨d,v,h1,h2,h3⟩
     . exact .inl ⟨h1,h2⟩
     . exact .inr ⟨d,v,h1,h2,h3⟩
   . cases h
 . cases h
noncomputable def zoE(md mk:ME):ME:=fun ρ st=>(md ρ st).bind fun (d,s1)=>(mk ρ s1).bind fun (k,s2)=>match d with
 | .ref n=>(look s2 n k).bind fun r=>r.map fun v=>(v,s2)
 | _=>none
theorem zlz{o i:Expr}{md mk:ME}(hu:X.A.units+1 < cLine)(ho:SE X o md)(hi:SE X i mk)(hs:NoSl i:=by intro _ _;rfl):SE X (.Subscript o i pos) (zoE md mk):=PE.imp (zlV hu ho hi hs) <| by
 rintro σ H Q ⟨ρ,st,io,d,st',E,S,e,k⟩;obtain⟨⟨x,s1⟩,e1,e⟩:=zad e;obtain⟨⟨y,s2⟩,e2,e⟩:=zad e
 cases x with
 | ref n =>
   obtain⟨r,e3,e⟩:=zad e;obtain⟨w,e4,e⟩:=zag e;cases e;subst e4;refine⟨ρ,st,io,_,s1,E,S,e1,fun v1 H1 k1 X1 S1 R1=>⟨ρ,s1,io++k1,y,_,E.ext S X1,S1,e2,fun v2 H2 k2 X2 S2 R2=>?_⟩⟩;obtain⟨p,rfl,hp⟩:=R1;obtain⟨o,g,⟨z,_⟩ | ⟨d',v,hd,hv,rv⟩⟩:=zg6 S2 (zbp hp) R2 e3
   . cases z
   . cases hd;subst hv;exact⟨p,v,rfl,g,((k.on S1 X1).on S2 X2).now S2 rv⟩
 | _=>cases e
noncomputable def mDIn(neg:Bool)(mk md:ME):ME:=fun ρ st=>(mk ρ st).bind fun (k,s1)=>(md ρ s1).bind fun (d,s2)=>match d with
 | .ref n=>(look s2 n k).map fun r=>(.bl (if neg then !r.isSome else r.isSome),s2)
 | _=>none
theorem zfC{neg:Bool}{mk md:ME}{σ:L2.St}{Q:VK}(h:tE K (mDIn neg mk md) σ H Q):tE K mk σ H fun y H1=>tE K md σ H1 fun x H2=>∃ a o,x=.ref a/\DGet H2 a y o/\Q (.bl (if neg then !o.isSome else o.isSome)) H2:=by
 obtain⟨ρ,st,io,d,st',E,S,e,k⟩:=h;obtain⟨⟨y,s1⟩,e1,e⟩:=zad e;obtain⟨⟨x,s2⟩,e2,e⟩:=zad e
 cases x with
 | ref n =>
   obtain⟨r,e3,e⟩:=zag e;cases e;refine⟨ρ,st,io,y,s1,E,S,e1,fun v1 H1 k1 X1 S1 R1=>⟨ρ,s1,io++k1,_,_,E.ext S X1,S1,e2,fun v2 H2 k2 X2 S2 R2=>?_⟩⟩;obtain⟨p,rfl,hp⟩:=R2;obtain⟨o,g,z⟩:=zg6 S2 hp (R1.ext S1 X2) e3;have:o.isSome=r.isSome:=by
     rcases z with ⟨a,b⟩ | ⟨d',v,a,b,_⟩
     . rw[a,b];rfl
     . rw[a,b];rfl
   exact⟨p,o,rfl,g,by rw[this];exact ((k.on S1 X1).on S2 X2).now S2 rfl⟩
 | _=>cases e
end
section
variable {X:Cx} {K:Ab} {H:Hp} {io:List Addr} {st st':Sto} {a b c e:Expr} {es:List Expr} {ma mb mc m:ME} {mm:MA} {pos:Pos}
theorem zng{o i:Expr}{md mk:ME}(hu:X.A.units+1 < cLine)(hi:SE X i mk)(ho:SE X o md)(hm:behindInMarks .In o=false:=by rfl):SB X (.Compare i [.In] [o] pos) (mTst (mDIn false mk md)) :=
 PT.imp (zlK (znH hu hi ho) hm) fun σ H Q h=>zfC (zb9 h)
theorem zh9{o i:Expr}{md mk:ME}(hu:X.A.units+1 < cLine)(hi:SE X i mk)(ho:SE X o md)(hm:behindInMarks .NotIn o=false:=by rfl):SB X (.Compare i [.NotIn] [o] pos) (mTst (mDIn true mk md)) :=
 PT.imp (zlK (zii hu hi ho) hm) fun σ H Q h=>zfC (zb9 h)
noncomputable def dput(st:Sto)(n:Nat)(k d:D):Option Sto:=match st[n]? with
 | some (.dk kvs)=>(keyOf k).bind fun q=>if decide (kvs.length < sizeLine)=true then some (st.set n (.dk (putD kvs q d))) else none
 | some (.dt kvs)=>match k with
   | .tup ds=>(keysOf ds).bind fun q=>if decide (kvs.length < sizeLine)=true then some (st.set n (.dt (putD kvs q d))) else none
   | _=>none
 | _=>none
theorem zkG{n:Nat}{p:Addr}{k d:D}{y v:V}(S:StR K H io st)(hp:io[n]?=some p)(ry:Rep K H io y k)(rv:Rep K H io v d)(h:dput st n k d=some st'):∃ H',DPut H p y v H'/\Ext io [] H H'/\StR K H' (io++[]) st':=by
 unfold dput at h
 split at h
 . rename_i kvs e;obtain⟨q,e1,h⟩:=zad h;obtain⟨hl,h⟩:=zam h;cases h;obtain⟨ps,hH,r⟩:=S.ob n p _ hp e;have ey:=zd5 ry e1;subst ey;have:=KR.length r;refine⟨_,DPut.k hH (by rw[this];exact of_decide_eq_true hl),?_⟩;exact zdS S hp e (fun o u z=>by rw[hH] at z;cases z) fun H' T e'=>⟨_,e',KR.put (KR.mono T r) q (Rep.mono T rv)⟩
 . rename_i kvs e
   split at h
   . rename_i ds;obtain⟨q,e1,h⟩:=zad h;obtain⟨hl,h⟩:=zam h;cases h;obtain⟨ps,hH,r⟩:=S.ob n p _ hp e;obtain⟨b,xs,rfl,hb,rs⟩:=ry;have ex:=zcf rs e1;subst ex;have:=KR.length r;refine⟨_,DPut.t hH hb (by rw[this];exact of_decide_eq_true hl),?_⟩;exact zdS S hp e (fun o u z=>by rw[hH] at z;cases z) fun H' T e'=>⟨_,e',KR.put (KR.mono T r) q (Rep.mono T rv)⟩
   . cases h
 . cases h
noncomputable def zmg(md mk mv:ME):MS:=fun ρ st=>(mv ρ st).bind fun (v,s1)=>(md ρ s1).bind fun (d,s2)=>(mk ρ s2).bind fun (k,s3)=>match d with
 | .ref n=>(dput s3 n k v).map fun s4=>(.nx ρ,s4)
 | _=>none
theorem zlm{o i value:Expr}{md mk mv:ME}{pos':Pos}(hu:X.A.units+1 < cLine)(ho:SE X o md)(hi:SE X i mk)(hv:SE X value mv)(hs:swapsWith value (some (.Subscript o i pos')) pos.line X.env=pure false:=by rfl) :
   SS X (.Assign [.Subscript o i pos'] value pos) (zmg md mk mv):=PS.imp (zlO hu ho hi hv hs) fun N σ H h=>by
 obtain⟨ρ,st,io,f,st',E,S,e,w⟩:=zca.mp h;obtain⟨⟨v,s1⟩,e1,e⟩:=zad e;obtain⟨⟨d,s2⟩,e2,e⟩:=zad e;obtain⟨⟨k,s3⟩,e3,e⟩:=zad e
 cases d with
 | ref n =>
   obtain⟨s4,e4,e⟩:=zag e;cases e;refine⟨ρ,st,io,v,s1,E,S,e1,fun v1 H1 k1 X1 S1 R1=>⟨ρ,s1,io++k1,_,s2,E.ext S X1,S1,e2,fun v2 H2 k2 X2 S2 R2=>⟨ρ,s2,(io++k1)++k2,k,s3,(E.ext S X1).ext S1 X2,S2,e3,fun v3 H3 k3 X3 S3 R3=>?_⟩⟩⟩;obtain⟨p,rfl,hp⟩:=R2;obtain⟨H4,g,X4,S4⟩:=zkG S3 (zbp hp) R3 ((R1.ext S1 X2).ext S2 X3) e4;refine⟨p,H4,rfl,g,?_⟩;have w3:∀ σ' H' kb,Ext (((io++k1)++k2)++k3) kb H3 H'->_:=zer (zer (zer w X1 S1) X2 S2) X3 S3;exact w3 σ H4 [] X4 S4 ((((E.ext S X1).ext S1 X2).ext S2 X3).ext S3 X4)
 | _=>cases e
noncomputable def zmh(t:Bool):ME:=fun _ st=>some (.ref st.length,st++[if t then .dt [] else .dk []])
theorem zjR:SE X (.Dict [] [] pos) (zmh false):=PE.imp zkb <| by
 rintro σ H Q ⟨ρ,st,io,d,st',E,S,e,k⟩;cases e;intro p hp;obtain⟨E',S'⟩:=ziq (o:=.dK []) (ob:=.dk []) S hp fun H' T e=>⟨[],e,.nil⟩
 exact k _ _ [p] E' S' ⟨p,rfl,by rw[<-S.len];exact getElem?_len io p⟩
inductive mtM (K:Ab) (g:D->List D->Sto->Option (D×Sto)) (x:V) (xs:List V) (H:Hp) (Q:VK):Prop
 | mk (dx:D) (ds:List D) (st:Sto) (io:List Addr) (d:D) (st':Sto) (h0:Rep K H io x dx) (h1:Reps K H io xs ds) (h2:StR K H io st) (h3:g dx ds st=some (d,st')) (h4:Bh K io H st' d Q)
noncomputable def zbR:D->List D->Sto->Option (D×Sto):=fun x xs st=>match x,xs with
 | .ref n,[d]=>match st[n]? with
   | some (.lst ds)=>if decide (ds.length < sizeLine)=true then some (.non,st.set n (.lst (ds++[d]))) else none
   | _=>none
 | _,_=>none
theorem append_in{n:Nat}{d:D}{ds:List D}{xs:List D}(h:zbR (.ref n) xs st=some (d,st')):∃ ds x,st[n]?=some (.lst ds)/\xs=[x]/\ds.length < sizeLine/\d=.non/\st'=st.set n (.lst (ds++[x])):=by
 unfold zbR at h
 match xs,h with
 | [x],h =>
   dsimp only at h
   split at h
   . rename_i ds e;obtain⟨hl,h⟩:=zam h;cases h;exact⟨ds,x,e,rfl,of_decide_eq_true hl,rfl,rfl⟩
   . cases h
 | [],h=>cases h
 | _::_::_,h=>cases h
theorem zg2:MtR X "list.append" (mtM X.K zbR):=by
 rintro pins s σ H x xs v us Q I rx rs ⟨dx,ds,st,io,d,st',Rx,Rs,S,e,k⟩
 cases dx with
 | ref n =>
   obtain⟨l,y,e1,rfl,hl,rfl,rfl⟩:=append_in (ds:=[]) e;obtain⟨p,rfl,hp⟩:=Rx;obtain⟨w,rfl,Rw⟩:=Rs.one;obtain⟨ys,hH,r⟩:=S.ob n p _ hp e1;refine zfu pins s σ H _ _ v us Q I rx rs ⟨p,ys,w,rfl,rfl,hH,by rw[r.length];exact hl,?_⟩;obtain⟨E',S'⟩:=zdS (o:=.lst (ys++[w])) (ob:=.lst (l++[y])) S hp e1 (fun o u z=>by rw[hH] at z;cases z) fun H' T e'=>⟨_,e',(Reps.mono T r).append (Reps.cons (Rep.mono T Rw) Reps.nil)⟩
   exact k _ _ [] E' S' rfl
 | _=>unfold zbR at e;cases ds <;> cases e
theorem zdF{n:Nat}{v:V}{l:List D}(R:Rep K H io v (.ref n))(S:StR K H io st)(h:zba st n=some l):tyV K "list" v H:=by
 obtain⟨p,rfl,hp⟩:=R;obtain⟨xs,hx,_⟩:=zaW S hp h;exact .inl ⟨rfl,xs,hx⟩
noncomputable def mApp(m:ME)(mm:MA):ME:=fun ρ st=>(m ρ st).bind fun (x,s1)=>match x with
 | .ref n=>(zba s1 n).bind fun _=>(mm ρ s1).bind fun (xs,s2)=>zbR x xs s2
 | _=>none
theorem zcd{o:Expr}{apos cpos:Pos}(ho:SE X o m)(ha:SA X (e::es) mm)
   (hbase:attributeBase o "append" X.env (eval o X.env)=eval o X.env:=by rfl)
   (hfew:((backTo cpos (starEach (e::es) X.env)).all (fun x=>!x.1)&&(backToKw cpos (keywordEach [] X.env)).all (fun x=>x.1.isSome)
    &&decide ((e::es).length+([]:List Keyword).length+(if ([]:List Keyword).isEmpty then 0 else 1) < 30))=true:=by rfl)
   (hline:(apos.endLine==cpos.line)=true:=by rfl) (hs:starEach (e::es) X.env=(false,eval e X.env)::starEach es X.env:=by rfl) (hplain:(backTo cpos (starEach es X.env)).any (·.1)=false:=by rfl) :
   SE X (.Call (.Attribute o "append" apos) (e::es) [] cpos) (mApp m mm) :=
 PE.imp (znF B6 PySem.F.slot_list_append PySem.F.type_list_append zg2 ho ha hbase hfew hline hs hplain) <| by
   rintro σ H Q ⟨ρ,st,io,d,st',E,S,e,k⟩;obtain⟨⟨x,s1⟩,e1,e⟩:=zad e
   cases x with
   | ref n =>
     obtain⟨l,e0,e⟩:=zad e;obtain⟨⟨xs,s2⟩,e2,e⟩:=zad e;refine⟨ρ,st,io,_,s1,E,S,e1,fun v1 H1 k1 X1 S1 R1=>⟨zdF R1 S1 e0,ρ,s1,io++k1,xs,s2,E.ext S X1,S1,e2,fun vs H2 k2 X2 S2 R2=>?_⟩⟩;exact⟨_,xs,s2,(io++k1)++k2,d,st',R1.ext S1 X2,R2,S2,e,(k.on S1 X1).on S2 X2⟩
   | _=>cases e
noncomputable abbrev MO:=Rho->Sto->Option (Option Int×Sto)
inductive tOm (K:Ab) (m:MO) (σ:L2.St) (H:Hp) (Q:Option Int->Hp->Prop):Prop
 | mk (ρ:Rho) (st:Sto) (io:List Addr) (d:Option Int) (st':Sto) (h1:EnvR K H io σ ρ) (h2:StR K H io st) (h3:m ρ st=some (d,st')) (h4:∀ H' ka,Ext io ka H H'->StR K H' (io++ka) st'->Q d H')
def SO(X:Cx)(e:Option Expr)(m:MO):Prop:=PO X e (tOm X.K m)
noncomputable def zb6:MO:=fun _ st=>some (none,st)
noncomputable def zbI(m:ME):MO:=fun ρ st=>(m ρ st).bind fun (d,s)=>match d with
 | .int i=>some (some i,s)
 | _=>none
theorem zbF:SO X none zb6:=fun pins s σ H Q I ⟨ρ,st,io,d,st',E,S,e,k⟩=>zlP pins s σ H Q I (by cases e;exact k H [] Ext.refl S.nil)
theorem zbv(h:SE X e m):SO X (some e) (zbI m):=fun pins s σ H Q I ⟨ρ,st,io,d,st',E,S,e,k⟩=>zi7 h pins s σ H Q I (by
 obtain⟨⟨x,s1⟩,e1,e⟩:=zad e
 cases x with
 | int i =>
   cases e;exact⟨ρ,st,io,_,_,E,S,e1,fun v1 H1 k1 X1 S1 R1=>⟨i,R1,k H1 k1 X1 S1⟩⟩
 | _=>cases e)
noncomputable def cutD(xs:List D)(lo hi:Option Int):List D:=(xs.drop (HT.sIx xs.length 0 lo)).take (HT.sIx xs.length xs.length hi - HT.sIx xs.length 0 lo)
theorem zhm{xs:List V}{ds:List D}(r:Reps K H io xs ds)(lo hi:Option Int):Reps K H io (cutV xs lo hi) (cutD ds lo hi):=by
 unfold cutV cutD;rw[r.length];exact (r.drop _).take _
noncomputable def slD:D->Option Int->Option Int->Sto->Option (D×Sto):=fun x lo hi st=>match x with
 | .tup ds=>if (decide (HT.sIx ds.length 0 lo=0)&&decide (HT.sIx ds.length ds.length hi=ds.length))=true then none else some (.tup (cutD ds lo hi),st)
 | .ref n=>(zba st n).map fun ds=>(.ref st.length,st++[.lst (cutD ds lo hi)])
 | _=>none
noncomputable def mSl(m:ME)(l h:MO):ME:=fun ρ st=>(m ρ st).bind fun (x,s1)=>(l ρ s1).bind fun (lo,s2)=>(h ρ s2).bind fun (hi,s3)=>slD x lo hi s3
noncomputable def rSlM(K:Ab):V->Option Int->Option Int->Hp->VK->Prop:=fun x lo hi H Q=>rSlT K x lo hi H Q\/rSlL K x lo hi H Q
theorem sl_M:SlR X (rSlM X.K):=by
 intro pins s σ H x v vl vu lo hi sl Q I rx hs pl pu h
 rcases h with h | h
 . exact zm4 pins s σ H x v vl vu lo hi sl Q I rx hs pl pu h
 . exact ziZ pins s σ H x v vl vu lo hi sl Q I rx hs pl pu h
theorem zjP{lo hi:Option Expr}{ml mh:MO}{p2:Pos}(he:SE X e m)(hl:SO X lo ml)(hu:SO X hi mh):SE X (.Subscript e (.Slice lo hi none p2) pos) (mSl m ml mh):=PE.imp (zdW sl_M he hl hu) <| by
 rintro σ H Q ⟨ρ,st,io,d,st',E,S,e,k⟩;obtain⟨⟨x,s1⟩,e1,e⟩:=zad e;obtain⟨⟨lo',s2⟩,e2,e⟩:=zad e;obtain⟨⟨hi',s3⟩,e3,e⟩:=zad e;refine⟨ρ,st,io,x,s1,E,S,e1,fun v1 H1 k1 X1 S1 R1=>⟨ρ,s1,io++k1,lo',s2,E.ext S X1,S1,e2,fun H2 k2 X2 S2=>⟨ρ,s2,(io++k1)++k2,hi',s3,(E.ext S X1).ext S1 X2,S2,e3,fun H3 k3 X3 S3=>?_⟩⟩⟩;have R3:=(R1.ext S1 X2).ext S2 X3;have k':=((k.on S1 X1).on S2 X2).on S3 X3
 cases x with
 | tup ds =>
   have e:(if (decide (HT.sIx ds.length 0 lo'=0)&&decide (HT.sIx ds.length ds.length hi'=ds.length))=true then none else some (D.tup (cutD ds lo' hi'),s3))=some (d,st'):=e
   by_cases hw:(decide (HT.sIx ds.length 0 lo'=0)&&decide (HT.sIx ds.length ds.length hi'=ds.length))=true
   . rw[if_pos hw] at e;cases e
   . rw[if_neg hw] at e;cases e;obtain⟨p,xs,rfl,hp,r⟩:=R3;refine .inl ⟨p,xs,rfl,SqT.of hp,fun z=>hw ?_,fun q hq=>k'.tup S3 (zhm r _ _) hq⟩;rw[r.length] at z;rw[Ao];exact⟨decide_eq_true z.1,decide_eq_true z.2⟩
 | ref n =>
   obtain⟨ds,e0,e⟩:=zag e;cases e;obtain⟨p,rfl,hp⟩:=R3;obtain⟨xs,hx,r⟩:=zaW S3 hp e0;exact .inr ⟨p,xs,rfl,hx,fun q hq=>k'.lst S3 (zhm r _ _) hq⟩
 | _=>cases e
noncomputable def zkC:G2:=intD (fun _ j=>decide (0 < j)&&decide (j < 2 ^ 128)) fun i j=>.int (i / j)
theorem zeV:OpM X (binaryOp .FloorDiv) zkC:=zdr (C:=fun i j=>0 < j/\j < 2 ^ 128) (opI fun i j _ _ _ _ _ hc q=>by
 refine floordiv_int (by omega) (by rw[Int.fdiv_eq_ediv_of_nonneg i (by omega)];exact q) (.inl (PyProof.noPylong_of_log2 ?_));have h0:j.natAbs≠0:=by omega
 have h1:j.natAbs < 2 ^ 128:=by omega
 exact Ez ((EO h0).mpr h1) (by decide)) fun i j h=>by
   rw[Ao] at h;exact⟨of_decide_eq_true h.1,of_decide_eq_true h.2⟩
noncomputable def powB:G2:=intD (fun i j=>decide (0<=j)&&decide ((Bg i:Int)*j<=2 ^ 27)) fun i j=>.int (i ^ j.toNat)
theorem zfp:OpM X (binaryOp .Pow) powB:=zdr (C:=fun i j=>0<=j/\(Bg i:Int)*j<=2 ^ 27) (opI fun i j _ _ _ _ _ hc q=>pow_int hc.1 hc.2 q) fun i j h=>by
   rw[Ao] at h;exact⟨of_decide_eq_true h.1,of_decide_eq_true h.2⟩
end
noncomputable def subT(t T:String):Bool:=t==T || (t=="bool"&&T=="int")
noncomputable def sorts:List String:=["NoneType","bool","int","str","tuple","list","dict"]
noncomputable def kinds:List String:=["bool","int","str","tuple","list","dict"]
theorem zml{K:Ab}{t T:String}(ht:t∈sorts)(hT:T∈kinds):Fq K (.type t) (.type T)=some (subT t T):=by
 have all:∀ t∈sorts,∀ T∈kinds,Fq K (.type t) (.type T)=some (subT t T):=by
   intro t ht T hT;simp only[sorts,kinds,AM,AH,or_false] at ht hT
   rcases ht with rfl | rfl | rfl | rfl | rfl | rfl | rfl <;> rcases hT with rfl | rfl | rfl | rfl | rfl | rfl <;> rfl
 exact all t ht T hT
noncomputable def tyName(st:Sto):D->Option String
 | .non=>some "NoneType"
 | .bl _=>some "bool"
 | .int _=>some "int"
 | .str _=>some "str"
 | .tup _=>some "tuple"
 | .ref n=>match st[n]? with
   | some (.lst _)=>some "list"
   | some (.fz _)=>some "list"
   | some (.dk _)=>some "dict"
   | some (.dt _)=>some "dict"
   | _=>none
 | .kl _=>none
section
variable {X:Cx} {K:Ab} {H:Hp} {io:List Addr} {st st':Sto} {a:Expr} {m:ME} {pos:Pos} {pins:List (Addr×Obj)} {σ:L2.St} {s:Shared}
theorem zg9{xs:List V}{p:Addr}(I:Inv X pins σ H s)(h:SqL X.K H p xs):En p "list" s.heap:=by
 obtain⟨its,_,⟨o,n,e,c,_,_⟩,_⟩:=I.list h;exact⟨o,e,c⟩
theorem ziw{ps:List (Key×V)}{p:Addr}(I:Inv X pins σ H s)(h:H p=some (.dK ps)):En p "dict" s.heap:=by
 obtain⟨_,_,_,_,o,_,_,e,ex,_⟩:=I.hok p _ h;exact⟨o,e,ex.1⟩
theorem ziv{ps:List (List Key×V)}{p:Addr}(I:Inv X pins σ H s)(h:H p=some (.dT ps)):En p "dict" s.heap:=by
 obtain⟨_,_,_,_,o,_,_,e,ex,_⟩:=I.hok p _ h;exact⟨o,e,ex.1⟩
theorem zmp{d:D}{v:V}{u:Value}{t T:String}{Q:Value->Shared->Prop}{E:Value->Shared->Prop}(I:Inv X pins σ H s)(S:StR X.K H io st)(R:Rep X.K H io v d)(r:RelV v u)(ht:tyName st d=some t)(hT:T∈kinds)
   (q:∀ tk,Q (.bool (subT t T)) { s with toks:=tk }):wpAny (model X.prog X.w) X.A (call (.builtin "isinstance") [u,.type T]) Q E s:=by
 have k:=fun {x:Value} {HH:Heap->Prop} (hs:t∈sorts) (Z:PySem.W.KitX X.K x (.type t) HH) (p:HH s.heap) (hx:x≠.builtin "__main__.__loader__#opaque")=>PySem.W.kia_one (prog:=X.prog) (w:=X.w) (A:=X.A) (E:=E) Z I.kIn p (zml hs hT) hx q
 cases d with
 | non=>cases ht;cases (show v=.non from R);cases r;exact k (by decide) PySem.W.kitx_none trivial (by intro e;cases e)
 | bl b=>cases ht;cases (show v=.bl b from R);cases r;exact k (by decide) PySem.W.kitx_bool trivial (by intro e;cases e)
 | int b=>cases ht;cases (show v=.int b from R);obtain⟨t,rfl⟩:=r;exact k (by decide) PySem.W.kitx_int trivial (by intro e;cases e)
 | str b=>cases ht;cases (show v=.str b from R);obtain⟨t,rfl⟩:=r;exact k (by decide) PySem.W.kitx_str trivial (by intro e;cases e)
 | tup ds =>
   cases ht;obtain⟨p,xs,rfl,hp,_⟩:=R;cases r;obtain⟨its,_,⟨o,e,c,_⟩,_⟩:=I.tuple (SqT.of hp);exact k (by decide) PySem.W.kitx_tuple ⟨o,e,c⟩ (by intro e;cases e)
 | ref n =>
   obtain⟨p,rfl,hp⟩:=R;cases r;unfold tyName at ht;dsimp only at ht
   split at ht
   . rename_i o e;cases ht;obtain⟨xs,hH,_⟩:=S.ob n p _ hp e;exact k (by decide) EI (zg9 I (SqL.of hH)) (by intro e;cases e)
   . rename_i o e;cases ht;obtain⟨ob,xs,hH,_⟩:=S.ob n p _ hp e;exact k (by decide) EI (zg9 I (.inl (.inr ⟨ob,hH⟩))) (by intro e;cases e)
   . rename_i o e;cases ht;obtain⟨xs,hH,_⟩:=S.ob n p _ hp e;exact k (by decide) EJ (ziw I hH) (by intro e;cases e)
   . rename_i o e;cases ht;obtain⟨xs,hH,_⟩:=S.ob n p _ hp e;exact k (by decide) EJ (ziv I hH) (by intro e;cases e)
   . cases ht
 | kl ds=>cases ht
noncomputable def rIsi(K:Ab)(T:String):List V->Hp->VK->Prop:=fun xs H Q=>∃ x d st io t,xs=[x,.ty T]/\Rep K H io x d/\StR K H io st/\tyName st d=some t/\Q (.bl (subT t T)) H
theorem zkN{T:String}(hT:T∈kinds):ziT X (.builtin "isinstance") (rIsi X.K T):=by
 rintro pins s σ H xs us Q I r ⟨x,d,st,io,t,e,R,S,ht,q⟩;subst e;obtain⟨u,w,rfl,ru,rw'⟩:=r.two;cases rw';exact zmp I S R ru ht hT fun tk=>⟨.bl _,H,I.tok tk,rfl,q⟩
noncomputable def mIsi(T:String)(m:ME):ME:=fun ρ st=>(m ρ st).bind fun (x,s)=>(tyName s x).map fun t=>(.bl (subT t T),s)
theorem zdN{T:String}{x y:Str}{p p2:Pos}(hT:T∈kinds)(hg:Gl X "isinstance")(hm:X.mg "isinstance"=none)(ha:SE X a m)(hgy:Gl X y)(hmy:X.mg y=none)(hvy:bootBuiltins y=some (.type T))(hny:y≠"__name__":=by decide)(hdy:(y==("__debug__":Str))=false:=by decide)
   (hs:starEach [a,.Name y p2] X.env=(false,eval a X.env)::starEach [.Name y p2] X.env:=by rfl) (hs2:starEach [.Name y p2] X.env=[(false,eval (.Name y p2) X.env)]:=by rfl) (hpl:(backTo pos (starEach [.Name y p2] X.env)).any (·.1)=false:=by rfl) :
   SE X (.Call (.Name "isinstance" p) [a,.Name y p2] [] pos) (mIsi T m) :=
 PE.imp (zgP (zkN hT) hg hm (by decide +kernel) (zgQ ha (zgQ (zlY (v:=.ty T) hgy hmy hvy rfl hny hdy) zlZ hs2) hs) (by decide) (by decide) hs hpl) <| by
   rintro σ H Q ⟨ρ,st,io,d,st',E,S,e,k⟩;obtain⟨⟨x,s1⟩,e1,e⟩:=zad e;obtain⟨t,e2,e⟩:=zag e;cases e;exact⟨ρ,st,io,x,_,E,S,e1,fun v1 H1 k1 X1 S1 R1=>⟨v1,x,_,io++k1,t,rfl,R1,S1,e2,k _ H1 k1 X1 S1 rfl⟩⟩
end
theorem zcX{α:Type}{le:α->α->Prop}:∀ {l1 l2:List α},l1.Perm l2->l1.Pairwise le->l2.Pairwise le->(∀ a∈l1,∀ b∈l1,le a b->le b a->a=b)->l1=l2
 | [],l2,p,_,_,_=>(List.Perm.nil_eq p)
 | a::l1,[],p,_,_,_=>absurd p.symm (by intro h;have:=h.length_eq;simp at this)
 | a::l1,b::l2,p,h1,h2,an=>by
   obtain⟨ha,h1'⟩:=List.pairwise_cons.mp h1;obtain⟨hb,h2'⟩:=List.pairwise_cons.mp h2;have e:a=b:=by
     have m1:a∈b::l2:=p.mem_iff.mp An;have m2:b∈a::l1:=p.mem_iff.mpr An
     rcases List.mem_cons.mp m1 with q | q
     . exact q
     . rcases List.mem_cons.mp m2 with r | r
       . exact r.symm
       . exact an a An b (Ai _ r) (ha b r) (hb a q)
   subst e;rw[zcX ((List.perm_cons a).mp p) h1' h2' fun x hx y hy=>an x (Ai _ hx) y (Ai _ hy)]
noncomputable def sle(a b:Str):Bool:=!decide (b.cps.toList < a.cps.toList)
noncomputable def zgv(ss:List Str):List Str:=ss.mergeSort sle
theorem zlj{a b:Str}(h:a.cps.toList=b.cps.toList):a=b:=by
 obtain⟨x⟩:=a;obtain⟨y⟩:=b;have:x=y:=by
   have h':x.toList=y.toList:=h;exact Array.toList_inj.mp h'
 rw[this]
theorem zhY(a b:Str):(sle a b || sle b a)=true:=by
 unfold sle;rw[DN,BF,BF,decide_eq_false_iff_not,decide_eq_false_iff_not]
 by_cases h:b.cps.toList < a.cps.toList
 . exact .inr (List.lt_asymm h)
 . exact .inl h
theorem zff(a b c:Str)(h1:sle a b=true)(h2:sle b c=true):sle a c=true:=by
 unfold sle at *;rw[BF,decide_eq_false_iff_not] at *;have h1:a.cps.toList<=b.cps.toList:=h1;have h2:b.cps.toList<=c.cps.toList:=h2;exact List.le_trans h1 h2
theorem zjL{a b:Str}(h1:sle a b=true)(h2:sle b a=true):a=b:=by
 unfold sle at *;rw[BF,decide_eq_false_iff_not] at *;exact zlj (List.le_antisymm h1 h2)
theorem zdp:∀ {ss:List Str} {p:Str},risingS p ss=true->(p::ss).Pairwise fun a b=>sle a b=true
 | [],p,_=>by simp
 | s::ss,p,h=>by
   have h':(!ltCps s.cps.toList p.cps.toList&&risingS s ss)=true:=h;rw[Ao] at h';have ih:=zdp h'.2;have hps:sle p s=true:=by
     have:=h'.1;rw[ltCps_eq] at this;exact this
   refine List.pairwise_cons.mpr ⟨fun x hx=>?_,ih⟩
   rcases List.mem_cons.mp hx with rfl | hx
   . exact hps
   . exact zff _ _ _ hps ((List.pairwise_cons.mp ih).1 x hx)
theorem zek{ss ss':List Str}(p:ss'.Perm ss)(h:sortedS ss'=true):ss'=zgv ss:=by
 have hp:ss'.Pairwise fun a b=>sle a b=true:=by
   cases ss' with
   | nil=>exact Dr
   | cons x r=>exact zdp h
 refine zcX (p.trans (C1 ss sle).symm) hp (DI (fun a b c=>zff a b c) zhY ss) fun a _ b _=>zjL
section
variable {X:Cx} {K:Ab} {H:Hp} {io:List Addr} {st st':Sto} {a b c e:Expr} {es:List Expr} {ma mb mc m:ME} {mm:MA} {pos:Pos} {pins:List (Addr×Obj)} {σ:L2.St} {s:Shared}
noncomputable def strsOf:List D->Option (List Str)
 | []=>some []
 | .str x::r=>(strsOf r).map fun xs=>x::xs
 | _=>none
theorem zfO{d:D}{r:List D}{ss:List Str}(h:strsOf (d::r)=some ss):∃ x xs,d=.str x/\strsOf r=some xs/\ss=x::xs:=by
 cases d with
 | str x =>
   obtain⟨xs,e,h⟩:=zag h;exact⟨x,xs,rfl,e,h.symm⟩
 | _=>cases h
theorem zgq:∀ {xs:List V} {us:List Value} {ds:List D} {ss:List Str},Reps K H io xs ds->Vals xs us->strsOf ds=some ss->StrsAre us ss
 | _,_,[],ss,h,r,e=>by
   cases (show _=[] from h);cases r;cases e;exact .nil
 | _,_,d::ds,ss,h,r,e=>by
   obtain⟨y,ys,rfl,h1,h2⟩:=h;obtain⟨x,rest,rfl,e2,rfl⟩:=zfO e
   cases r with
   | cons r1 r2 =>
     cases (show y=.str x from h1)
     obtain⟨t,rfl⟩:=r1;exact .cons x t (zgq h2 r2 e2)
theorem zdI:∀ {us:List Value} {ss:List Str},StrsAre us ss->Vals (ss.map V.str) us
 | _,_,.nil=>.nil
 | _,_,.cons y t r=>.cons ⟨t,rfl⟩ (zdI r)
theorem zhU(ss:List Str):Reps K H io (ss.map V.str) (ss.map D.str):=by
 induction ss with
 | nil=>exact rfl
 | cons x r ih=>exact Reps.cons rfl ih
theorem lt64{n:Nat}(h:n < 64):n<=sizeLine:=AC (Cb h) (by decide)
noncomputable def zcl:GN
 | [.ref n],st=>(zba st n).bind fun ds=>(strsOf ds).bind fun ss=>if decide (ss.length < 64)=true then some (.ref st.length,st++[.lst ((zgv ss).map D.str)]) else none
 | _,_=>none
theorem zeD:zcM X (.builtin "sorted") zcl:=by
 rintro pins s σ H xs us Q I r ⟨ds,st,io,d,st',R,S,e,k⟩;unfold zcl at e
 split at e
 . rename_i n;obtain⟨ts,e0,e⟩:=zad e;obtain⟨ss,e1,e⟩:=zad e;obtain⟨hl,e⟩:=zam e;cases e;have hl:=of_decide_eq_true hl;obtain⟨v,rfl,p,rfl,hp⟩:=R.one;obtain⟨u,rfl,ru⟩:=r.one;cases ru;obtain⟨ys,hx,r1⟩:=zaW S hp e0;obtain⟨its,rv,pl,hz⟩:=I.list hx;have hS:=zgq r1 rv e1;have hlen:its.length=ss.length:=by
     have h1:=rv.length;have h2:=(zdI hS).length;rw[Aj] at h2;omega
   refine sorted_strs pl.isList hS (by omega) fun out ss' a1 a2 a3=>?_;have es:=zek a2 a3;obtain⟨ep,hat⟩:=sortedAll_at s.heap its out;have hv:=zdI a1;have hfree:H (s.heap.objs.size+1)=none:=I.hok.fresh (Ci _);have hlen':(ss'.map V.str).length<=sizeLine:=by rw[Aj,a2.length_eq];exact lt64 hl
   refine⟨.ref (s.heap.objs.size+1),upd H (s.heap.objs.size+1) (.lst (ss'.map V.str)),I.laid (t':=s.toks) (a:=s.heap.objs.size+1) (fun b o q=>sortedAll_old q) (Ci _) ⟨hlen',out.toList,ep,hv,by simpa using hat⟩,rfl,?_⟩;rw[es] at *;exact k.lst S (zhU _) hfree
 . cases e
noncomputable def rSlS:V->Option Int->Option Int->Hp->VK->Prop:=fun x lo hi H Q=>∃ z,x=.str z/\z.length<=sizeLine/\Q (.str (Ft z lo hi)) H
theorem zm6:SlR X rSlS:=by
 rintro pins s σ H x v vl vu lo hi sl Q I rx hs pl pu ⟨z,e,hz,q⟩;subst e;obtain⟨t,rfl⟩:=rx;refine⟨"str",_,F.slot_str_getitem.lookup,Ff _ _ _,?_⟩;have fin:∀ t' k,EP X pins σ Q (.str (Ft z lo hi) t') { s with toks:=k }:=fun t' k=>⟨.str _,H,I.tok k,⟨t',rfl⟩,q⟩
 cases pl with
 | none =>
   cases pu with
   | none=>exact B7 (l:=none) (u:=none) (st:=none) hs rfl (Co ⟨AC (DF z _ _) hz,fin⟩)
   | int j tj=>exact B7 (l:=none) (u:=some (j,tj)) (st:=none) hs rfl (Co ⟨AC (DF z _ _) hz,fin⟩)
 | int i ti =>
   cases pu with
   | none=>exact B7 (l:=some (i,ti)) (u:=none) (st:=none) hs rfl (Co ⟨AC (DF z _ _) hz,fin⟩)
   | int j tj=>exact B7 (l:=some (i,ti)) (u:=some (j,tj)) (st:=none) hs rfl (Co ⟨AC (DF z _ _) hz,fin⟩)
noncomputable def slS:D->Option Int->Option Int->Sto->Option (D×Sto):=fun x lo hi st=>match x with
 | .str z=>if fits z.length=true then some (.str (Ft z lo hi),st) else none
 | _=>none
noncomputable def mSlS(m:ME)(l h:MO):ME:=fun ρ st=>(m ρ st).bind fun (x,s1)=>(l ρ s1).bind fun (lo,s2)=>(h ρ s2).bind fun (hi,s3)=>slS x lo hi s3
theorem zh0{lo hi:Option Expr}{ml mh:MO}{p2:Pos}(he:SE X e m)(hl:SO X lo ml)(hu:SO X hi mh):SE X (.Subscript e (.Slice lo hi none p2) pos) (mSlS m ml mh):=PE.imp (zdW zm6 he hl hu) <| by
 rintro σ H Q ⟨ρ,st,io,d,st',E,S,e,k⟩;obtain⟨⟨x,s1⟩,e1,e⟩:=zad e;obtain⟨⟨lo',s2⟩,e2,e⟩:=zad e;obtain⟨⟨hi',s3⟩,e3,e⟩:=zad e;refine⟨ρ,st,io,x,s1,E,S,e1,fun v1 H1 k1 X1 S1 R1=>⟨ρ,s1,io++k1,lo',s2,E.ext S X1,S1,e2,fun H2 k2 X2 S2=>⟨ρ,s2,(io++k1)++k2,hi',s3,(E.ext S X1).ext S1 X2,S2,e3,fun H3 k3 X3 S3=>?_⟩⟩⟩;have k':=((k.on S1 X1).on S2 X2).on S3 X3
 cases x with
 | str z =>
   obtain⟨hf,e⟩:=zam e;cases e;exact⟨z,R1,of_decide_eq_true hf,k'.now S3 rfl⟩
 | _=>cases e
noncomputable def repS(x:Str)(n:Int):Str:=if n < 1 then Str.empty else if (n==1 || x.length==0)=true then x else ⟨(BW n.toNat x.cps).foldl (·++·) #[]⟩
noncomputable def znW:G2
 | .str x,.int n,st=>if (decide (-(2 ^ 62)<=n)&&decide (n < 2 ^ 20)&&decide (x.length*n.toNat<=sizeLine)&&decide ((repS x n).length<=sizeLine))=true then some (.str (repS x n),st) else none
 | _,_,_=>none
theorem zke:OpM X (binaryOp .Mult) znW:=by
 rintro pins s σ H x y v u Q I rx ry ⟨dx,dy,st,io,d,st',Rx,Ry,S,e,k⟩;unfold znW at e
 split at e
 . rename_i z n;obtain⟨hc,e⟩:=zam e;cases e;rw[Ao,Ao,Ao] at hc;obtain⟨⟨⟨h1,h2⟩,h3⟩,h4⟩:=hc;have h1:=of_decide_eq_true h1;have h2:=of_decide_eq_true h2;have h3:=of_decide_eq_true h3;have h4:=of_decide_eq_true h4
   cases (show x=.str z from Rx)
   cases (show y=.int n from Ry)
   obtain⟨t,rfl⟩:=rx;obtain⟨t2,rfl⟩:=ry;have fin:∀ t' k',EP X pins σ Q (.str (repS z n) t') { s with toks:=k' }:=fun t' k'=>⟨.str _,H,I.tok k',⟨t',rfl⟩,k.now S rfl⟩
   refine PySem.P.mul_str (by rw[decide_eq_false (by omega),decide_eq_false (by omega)];rfl) (fun hn _=>?_) (fun hn _=>?_) ?_
   . have hs:sizeLine=16777216:=DR;have hnn:((n.toNat:Nat):Int)=n:=Int.toNat_of_nonneg (by omega);have hm:(z.length:Int)*n<=2 ^ 63 - 1:=by
       rw[<-hnn,<-Int.natCast_mul];omega
     have:=Int.le_ediv_of_mul_le (by omega:0 < n) hm;omega
   . unfold Builtin.Str.tooLong;exact decide_eq_false (by omega)
   . unfold repS at fin h4
     by_cases hn:n < 1
     . rw[if_pos hn] at fin h4 ⊢;exact⟨h4,fin s.toks (s.toks+1)⟩
     . rw[if_neg hn] at fin h4 ⊢;exact Co ⟨h4,fin⟩
 . cases e
end
section
variable {X:Cx} {K:Ab} {H:Hp} {io:List Addr} {st st':Sto} {a b c e:Expr} {es:List Expr} {ma mb mc m:ME} {mm:MA} {pos:Pos} {pins:List (Addr×Obj)} {σ:L2.St} {s:Shared}
noncomputable def memP(p:PyData):PyData->Option Bool
 | .list xs=>some (xs.any fun y=>BD y p)
 | .tuple xs=>some (xs.any fun y=>BD y p)
 | _=>none
noncomputable def inD(neg:Bool):G2:=fun x y st=>(toP 50 st x).bind fun p=>(toP 50 st y).bind fun q=>(memP p q).map fun b=>(.bl (if neg then !b else b),st)
theorem zdA{xs:List PyData}(h:(PyData.list xs).canLay0=true):Bx xs=true:=by simpa only [Bb] using h
theorem zde{xs:List PyData}(h:(PyData.tuple xs).canLay0=true):Bx xs=true:=by simpa only [Bb] using h
theorem znN(hu:X.A.units+100 < cLine):OpM X (compareOp .In) (inD false):=by
 rintro pins s σ H x y v u Q I rx ry ⟨dx,dy,st,io,d,st',Rx,Ry,S,e,k⟩;obtain⟨p,e1,e⟩:=zad e;obtain⟨q,e2,e⟩:=zad e;obtain⟨r,e3,e⟩:=zag e;cases e;obtain⟨as,ra⟩:=zbo I S Rx rx e1;obtain⟨bs,rb⟩:=zbo I S Ry ry e2;have h1:=zcT e1;have h2:=zcT e2;have hb:∀ n,X.A.units+1+min n p.depth < cLine:=fun n=>by have:=DC n p.depth;omega
 cases q with
 | list xs=>cases e3;exact PySem.SeqAt.in_list_reads rb ra (zdA h2.1) h1.1 (hb _) ⟨.bl _,H,I,rfl,k.now S rfl⟩
 | tuple xs=>cases e3;exact PySem.SeqAt.in_tuple_reads rb ra (zde h2.1) h1.1 (hb _) ⟨.bl _,H,I,rfl,k.now S rfl⟩
 | _=>cases e3
theorem zik(hu:X.A.units+100 < cLine):OpM X (compareOp .NotIn) (inD true):=by
 rintro pins s σ H x y v u Q I rx ry ⟨dx,dy,st,io,d,st',Rx,Ry,S,e,k⟩;obtain⟨p,e1,e⟩:=zad e;obtain⟨q,e2,e⟩:=zad e;obtain⟨r,e3,e⟩:=zag e;cases e;obtain⟨as,ra⟩:=zbo I S Rx rx e1;obtain⟨bs,rb⟩:=zbo I S Ry ry e2;have h1:=zcT e1;have h2:=zcT e2;have hb:∀ n,X.A.units+1+min n p.depth < cLine:=fun n=>by have:=DC n p.depth;omega
 cases q with
 | list xs=>cases e3;exact PySem.SeqAt.notIn_list_reads rb ra (zdA h2.1) h1.1 (hb _) ⟨.bl _,H,I,rfl,k.now S rfl⟩
 | tuple xs=>cases e3;exact PySem.SeqAt.notIn_tuple_reads rb ra (zde h2.1) h1.1 (hb _) ⟨.bl _,H,I,rfl,k.now S rfl⟩
 | _=>cases e3
noncomputable def inSD:G2
 | .str i,.str j,st=>some (.bl (!(B4 j i 0 j.length 1).isEmpty),st)
 | _,_,_=>none
theorem zl6:OpM X (compareOp .In) inSD:=by
 rintro pins s σ H x y v u Q I rx ry ⟨dx,dy,st,io,d,st',Rx,Ry,S,e,k⟩;unfold inSD at e
 split at e
 . rename_i i j
   cases e;exact zil pins s σ H x y v u Q I rx ry ⟨i,j,Rx,Ry,k.now S rfl⟩
 . cases e
noncomputable def zkP:List D->Option (List Bool)
 | []=>some []
 | .bl x::r=>(zkP r).map fun xs=>x::xs
 | _=>none
theorem zhB{d:D}{r:List D}{ss:List Bool}(h:zkP (d::r)=some ss):∃ x xs,d=.bl x/\zkP r=some xs/\ss=x::xs:=by
 cases d with
 | bl x =>
   obtain⟨xs,e,h⟩:=zag h;exact⟨x,xs,rfl,e,h.symm⟩
 | _=>cases h
theorem zjp:∀ {xs:List V} {us:List Value} {ds:List D} {ss:List Bool},Reps K H io xs ds->Vals xs us->zkP ds=some ss->us=ss.map Cy
 | _,_,[],ss,h,r,e=>by
   cases (show _=[] from h);cases r;cases e;rfl
 | _,_,d::ds,ss,h,r,e=>by
   obtain⟨y,ys,rfl,h1,h2⟩:=h;obtain⟨x,rest,rfl,e2,rfl⟩:=zhB e
   cases r with
   | cons r1 r2 =>
     cases (show y=.bl x from h1)
     cases r1;rw[zjp h2 r2 e2];rfl
noncomputable def allC:GN
 | [.ref n],st=>(zba st n).bind fun ds=>(zkP ds).map fun bs=>(.bl (bs.all id),st)
 | _,_=>none
theorem range_all(bs:List Bool):((AQ bs.length).all fun i=>bs.getD i false)=bs.all id:=by
 rw[CU,EW,EW]
 constructor
 . intro h b hb;obtain⟨i,hi,e⟩:=Cj hb;have:=h i (List.mem_range.mpr hi);rw[AF,Aw hi,e] at this;exact this
 . intro h i hi;have hi:=List.mem_range.mp hi;rw[AF,Aw hi];exact h _ (Ce hi)
theorem zfF(hc:X.calm=true):zcM X (.builtin "all") allC:=by
 rintro pins s σ H xs us Q I r ⟨ds,st,io,d,st',R,S,e,k⟩;unfold allC at e
 split at e
 . rename_i n;obtain⟨ts,e0,e⟩:=zad e;obtain⟨bs,e1,e⟩:=zag e;cases e;obtain⟨v,rfl,p,rfl,hp⟩:=R.one;obtain⟨u,rfl,ru⟩:=r.one;cases ru;obtain⟨ys,hx,r1⟩:=zaW S hp e0;obtain⟨its,rv,pl,hz⟩:=I.list hx;have hb:=zjp r1 rv e1;subst hb;refine call_all_walk (Do pl.isList ?_);have hlt:p < s.heap.objs.size:=by
     obtain⟨o,_,e,_⟩:=pl;exact Ak e
   refine⟨_,_,_,_,_,_,fun i=>bs.getD i false,rfl,Walks.list (A:=X.A.in1) (I.ok.hd hc) s.heap.objs.size p (AG hlt) (bs.map Cy).toArray,⟨⟨_,Ar _ rfl,rfl,rfl⟩,?_⟩,?_,fun h' tk hk=>?_⟩
   . obtain⟨o,nn,e,c,dd,sq⟩:=pl;exact⟨o,Ad _ e,c,nn,sq⟩
   . intro i v s' Q' E' hv hq;have hv:((bs.map Cy).toArray)[i]?=some v:=hv;rw[D5,AE] at hv
     cases ei:bs[i]? with
     | none=>rw[ei] at hv;cases hv
     | some bb =>
       rw[ei] at hv;cases hv;refine Bl ?_;have hg:bs.getD i false=bb:=by rw[AF,ei];rfl
       have hq:Q' (bs.getD i false) s':=hq;rw[hg] at hq;exact hq
   . refine⟨.bl _,H,I.kept (t':=tk) fun b o q=>hk b o ?_ (Ad _ q),rfl,?_⟩
     . simp;exact AG (Ak q)
     . have:((AQ (bs.map Cy).toArray.size).all fun i=>bs.getD i false)=bs.all id:=by simpa using range_all bs
       rw[this];exact k.now S rfl
 . cases e
end
end L2.MP
namespace Srt
open PySem PySem.W PyProof.Rows
noncomputable def Hd(n:Nat)(r:Nat->Int){α:Type}:KasT α->(α->Prop)->Prop
 | .ret a,Q=>Q a
 | .ask i j k,Q=>(i < n/\j < n)/\Hd n r (k (decide (r i < r j))) Q
section
variable {n:Nat} {r:Nat->Int} {α β:Type}
theorem Hd.bind{f:α->KasT β}{Q:β->Prop}:∀ {t:KasT α},Hd n r t (fun a=>Hd n r (f a) Q)->Hd n r (t.bind f) Q
 | .ret _,h=>h
 | .ask i j k,h=>⟨h.1,Hd.bind (t:=k _) h.2⟩
theorem Hd.mono{P Q:α->Prop}(k:∀ a,P a->Q a):∀ {t:KasT α},Hd n r t P->Hd n r t Q
 | .ret a,h=>k a h
 | .ask i j f,h=>⟨h.1,Hd.mono k (t:=f _) h.2⟩
theorem zhf{c:Prop}[Decidable c]{A B:KasT α}{Q:α->Prop}(hc:c)(h:Hd n r A Q):Hd n r (if decide c=true then A else B) Q:=by
 rw[decide_eq_true hc,if_pos rfl];exact h
theorem zhg{c:Prop}[Decidable c]{A B:KasT α}{Q:α->Prop}(hc:¬ c)(h:Hd n r B Q):Hd n r (if decide c=true then A else B) Q:=by
 rw[decide_eq_false hc,if_neg A9];exact h
def Bel(n:Nat)(p:Array Nat):Prop:=∀ k,p.getD k 0 < n
noncomputable def R(r:Nat->Int)(p:Array Nat)(k:Nat):Int:=r (p.getD k 0)
def Up(r:Nat->Int)(p:Array Nat)(m:Nat):Prop:=∀ i j,i<=j->j < m->R r p i<=R r p j
def Dn(r:Nat->Int)(p:Array Nat)(m:Nat):Prop:=∀ i j,i<=j->j < m->R r p j<=R r p i
theorem getD_eq{p q:Array Nat}{i j:Nat}(h:p[i]?=q[j]?):p.getD i 0=q.getD j 0:=by
 rw[BK,BK,h]
theorem zfk{p:Array Nat}{i j:Nat}(hj:j<=p.size)(k:Nat):(kas_rev p i j).getD k 0=if i<=k/\k < j then p.getD (i+j - 1 - k) 0 else p.getD k 0:=by
 have e:=getElem?_mirror_all (i:=i) hj k;unfold kas_rev
 by_cases h:i<=k/\k < j
 . rw[if_pos h] at e ⊢;exact getD_eq e
 . rw[if_neg h] at e ⊢;exact getD_eq e
theorem zjm{p:Array Nat}{src d:Nat}(hs:src < p.size)(hd:d<=src)(k:Nat):(bubble p src d).getD k 0=if k=src - d then p.getD src 0 else if src - d < k/\k<=src then p.getD (k - 1) 0 else p.getD k 0:=by
 have e:=getElem?_bubble hs d hd k
 by_cases h1:k=src - d
 . rw[if_pos h1] at e ⊢;exact getD_eq e
 . rw[if_neg h1] at e ⊢
   by_cases h2:src - d < k/\k<=src
   . rw[if_pos h2] at e ⊢;exact getD_eq e
   . rw[if_neg h2] at e ⊢;exact getD_eq e
theorem zep{p:Array Nat}{i j:Nat}(hj:j<=p.size)(h:Bel n p):Bel n (kas_rev p i j):=fun k=>by
 rw[zfk hj];split
 . exact h _
 . exact h _
theorem zmu{p:Array Nat}{src d:Nat}(hs:src < p.size)(hd:d<=src)(h:Bel n p):Bel n (bubble p src d):=fun k=>by
 rw[zjm hs hd]
 by_cases h1:k=src - d
 . rw[if_pos h1];exact h _
 . rw[if_neg h1]
   by_cases h2:src - d < k/\k<=src
   . rw[if_pos h2];exact h _
   . rw[if_neg h2];exact h _
theorem zj0(p:Array Nat)(i j:Nat):(kas_rev p i j).size=p.size:=mirror_size _ _ _ _
theorem zic(p:Array Nat)(i j:Nat):(kas_rev p i j).Perm p:=mirror_perm _ _ _ _
theorem Up.more{p:Array Nat}{m:Nat}(h:Up r p m)(hl:m=0\/R r p (m - 1)<=R r p m):Up r p (m+1):=fun i j hij hj=>by
 by_cases hm:j < m
 . exact h i j hij hm
 . have e:j=m:=by omega
   subst e
   by_cases hi:i=j
   . rw[hi];exact CG _
   . rcases hl with hl | hl
     . omega
     . exact CV (h i (j - 1) (by omega) (by omega)) hl
theorem Dn.more{p:Array Nat}{m:Nat}(h:Dn r p m)(hl:m=0\/R r p m<=R r p (m - 1)):Dn r p (m+1):=fun i j hij hj=>by
 by_cases hm:j < m
 . exact h i j hij hm
 . have e:j=m:=by omega
   subst e
   by_cases hi:i=j
   . rw[hi];exact CG _
   . rcases hl with hl | hl
     . omega
     . exact CV hl (h i (j - 1) (by omega) (by omega))
theorem zkR{p:Array Nat}(hb:Bel n p):∀ (f m:Nat),1<=m->Up r p m->Hd n r (kas_asc p f m) fun m'=>m<=m'/\m'<=m+f/\Up r p m'/\(m' < m+f->R r p m' < R r p (m' - 1))
 | 0,m,h1,h=>⟨Af _,Af _,h,fun z=>absurd z (AU _)⟩
 | f+1,m,h1,h=>by
   refine⟨⟨hb _,hb _⟩,?_⟩
   by_cases c:r (p.getD m 0) < r (p.getD (m - 1) 0)
   . refine zhf c ?_;exact⟨Af _,BY _ _,h,fun _=>c⟩
   . refine zhg c ?_;refine Hd.mono (fun m' h'=>?_) (zkR hb f (m+1) (by omega) (h.more (.inr (Int.not_lt.mp c))));exact⟨by omega,by omega,h'.2.2.1,fun z=>h'.2.2.2 (by omega)⟩
def Eqs(r:Nat->Int)(p:Array Nat)(i j:Nat):Prop:=∀ k,i<=k->k < j->R r p k=R r p (j - 1)
theorem zgI{p:Array Nat}{i j:Nat}(hj:j<=p.size)(h:Eqs r p i j)(k:Nat):R r (kas_rev p i j) k=R r p k:=by
 unfold R;rw[zfk hj]
 split
 . rename_i hk;have h1:=h (i+j - 1 - k) (by omega) (by omega);have h2:=h k hk.1 hk.2;exact h1.trans h2.symm
 . rfl
theorem Dn.same{p p':Array Nat}{m:Nat}(h:Dn r p m)(e:∀ k,R r p' k=R r p k):Dn r p' m:=fun i j a b=>by rw[e,e];exact h i j a b
theorem znk{p:Array Nat}{m:Nat}(hm:m<=p.size)(h:Dn r p m):Up r (kas_rev p 0 m) m:=fun i j hij hj=>by
 unfold R;rw[zfk hm,zfk hm,if_pos (by omega),if_pos (by omega)];exact h (0+m - 1 - j) (0+m - 1 - i) (by omega) (by omega)
theorem zfD{N:Nat}:∀ (f:Nat) (p:Array Nat) (m q:Nat),Bel n p->p.size=N->1<=m->m+f<=N->q+1<=m->Dn r p m->Eqs r p (m - (q+1)) m ->
   Hd n r (kas_desc f p m q) fun t=>Bel n t.1/\t.1.Perm p/\m<=t.2.1/\t.2.1<=m+f/\t.2.2+1<=t.2.1/\Dn r t.1 t.2.1/\Eqs r t.1 (t.2.1 - (t.2.2+1)) t.2.1
 | 0,p,m,q,hb,hs,h1,h2,h3,hd,he=>⟨hb,Cp _,Af _,Af _,h3,hd,he⟩
 | f+1,p,m,q,hb,hs,h1,h2,h3,hd,he=>by
   refine⟨⟨hb _,hb _⟩,?_⟩
   by_cases c:r (p.getD m 0) < r (p.getD (m - 1) 0)
   . refine zhf c ?_;have one:∀ p':Array Nat,Eqs r p' (m+1 - (0+1)) (m+1):=fun p' k h1 h2=>by
       have e:k=m+1 - 1:=by omega
       subst e;rfl
     by_cases hq:q > 0
     . rw[if_pos hq];have hz:m<=p.size:=by omega
       have e:=zgI hz he;refine Hd.mono (fun t ht=>?_) (zfD f (kas_rev p (m - (q+1)) m) (m+1) 0 (zep hz hb) ((zj0 _ _ _).trans hs) (by omega) (by omega) (by omega) ((hd.more (.inr (CW c))).same e) (one _));exact⟨ht.1,ht.2.1.trans (zic _ _ _),by omega,by omega,ht.2.2.2.2⟩
     . rw[if_neg hq];refine Hd.mono (fun t ht=>?_) (zfD f p (m+1) 0 hb hs (by omega) (by omega) (by omega) (hd.more (.inr (CW c))) (one _));exact⟨ht.1,ht.2.1,by omega,by omega,ht.2.2.2.2⟩
   . refine zhg c ?_;refine⟨⟨hb _,hb _⟩,?_⟩
     by_cases d:r (p.getD (m - 1) 0) < r (p.getD m 0)
     . refine zhf d ?_;exact⟨hb,Cp _,Af _,BY _ _,h3,hd,he⟩
     . refine zhg d ?_;have eq:R r p m=R r p (m - 1):=Fi (Int.not_lt.mp d) (Int.not_lt.mp c);refine Hd.mono (fun t ht=>?_) (zfD f p (m+1) (q+1) hb hs (by omega) (by omega) (by omega) (hd.more (.inr (Int.not_lt.mp d))) fun k k1 k2=>?_)
       . exact⟨ht.1,ht.2.1,by omega,by omega,ht.2.2.2.2⟩
       . show R r p k=R r p (m+1 - 1)
         by_cases hk:k=m
         . rw[hk];rfl
         . rw[Nat.add_sub_cancel,eq];exact he k (by omega) (by omega)
def zoA(n N:Nat)(r:Nat->Int)(p:Array Nat)(t:Nat×Array Nat):Prop:=Bel n t.2/\t.2.Perm p/\1<=t.1/\t.1<=N/\Up r t.2 t.1
theorem zgp{N m:Nat}{p:Array Nat}(hb:Bel n p)(hs:p.size=N)(h1:1<=m)(h2:m<=N)(hd:Dn r p m):Hd n r (kas_tail3 m N p) (zoA n N r p):=by
 unfold kas_tail3;have hz:m<=p.size:=by omega
 refine Hd.bind (Hd.mono (fun m' h'=>?_) (zkR (zep hz hb) (N - m) m h1 (znk hz hd)));exact⟨zep hz hb,zic _ _ _,by omega,by omega,h'.2.2.1⟩
theorem zdw{N m:Nat}{p:Array Nat}(hb:Bel n p)(hs:p.size=N)(h1:1<=m)(h2:m+1<=N)(hd:Dn r p (m+1)):Hd n r (kas_descPart m N p) (zoA n N r p):=by
 unfold kas_descPart;refine Hd.bind (Hd.mono (fun t ht=>?_) (zfD (N:=N) (N - (m+1)) p (m+1) 0 hb hs (by omega) (by omega) (by omega) hd fun k k1 k2=>by
   have:k=m+1 - 1:=by omega
   rw[this]))
 obtain⟨t1,t2,t3,t4,t5,t6,t7⟩:=ht;have hsz:t.1.size=N:=t2.size_eq.trans hs
 by_cases hq:t.2.2 > 0
 . rw[if_pos hq];have hz:t.2.1<=t.1.size:=by omega
   refine Hd.mono (fun u hu=>?_) (zgp (zep hz t1) ((zj0 _ _ _).trans hsz) (by omega) (by omega) (t6.same (zgI hz t7)));exact⟨hu.1,(hu.2.1.trans (zic _ _ _)).trans t2,hu.2.2⟩
 . rw[if_neg hq];refine Hd.mono (fun u hu=>?_) (zgp t1 hsz (by omega) (by omega) t6);exact⟨hu.1,hu.2.1.trans t2,hu.2.2⟩
theorem zkJ{N:Nat}{p:Array Nat}(hb:Bel n p)(hs:p.size=N)(hN:1<=N):Hd n r (kas_count N p) (zoA n N r p):=by
 unfold kas_count;have up1:Up r p 1:=fun i j a b=>by
   have:i=j:=by omega
   rw[this];exact CG _
 refine Hd.bind (Hd.mono (fun m hm=>?_) (zkR hb (N - 1) 1 (Af _) up1));obtain⟨m1,m2,m3,m4⟩:=hm
 by_cases e:(m==N)=true
 . rw[if_pos e];exact⟨hb,Cp _,m1,by omega,m3⟩
 . rw[if_neg e];have ne:m≠N:=fun z=>e (by simp[z]);have lt:=m4 (by omega)
   by_cases g:m > 1
   . rw[if_pos g];refine⟨⟨hb _,hb _⟩,?_⟩
     by_cases c:r (p.getD 0 0) < r (p.getD (m - 1) 0)
     . refine zhf c ?_;exact⟨hb,Cp _,m1,by omega,m3⟩
     . refine zhg c ?_;have hz:m<=p.size:=by omega
       have all:∀ k,k < m->R r p k=R r p (m - 1):=fun k hk=>Fi (m3 k (m - 1) (by omega) (by omega)) (CV (Int.not_lt.mp c) (m3 0 k (by omega) hk));have e:=zgI (i:=0) hz fun k _ hk=>all k hk;have dn:Dn r p m:=fun i j a b=>by rw[all i (by omega),all j b];exact CG _
       refine Hd.mono (fun u hu=>?_) (zdw (zep (i:=0) hz hb) ((zj0 _ _ _).trans hs) m1 (by omega) ((dn.more (.inr (CW lt))).same e));exact⟨hu.1,hu.2.1.trans (zic _ _ _),hu.2.2⟩
   . rw[if_neg g];have m1':m=1:=by omega
     subst m1';have dn:Dn r p 1:=fun i j a b=>by
       have:i=j:=by omega
       rw[this];exact CG _
     exact zdw hb hs (Af _) (by omega) (dn.more (.inr (CW lt)))
theorem zeT{p:Array Nat}{k:Nat}(hb:Bel n p)(hu:Up r p k):∀ (f a b:Nat),a<=b->b<=k->b<=a+f->(∀ x,x < a->R r p x<=R r p k)->(∀ x,b<=x->x < k->R r p k<=R r p x) ->
   Hd n r (kas_place p k f a b) fun l=>l<=k/\(∀ x,x < l->R r p x<=R r p k)/\∀ x,l<=x->x < k->R r p k<=R r p x
 | 0,a,b,h1,h2,h3,hl,hr=>by
   have:a=b:=by omega
   subst this;exact⟨h2,hl,hr⟩
 | f+1,a,b,h1,h2,h3,hl,hr=>by
   unfold kas_place
   by_cases g:a ≥ b
   . rw[if_pos g];have:a=b:=by omega
     subst this;exact⟨h2,hl,hr⟩
   . rw[if_neg g];refine⟨⟨hb _,hb _⟩,?_⟩
     by_cases c:r (p.getD k 0) < r (p.getD ((a+b) / 2) 0)
     . refine zhf c ?_;refine zeT hb hu f a ((a+b) / 2) (by omega) (by omega) (by omega) hl fun x x1 x2=>?_;exact CV (CW c) (hu ((a+b) / 2) x x1 x2)
     . refine zhg c ?_;refine zeT hb hu f ((a+b) / 2+1) b (by omega) h2 (by omega) (fun x hx=>?_) hr;exact CV (hu x ((a+b) / 2) (by omega) (by omega)) (Int.not_lt.mp c)
theorem zmz{N:Nat}:∀ (f:Nat) (p:Array Nat) (k:Nat),Bel n p->p.size=N->k+f=N->Up r p k->Hd n r (kas_bin f p k) fun q=>q.Perm p/\Up r q N
 | 0,p,k,hb,hs,hk,hu=>⟨Cp _,by rw[<-hk];exact hu⟩
 | f+1,p,k,hb,hs,hk,hu=>by
   unfold kas_bin;refine Hd.bind (Hd.mono (fun l hl=>?_) (zeT hb hu k 0 k (Bu _) (Af _) (by omega) (fun x hx=>absurd hx (DP _)) fun x a b=>absurd (Ap b a) (AU _)));obtain⟨l1,l2,l3⟩:=hl;have hks:k < p.size:=by omega
   refine Hd.mono (fun q hq=>⟨hq.1.trans (bubble_perm _ _ _),hq.2⟩) (zmz f (bubble p k (k - l)) (k+1) (zmu hks (by omega) hb) ((bubble_size _ _ _).trans hs) (by omega) fun i j hij hj=>?_);have g:∀ x,R r (bubble p k (k - l)) x=if x=l then R r p k else if l < x/\x<=k then R r p (x - 1) else R r p x:=fun x=>by
     unfold R;rw[zjm hks (by omega)];have e:k - (k - l)=l:=by omega
     rw[e]
     by_cases a1:x=l
     . rw[if_pos a1,if_pos a1]
     . rw[if_neg a1,if_neg a1]
       by_cases a2:l < x/\x<=k
       . rw[if_pos a2,if_pos a2]
       . rw[if_neg a2,if_neg a2]
   rw[g i,g j]
   by_cases h1:i=l
   . rw[if_pos h1]
     by_cases h2:j=l
     . rw[if_pos h2];exact CG _
     . rw[if_neg h2,if_pos (by omega)];exact l3 (j - 1) (by omega) (by omega)
   . rw[if_neg h1]
     by_cases h2:j=l
     . rw[if_pos h2,if_neg (by omega)];exact l2 i (by omega)
     . rw[if_neg h2]
       by_cases h3:l < i/\i<=k
       . rw[if_pos h3,if_pos (by omega)];exact hu (i - 1) (j - 1) (by omega) (by omega)
       . rw[if_neg h3]
         by_cases h4:l < j/\j<=k
         . rw[if_pos h4];exact hu i (j - 1) (by omega) (by omega)
         . rw[if_neg h4];exact hu i j hij (by omega)
theorem zid{n:Nat}(hn:1<=n):Bel n (BL (AQ n)):=fun k=>by
 rw[BK,D5]
 by_cases h:k < n
 . rw[Ep h];exact h
 . rw[List.getElem?_eq_none_iff.mpr (by rw[CB];omega)];exact hn
theorem sort_ok(hn:1<=n):Hd n r (kas_sort n) fun q=>q.Perm (BL (AQ n))/\Up r q n:=by
 unfold kas_sort;have hs:(BL (AQ n)).size=n:=by simp
 refine Hd.bind (Hd.mono (fun t ht=>?_) (zkJ (zid hn) hs hn));obtain⟨t1,t2,t3,t4,t5⟩:=ht
 by_cases h:t.1 < n
 . rw[if_pos h];have e:max t.1 1=t.1:=Nat.max_eq_left t3;rw[e];refine Hd.mono (fun q hq=>⟨hq.1.trans t2,hq.2⟩) (zmz (N:=n) (n - t.1) t.2 t.1 t1 (t2.size_eq.trans hs) (by omega) t5)
 . rw[if_neg h];have e:t.1=n:=by omega
   exact⟨t2,by rw[<-e];exact t5⟩
end
end Srt
namespace L2.MP
open PySem PySem.Spec PyProof.Rows
theorem zmi:∀ a:List Int,HT.lexLt a a=false
 | []=>rfl
 | x::r=>by rw[HT.lexLt_cons,if_pos rfl];exact zmi r
theorem zje:∀ {a b:List Int},HT.lexLt a b=false->HT.lexLt b a=false->a=b
 | [],[],_,_=>rfl
 | [],_::_,h,_=>by rw[HT.lexLt_nil_cons] at h;cases h
 | _::_,[],_,h=>by rw[HT.lexLt_nil_cons] at h;cases h
 | x::a,y::b,h1,h2=>by
   rw[HT.lexLt_cons] at h1 h2
   by_cases e:x=y
   . subst e;rw[if_pos rfl] at h1 h2;rw[zje h1 h2]
   . rw[if_neg e] at h1;rw[if_neg (A7 e)] at h2;have a1:=of_decide_eq_false h1;have a2:=of_decide_eq_false h2;omega
theorem zg4:∀ {a b c:List Int},HT.lexLt b a=false->HT.lexLt c b=false->HT.lexLt c a=false
 | a,[],c,_,h2=>by
   cases c with
   | nil =>
     cases a with
     | nil=>rfl
     | cons x a=>rename_i h1;rw[HT.lexLt_nil_cons] at h1;cases h1
   | cons z c =>
     cases a with
     | nil=>exact HT.lexLt_cons_nil _ _
     | cons x a=>rename_i h1;rw[HT.lexLt_nil_cons] at h1;cases h1
 | a,y::b,[],_,h2=>by rw[HT.lexLt_nil_cons] at h2;cases h2
 | [],y::b,z::c,_,_=>HT.lexLt_cons_nil _ _
 | x::a,y::b,z::c,h1,h2=>by
   rw[HT.lexLt_cons] at h1 h2 ⊢
   by_cases e1:y=x
   . subst e1;rw[if_pos rfl] at h1
     by_cases e2:z=y
     . subst e2;rw[if_pos rfl] at h2 ⊢;exact zg4 h1 h2
     . rw[if_neg e2] at h2 ⊢;exact h2
   . rw[if_neg e1] at h1;have a1:=of_decide_eq_false h1
     by_cases e2:z=y
     . subst e2;rw[if_neg e1];exact h1
     . rw[if_neg e2] at h2;have a2:=of_decide_eq_false h2;rw[if_neg (by omega)];exact decide_eq_false (by omega)
theorem zjd{a b:List Int}(h:HT.lexLt a b=true):HT.lexLt b a=false:=by
 cases e:HT.lexLt b a with
 | false=>rfl
 | true =>
   -- b < a and a < b: then not (a < a) breaks
   exfalso;have:∀ {a b:List Int},HT.lexLt a b=true->HT.lexLt b a=true->False:=by
     intro a
     induction a with
     | nil=>intro b h1 h2;cases b with
       | nil=>rw[HT.lexLt_nil_nil] at h1;cases h1
       | cons y b=>rw[HT.lexLt_cons_nil] at h2;cases h2
     | cons x a ih=>intro b h1 h2;cases b with
       | nil=>rw[HT.lexLt_cons_nil] at h1;cases h1
       | cons y b =>
         rw[HT.lexLt_cons] at h1 h2
         by_cases q:x=y
         . subst q;rw[if_pos rfl] at h1 h2;exact ih h1 h2
         . rw[if_neg q] at h1;rw[if_neg (A7 q)] at h2;have a1:=of_decide_eq_true h1;have a2:=of_decide_eq_true h2;omega
   exact this h e
noncomputable def tle(a b:List Int):Bool:=!HT.lexLt b a
noncomputable def ziY(ts:List (List Int)):List (List Int):=ts.mergeSort tle
theorem zdH(a b c:List Int)(h1:tle a b=true)(h2:tle b c=true):tle a c=true:=by
 unfold tle at *;rw[BF] at *;exact zg4 h1 h2
theorem zhQ(a b:List Int):(tle a b || tle b a)=true:=by
 unfold tle
 cases e:HT.lexLt b a with
 | false=>rfl
 | true=>rw[zjd e];rfl
theorem zjy{a b:List Int}(h1:tle a b=true)(h2:tle b a=true):a=b:=by
 unfold tle at *;rw[BF] at *;exact zje h2 h1
noncomputable def rank(ts:List (List Int))(i:Nat):Int:=((ts.countP fun t=>HT.lexLt t (ts.getD i [])):Nat)
theorem zi5{ts:List (List Int)}{i j:Nat}(hi:i < ts.length):(decide (rank ts i < rank ts j))=HT.lexLt (ts.getD i []) (ts.getD j []):=by
 unfold rank
 cases e:HT.lexLt (ts.getD i []) (ts.getD j []) with
 | true =>
   refine decide_eq_true ?_;have le:ts.countP (fun t=>HT.lexLt t (ts.getD i [])) < ts.countP (fun t=>HT.lexLt t (ts.getD j [])):=by
     have hm:ts.getD i []∈ts:=by rw[AF,Aw hi];exact Ce hi
     generalize ha:ts.getD i []=a at *;generalize hb:ts.getD j []=b at *;clear ha hb hi;have sub:∀ t,HT.lexLt t a=true->HT.lexLt t b=true:=fun t ht=>by
       cases q:HT.lexLt t b with
       | true=>rfl
       | false =>
         exfalso
         -- b<=t,t < a,a < b
         have h1:HT.lexLt a t=false:=zjd ht;have:HT.lexLt a b=false:=by
           have h2:tle b t=true:=by unfold tle;rw[q];rfl
           have h3:tle t a=true:=by unfold tle;rw[h1];rfl
           have:=zdH b t a h2 h3;unfold tle at this;rw[BF] at this;exact this
         rw[e] at this;cases this
     induction ts with
     | nil=>exact absurd hm (by simp)
     | cons t r ih =>
       rw[EX,EX]
       rcases List.mem_cons.mp hm with q | q
       . subst q;rw[zmi,e];have:r.countP (fun t=>HT.lexLt t a)<=r.countP (fun t=>HT.lexLt t b):=D6 fun t _ ht=>sub t ht;simp only[Bt,if_false,if_true];omega
       . have:=ih q
         by_cases c:HT.lexLt t a=true
         . rw[if_pos c,if_pos (sub t c)];omega
         . rw[if_neg c];split <;> omega
   omega
 | false =>
   refine decide_eq_false ?_;have le:ts.countP (fun t=>HT.lexLt t (ts.getD j []))<=ts.countP (fun t=>HT.lexLt t (ts.getD i [])):=D6 fun t _ ht=>by
     cases q:HT.lexLt t (ts.getD i []) with
     | true=>rfl
     | false =>
       exfalso;have h2:tle (ts.getD j []) (ts.getD i [])=true:=by unfold tle;rw[e];rfl
       have h3:tle (ts.getD i []) t=true:=by unfold tle;rw[q];rfl
       have h4:=zdH _ _ _ h2 h3;unfold tle at h4;rw[ht] at h4;cases h4
   omega
theorem zoj{n:Nat}{r:Nat->Int}{α:Type}{P:α->Prop}{Q:α->Shared->Prop}{s:Shared}{cmp:Nat->Nat->(Bool->Shared->Prop)->Shared->Prop}(hc:∀ i j,i < n->j < n->∀ C:Bool->Shared->Prop,C (decide (r i < r j)) s->cmp i j C s)(hq:∀ a,P a->Q a s) :
   ∀ {t:PySem.W.KasT α},Srt.Hd n r t P->t.kasWp cmp Q s
 | .ret a,h=>hq a h
 | .ask i j k,h=>hc i j h.1.1 h.1.2 _ (zoj hc hq (t:=k _) h.2)
section
variable {prog:Program} {w:World} {A:Around} {E:Value->Shared->Prop} {s:Shared}
theorem zdv{Q:Bool->Shared->Prop}:∀ {xs ys:List Int} {us ws:List Value} (i:Nat),Vals (xs.map V.int) us->Vals (ys.map V.int) ws->Q (HT.lexLt xs ys) s->PySem.W.KatLex prog w A true (decide (us.length < ws.length)) Q (us.zip ws) i s
 | [],[],_,_,i,.nil,.nil,h=>h
 | [],y::ys,_,_,i,.nil,.cons r t,h=>by
   show Q (decide (_ < _)) s;rw[decide_eq_true (by simp)];exact h
 | x::xs,[],_,_,i,.cons r t,.nil,h=>by
   show Q (decide (_ < _)) s;rw[decide_eq_false (by simp)];exact h
 | x::xs,y::ys,_,_,i,.cons r1 t1,.cons r2 t2,h=>by
   obtain⟨a1,rfl⟩:=r1;obtain⟨a2,rfl⟩:=r2;rw[HT.lexLt_cons] at h;refine EA x a1 y a2 prog w _ _ ?_
   by_cases e:x=y
   . subst e;rw[if_pos rfl] at h;rw[beq_self_eq_true,if_pos rfl];have:=zdv (Q:=Q) (i+1) t1 t2 h;rw[AX,AX];have e2:∀ a b:Nat,decide (a+1 < b+1)=decide (a < b):=fun a b=>by
       by_cases q:a < b
       . rw[decide_eq_true q,decide_eq_true (by omega)]
       . rw[decide_eq_false q,decide_eq_false (by omega)]
     rw[e2];exact this
   . rw[if_neg e] at h;have hb:(x==y)=false:=by simpa using e
     rw[hb,if_neg A9]
     by_cases hi:i=0
     . subst hi;exact oneLt_int h
     . have:(true&&i==0)=false:=by simpa using hi
       rw[this];exact PySem.W.kat_one _ _ (Fd h)
end
section
variable {X:Cx} {pins:List (Addr×Obj)} {σ:L2.St} {H:Hp} {s:Shared}
noncomputable def zge(H:Hp):List V->List (List Int)->Prop:=Paired fun v t=>∃ a,v=.ref a/\H a=some (.tup (t.map V.int))/\t≠[]
theorem zeM:∀ {xs:List V} {ts:List (List Int)} {i:Nat},zge H xs ts->i < ts.length->∃ a,xs[i]?=some (.ref a)/\H a=some (.tup ((ts.getD i []).map V.int))/\ts.getD i []≠[]
 | _,[],i,_,hi=>absurd hi (by simp)
 | _,t::ts,0,.cons r q,_=>by
   obtain⟨a,rfl,ha,hn⟩:=r;exact⟨a,rfl,ha,hn⟩
 | _,t::ts,i+1,.cons r q,hi=>by
   have:=zeM (i:=i) q (by simpa using hi);simpa using this
theorem zmD{A:Around}{xs:List V}{us:List Value}{ts:List (List Int)}{s':Shared}(I:Inv X pins σ H s)(hk:∀ b o,H b≠none->s.heap.get? b=some o->s'.heap.get? b=some o)(T:zge H xs ts)(r:Vals xs us){i j:Nat}(hi:i < ts.length)(hj:j < ts.length)(C:Bool->Shared->Prop)
   (h:C (decide (rank ts i < rank ts j)) s'):Fj X.prog X.w A (PyProof.Rows.tuples' true) us i j C s':=by
 rw[zi5 hi] at h;obtain⟨a,ea,ha,_⟩:=zeM T hi;obtain⟨b,eb,hb,_⟩:=zeM T hj;obtain⟨u,eu,ru⟩:=r.get ea;obtain⟨u2,eu2,ru2⟩:=r.get eb;cases ru;cases ru2;obtain⟨ia,va,⟨oa,ga,ca,na,da⟩,_⟩:=I.tuple (SqT.of (K:=X.K) ha);obtain⟨ib,vb,⟨ob,gb,cb,nb,db⟩,_⟩:=I.tuple (SqT.of (K:=X.K) hb);unfold Fj;rw[AF,AF,eu,eu2];refine PySem.W.kat_lt (hk _ _ (by rw[ha];simp) ga) da (hk _ _ (by rw[hb];simp) gb) db ?_;have:=zdv (prog:=X.prog) (w:=X.w) (A:=A) (Q:=C) (s:=s') 0 va vb h;simpa using this
end
section
variable {X:Cx} {pins:List (Addr×Obj)} {σ:L2.St} {H:Hp} {s:Shared}
theorem ze4{h':Heap}(I:Inv X pins σ H s)(hk:∀ b o,H b≠none->s.heap.get? b=some o->h'.get? b=some o):∀ {xs:List V} {us:List Value} {ts:List (List Int)},zge H xs ts->Vals xs us ->
   ∃ fs:List Value,PySem.W.KatTups h' us fs/\fs.length=us.length/\∀ v∈fs,∃ i t,v=CL i t
 | _,_,[],.nil,.nil=>⟨[],FN,rfl,fun v hv=>absurd hv (by simp)⟩
 | _,_,t::ts,.cons r q,.cons rv rvs=>by
   obtain⟨a,rfl,ha,hn⟩:=r;cases rv;obtain⟨fs,h1,h2,h3⟩:=ze4 I hk q rvs;obtain⟨its,va,⟨o,g,c,n,d⟩,_⟩:=I.tuple (SqT.of (K:=X.K) ha)
   cases t with
   | nil=>exact absurd rfl hn
   | cons x t =>
     cases va with
     | @cons _ u _ us' ru rus =>
       obtain⟨tk,rfl⟩:=ru;refine⟨.int x tk::fs,FJ (hk _ _ (by rw[ha];simp) g) c d (by simp) h1,by rw[AX,AX,h2],fun v hv=>?_⟩
       rcases List.mem_cons.mp hv with rfl | hv
       . exact⟨x,tk,rfl⟩
       . exact h3 v hv
end
theorem zfr{P:Program}{w:World}{H:Hp}{h:Heap}{a:Addr}{o:HO}(x:zcA P w H h a o):∃ u,h.get? a=some u:=by
 cases o with
 | lst xs=>obtain⟨_,_,_,_,e⟩:=x;exact⟨_,e⟩
 | tup xs=>obtain⟨_,_,_,o,e,_⟩:=x;exact⟨_,e⟩
 | dK kvs=>obtain⟨_,_,_,_,o,_,_,e,_⟩:=x;exact⟨_,e⟩
 | dT kvs=>obtain⟨_,_,_,_,o,_,_,e,_⟩:=x;exact⟨_,e⟩
 | set S n=>obtain⟨o,_,_,_,e,_⟩:=x;exact⟨_,e⟩
 | ins C dx fs=>obtain⟨_,_,_,e,_⟩:=x;exact⟨_,e⟩
 | own y=>exact x
 | xd fs=>obtain⟨_,⟨_,_,_,e,_⟩,_⟩:=x;exact⟨_,e⟩
 | rng lo hi=>obtain⟨_,_,_,e⟩:=x;exact⟨_,e⟩
 | frz ob u=>obtain⟨e,_⟩:=x;exact⟨_,e⟩
 | tbl ps=>exact⟨_,x⟩
 | met f y=>exact⟨_,x⟩
 | ext φ=>obtain⟨_,e,_⟩:=x;exact e
theorem zma{h:Heap}{a:Addr}{m m':Str->Option Value}(x:h.Ns a m)(y:h.Ns a m'):m=m':=by
 obtain⟨o,es,ep,ho,hd,_,hm⟩:=x;obtain⟨o',es',ep',ho',hd',_,hm'⟩:=y;rw[ho] at ho';cases ho';rw[hd] at hd';cases hd'
 funext n
 rw[<-hm n,hm' n]
section
variable {X:Cx} {pins:List (Addr×Obj)} {σ:L2.St} {H:Hp} {s:Shared}
theorem Inv.laidAt{h':Heap}{m:Str->Option Value}{a:Addr}{o:HO}(I:Inv X pins σ H s)(k:∀ b u,b≠X.env.locals->s.heap.get? b=some u->h'.get? b=some u)(ns:∀ m,s.heap.Ns X.env.locals m->h'.Ns X.env.locals m)(hL:∃ u,h'.get? X.env.locals=some u)
   (ha:s.heap.get? a=none) (hH:H a=none) (haL:a≠X.env.locals) (new:zcA X.prog X.w (upd H a o) h' a o):Inv X pins σ (upd H a o) { s with heap:=h' }:=by
 have na:∀ b u,s.heap.get? b=some u->b≠a:=fun b u e z=>by rw[z,ha] at e;cases e
 refine Inv.step (t':=s.toks) (ch:=[]) (g':=s.gens) (d':=s.drawn) I (fun b hb=>absurd hb (by simp)) (fun b u h1 _ _ e _=>k b u h1 e) (fun b u h1 _ _ e _=>⟨u.slots,k b u h1 e⟩) (fun b u _ e n=>by rw[zaG (na b u e)];exact n) (fun b u _ e=>?_)
   (fun b xs e=>by rw[zaG (zaq e hH)];exact e) (fun b u v e=>by rw[zaG (zaq e hH)];exact e) (fun b ps e=>⟨#[],by rw[zaG (zaq e hH),e];simp⟩) ns (fun b u e=>?_) I.bare
 . by_cases hb:b=X.env.locals
   . rw[hb];exact hL
   . exact⟨u,k b u hb e⟩
 . by_cases hb:b=a
   . subst hb;rw[zbn] at e;cases e;exact new
   . rw[zaG hb] at e;refine (I.hok b u e).stay (fun c v hc q=>k c v (fun z=>?_) q) (fun c q=>by rw[zaG (zaq q hH)];exact q) fun c xs q=>by rw[zaG (zaq q hH)];exact q
     subst z
     rcases hc with rfl | hc
     . rw[I.free] at e;cases e
     . rw[I.free] at hc;cases hc
theorem zfS{xs:List V}{ts:List (List Int)}{l:Addr}{Q:VK}(I:Inv X pins σ H s)(hl:SqL X.K H l xs)(T:zge H xs ts)(h2:2<=ts.length)(h64:ts.length < 64)
   (h:∀ (q:Array Nat) (p:Addr),q.Perm (BL (AQ ts.length))->Srt.Up (rank ts) q ts.length->H p=none->Q (.ref p) (upd H p (.lst (q.toList.map fun i=>xs.getD i .non)))) :
   wpAny (model X.prog X.w) X.A (call (.builtin "sorted") [.ref l]) (EP X pins σ Q) X.xe s:=by
 obtain⟨its,rv,pl,hz⟩:=I.list hl;have hlen:its.length=ts.length:=by
   have a:=rv.length;have b:=BP T;omega
 obtain⟨m,F⟩:=I.fr;have trkL:∀ b,H b≠none->b≠X.env.locals:=fun b hb z=>hb (by rw[z];exact I.free);have trkB:∀ b,H b≠none->X.base.get? b=none:=fun b hb=>by
   cases e:X.base.get? b with
   | none=>rfl
   | some o=>exact absurd (I.bs b o e).2 hb
 refine PySem.W.kat_sorted F (zeY (g:=X.base) (h:=s.heap) (L:=X.env.locals)) pl.isList (by omega) (by omega) fun D e1 h' F' N' hlt=>?_;have keep:∀ {h2:Heap} {o:Obj},Fr X.base X.env.locals h2 m->News X.base X.env.locals h2 ((D,o)::zdg X.base s.heap X.env.locals)->∀ b u,b≠X.env.locals->s.heap.get? b=some u->h2.get? b=some u:=fun {h2 o} F2 N2 b u hb e=>by
   cases q:X.base.get? b with
   | some v =>
     have z:=(I.bs b v q).1;rw[e] at z;cases z;exact F2.keep b _ q
   | none=>exact (N2 (b,u) (Ai _ (zcp hb q e))).1
 have hk:∀ b o,H b≠none->s.heap.get? b=some o->h'.get? b=some o:=fun b o hb e=>keep F' N' b o (trkL b hb) e;have hDD:=N' _ An;have hsD:s.heap.get? D=none:=by
   cases e:s.heap.get? D with
   | none=>rfl
   | some u=>exact absurd (hlt _ (zcp hDD.2.1 hDD.2.2 e)) (AU _)
 have hHD:H D=none:=by
   cases e:H D with
   | none=>rfl
   | some o =>
     obtain⟨u,hu⟩:=zfr (I.hok D o e);rw[hsD] at hu;cases hu
 obtain⟨fs,k1,k2,k3⟩:=ze4 (h':=h') I hk T rv;refine EY (s:={ s with heap:=h' }) (T:=.type "int") k1 (by omega) (fun v hv=>?_) rfl ?_
 . obtain⟨i,t,rfl⟩:=k3 v hv;exact D7 rfl
 have ok:=Srt.sort_ok (n:=its.length) (r:=rank ts) (by omega);refine zoj (n:=its.length) (r:=rank ts) (s:={ s with heap:=h' }) (fun i j hi hj C hC=>zmD (s':={ s with heap:=h' }) I hk T rv (by omega) (by omega) C hC) (fun q hq=>?_) ok;refine Ej F' N' (EK fun p hp=>AG (hlt p hp)) fun h2 c F2 N2=>?_;have hD2:=(N2 _ An).1;rw[hlen] at hq;have vals:Vals (q.toList.map fun i=>xs.getD i .non) (q.toList.map fun i=>its.getD i Bj):=by
   have hmem:∀ i∈q.toList,i < xs.length:=fun i hi=>by
     have:i∈(BL (AQ ts.length)).toList:=(Array.perm_iff_toList_perm.mp hq.1).mem_iff.mp hi;have hr:=rv.length;simp at this;omega
   generalize q.toList=ql at hmem
   induction ql with
   | nil=>exact .nil
   | cons i r ih =>
     refine .cons ?_ (ih fun j hj=>hmem j (Ai _ hj));have hi:=hmem i An;obtain⟨u,eu,ru⟩:=rv.get (Aw hi);show RelV (xs.getD i V.non) (its.getD i Bj);rw[AF,AF,Aw hi,eu];exact ru
 have hql:q.toList.length=ts.length:=by
   have:=(Array.perm_iff_toList_perm.mp hq.1).length_eq;simpa using this
 have J:Inv X pins σ (upd H D (.lst (q.toList.map fun i=>xs.getD i .non))) { s with heap:=h2 } :=
   Inv.laidAt (m:=m) I (keep F2 N2) (fun m' hm'=>by rw[zma hm' F.ns];exact F2.ns) (let ⟨o,_,_,e,_⟩:=F2.ns;⟨o,e⟩) hsD hHD hDD.2.1 ⟨by rw[Aj,hql];exact lt64 h64,_,c,vals,hD2⟩
 exact⟨.ref D,_,J,rfl,h q D hq.1 hq.2 hHD⟩
end
theorem zd3{α:Type}(ts:List α)(d:α):(AQ ts.length).map (fun i=>ts.getD i d)=ts:=by
 apply List.ext_getElem
 . simp
 . intro i h1 h2;simp[AF,Aw h2]
theorem zdq{ts:List (List Int)}{q:Array Nat}(hp:q.Perm (BL (AQ ts.length)))(hu:Srt.Up (rank ts) q ts.length):q.toList.map (fun i=>ts.getD i [])=ziY ts:=by
 have hl:=Array.perm_iff_toList_perm.mp hp;have hl:q.toList.Perm (AQ ts.length):=by simpa using hl
 have hsz:q.toList.length=ts.length:=by rw[hl.length_eq,CB]
 have p1:(q.toList.map fun i=>ts.getD i []).Perm ts:=by
   have:=hl.map fun i=>ts.getD i [];rw[zd3] at this;exact this
 refine zcX (le:=fun a b=>tle a b=true) (p1.trans (C1 ts tle).symm) ?_ (DI (fun a b c=>zdH a b c) zhQ ts) fun a _ b _=>zjy;rw[List.pairwise_iff_getElem];intro i j hi hj hij;rw[EZ,EZ];rw[Aj] at hi hj;have hu:=hu i j (Cb hij) (by omega);have gi:∀ (k:Nat) (hk:k < q.toList.length),q.getD k 0=q.toList[k]:=fun k hk=>by
   rw[BK,<-Bp,Aw hk];rfl
 unfold Srt.R at hu;rw[gi i hi,gi j hj] at hu;have lt:∀ k∈q.toList,k < ts.length:=fun k hk=>List.mem_range.mp (hl.mem_iff.mp hk);have e:=zi5 (ts:=ts) (i:=q.toList[j]) (j:=q.toList[i]) (lt _ (Ce hj));rw[decide_eq_false (by omega)] at e;unfold tle;rw[<-e];rfl
noncomputable def intsOf:List D->Option (List Int)
 | []=>some []
 | .int i::r=>(intsOf r).map fun is=>i::is
 | _=>none
theorem zf7{d:D}{r:List D}{ss:List Int}(h:intsOf (d::r)=some ss):∃ x xs,d=.int x/\intsOf r=some xs/\ss=x::xs:=by
 cases d with
 | int x =>
   obtain⟨xs,e,h⟩:=zag h;exact⟨x,xs,rfl,e,h.symm⟩
 | _=>cases h
noncomputable def rowOf:D->Option (List Int)
 | .tup ds=>(intsOf ds).bind fun t=>if (!t.isEmpty)=true then some t else none
 | _=>none
noncomputable def rowsOf:List D->Option (List (List Int))
 | []=>some []
 | d::r=>(rowOf d).bind fun t=>(rowsOf r).map fun ts=>t::ts
noncomputable def tupD(t:List Int):D:=.tup (t.map D.int)
section
variable {X:Cx} {K:Ab} {H:Hp} {io:List Addr} {st st':Sto}
theorem ints_rep:∀ {xs:List V} {ds:List D} {t:List Int},Reps K H io xs ds->intsOf ds=some t->xs=t.map V.int/\ds=t.map D.int
 | _,[],t,h,e=>by cases e;exact⟨h,rfl⟩
 | _,d::ds,t,h,e=>by
   obtain⟨y,ys,rfl,h1,h2⟩:=h;obtain⟨x,rest,rfl,e2,rfl⟩:=zf7 e;obtain⟨a,b⟩:=ints_rep h2 e2
   cases (show y=.int x from h1)
   rw[a,b];exact⟨rfl,rfl⟩
theorem zgG:∀ {xs:List V} {ds:List D} {ts:List (List Int)},Reps K H io xs ds->rowsOf ds=some ts->zge H xs ts/\ds=ts.map tupD
 | _,[],ts,h,e=>by
   cases e;cases (show _=[] from h);exact⟨.nil,rfl⟩
 | _,d::ds,ts,h,e=>by
   obtain⟨y,ys,rfl,h1,h2⟩:=h;obtain⟨t,e1,e⟩:=zad e;obtain⟨us,e2,e⟩:=zag e;subst e;obtain⟨a,b⟩:=zgG h2 e2
   cases d with
   | tup zs =>
     obtain⟨t',f1,f2⟩:=zad e1;obtain⟨hn,f2⟩:=zam f2;cases f2;obtain⟨p,vs,rfl,hp,rs⟩:=h1;obtain⟨q1,q2⟩:=ints_rep rs f1;subst q1;refine⟨.cons ⟨p,rfl,hp,fun z=>?_⟩ a,?_⟩
     . rw[z] at hn;exact absurd hn (by decide)
     . rw[b,q2];rfl
   | _=>cases e1
noncomputable def zdK:GN
 | [.ref n],st=>(zba st n).bind fun ds=>(rowsOf ds).bind fun ts=>if (decide (2<=ts.length)&&decide (ts.length < 64))=true then some (.ref st.length,st++[.lst ((ziY ts).map tupD)]) else none
 | _,_=>none
theorem zdV{xs:List V}{ts:List (List Int)}(r:Reps K H io xs (ts.map tupD)):∀ {q:List Nat},(∀ i∈q,i < ts.length)->Reps K H io (q.map fun i=>xs.getD i .non) ((q.map fun i=>ts.getD i []).map tupD)
 | [],_=>rfl
 | i::q,h=>by
   have hi:=h i An;have hg:(ts.map tupD)[i]?=some (tupD (ts.getD i [])):=by
     rw[AE,Aw hi,AF,Aw hi];rfl
   obtain⟨v,hv,rv⟩:=r.get hg;refine⟨_,_,rfl,?_,zdV r fun j hj=>h j (Ai _ hj)⟩;show Rep K H io (xs.getD i .non) _;rw[AF,hv];exact rv
theorem zeC:zcM X (.builtin "sorted") zdK:=by
 rintro pins s σ H xs us Q I r ⟨ds,st,io,d,st',R,S,e,k⟩;unfold zdK at e
 split at e
 . rename_i n;obtain⟨zs,e0,e⟩:=zad e;obtain⟨ts,e1,e⟩:=zad e;obtain⟨hl,e⟩:=zam e;cases e;rw[Ao] at hl;obtain⟨v,rfl,p,rfl,hp⟩:=R.one;obtain⟨u,rfl,ru⟩:=r.one;cases ru;obtain⟨ys,hx,r1⟩:=zaW S hp e0;obtain⟨T,hd⟩:=zgG r1 e1;subst hd;refine zfS I hx T (of_decide_eq_true hl.1) (of_decide_eq_true hl.2) fun q p' hq hu hf=>?_;have hm:∀ i∈q.toList,i < ts.length:=fun i hi=>by
     have:=(Array.perm_iff_toList_perm.mp hq).mem_iff.mp hi;simpa using this
   have rr:=zdV r1 hm;rw[zdq hq hu] at rr;exact k.lst S rr hf
 . cases e
end
section
variable {X:Cx} {K:Ab} {H:Hp} {io:List Addr} {st st':Sto} {a b c e:Expr} {es:List Expr} {ma mb mc m:ME} {mm:MA} {pos:Pos} {pins:List (Addr×Obj)} {σ:L2.St} {s:Shared}
noncomputable def orO{α:Type}:Option α->Option α->Option α
 | some x,_=>some x
 | none,y=>y
theorem zbD{α:Type}{x y:Option α}{z:α}(h:orO x y=some z):x=some z\/y=some z:=by
 cases x with
 | none=>exact .inr h
 | some w=>exact .inl h
noncomputable def orG(g h:G2):G2:=fun x y st=>orO (g x y st) (h x y st)
noncomputable def orN(g h:GN):GN:=fun xs st=>orO (g xs st) (h xs st)
theorem zgT{f:Value->Value->Sem Value}{g h:G2}(p:OpM X f g)(q:OpM X f h):OpM X f (orG g h):=by
 rintro pins s σ H x y v u Q I rx ry ⟨dx,dy,st,io,d,st',Rx,Ry,S,e,k⟩
 rcases zbD e with e | e
 . exact p pins s σ H x y v u Q I rx ry ⟨dx,dy,st,io,d,st',Rx,Ry,S,e,k⟩
 . exact q pins s σ H x y v u Q I rx ry ⟨dx,dy,st,io,d,st',Rx,Ry,S,e,k⟩
theorem zcy{f:Value}{g h:GN}(p:zcM X f g)(q:zcM X f h):zcM X f (orN g h):=by
 rintro pins s σ H xs us Q I r ⟨ds,st,io,d,st',R,S,e,k⟩
 rcases zbD e with e | e
 . exact p pins s σ H xs us Q I r ⟨ds,st,io,d,st',R,S,e,k⟩
 . exact q pins s σ H xs us Q I r ⟨ds,st,io,d,st',R,S,e,k⟩
theorem zfv{g:G2}{ρ:Rho}{x y:D}{s0 s1 s2:Sto}{r:D×Sto}(h1:ma ρ s0=some (x,s1))(h2:mb ρ s1=some (y,s2))(h3:g x y s2=some r):mBin g ma mb ρ s0=some r:=by
 unfold mBin;rw[h1];show FH (mb ρ s1) _=_;rw[h2];exact h3
theorem znd{g h:G2}(p:SE X e (mBin g ma mb))(q:SE X e (mBin h ma mb)):SE X e (mBin (orG g h) ma mb):=by
 rintro pins s σ H Q I ⟨ρ,st,io,d,st',E,S,e,k⟩;obtain⟨⟨x,s1⟩,e1,e⟩:=zad e;obtain⟨⟨y,s2⟩,e2,e⟩:=zad e
 rcases zbD e with e | e
 . exact p pins s σ H Q I ⟨ρ,st,io,d,st',E,S,zfv e1 e2 e,k⟩
 . exact q pins s σ H Q I ⟨ρ,st,io,d,st',E,S,zfv e1 e2 e,k⟩
theorem zjW{g h:G2}(p:SB X e (mTst (mBin g ma mb)))(q:SB X e (mTst (mBin h ma mb))):SB X e (mTst (mBin (orG g h) ma mb)):=by
 rintro pins s σ H Q I ⟨ρ,st,io,d,st',E,S,e,k⟩;have e:=zhP e;obtain⟨⟨x,s1⟩,e1,e⟩:=zad e;obtain⟨⟨y,s2⟩,e2,e⟩:=zad e
 rcases zbD e with e | e
 . exact p pins s σ H Q I ⟨ρ,st,io,d,st',E,S,by unfold mTst;rw[zfv e1 e2 e];rfl,k⟩
 . exact q pins s σ H Q I ⟨ρ,st,io,d,st',E,S,by unfold mTst;rw[zfv e1 e2 e];rfl,k⟩
noncomputable def zoL:G2:=fun d k st=>match d with
 | .ref n=>(look st n k).bind fun r=>r.map fun v=>(v,st)
 | _=>none
noncomputable def ixA:G2:=orG idxD zoL
theorem za4(hu:X.A.units+1 < cLine)(ha:SE X a ma)(hb:SE X b mb)(hs:zhH b:=by intro _ _;rfl)(hs':NoSl b:=by intro _ _;rfl):SE X (.Subscript a b pos) (mBin ixA ma mb) :=
 znd (zo5 ha hb hs) (show SE X (.Subscript a b pos) (zoE ma mb) from zlz hu ha hb hs')
noncomputable def dinD(neg:Bool):G2:=fun k d st=>match d with
 | .ref n=>(look st n k).map fun r=>(.bl (if neg then !r.isSome else r.isSome),st)
 | _=>none
noncomputable def inA:G2:=orG (orG (inD false) inSD) (dinD false)
noncomputable def zio:G2:=orG (inD true) (dinD true)
theorem zh8(hu:X.A.units+100 < cLine)(ha:SE X a ma)(hb:SE X b mb)(hm:behindInMarks .In b=false:=by rfl):SB X (.Compare a [.In] [b] pos) (mTst (mBin inA ma mb)) :=
 zjW (zbt (zgT (znN hu) zl6) ha hb hm) (show SB X _ (mTst (mDIn false ma mb)) from zng (by omega) ha hb hm)
theorem zh7(hu:X.A.units+100 < cLine)(ha:SE X a ma)(hb:SE X b mb)(hm:behindInMarks .NotIn b=false:=by rfl):SB X (.Compare a [.NotIn] [b] pos) (mTst (mBin zio ma mb)) :=
 zjW (zbt (zik hu) ha hb hm) (show SB X _ (mTst (mDIn true ma mb)) from zh9 (by omega) ha hb hm)
noncomputable def slA:D->Option Int->Option Int->Sto->Option (D×Sto):=fun x lo hi st=>orO (slD x lo hi st) (slS x lo hi st)
noncomputable def mSlA(m:ME)(l h:MO):ME:=fun ρ st=>(m ρ st).bind fun (x,s1)=>(l ρ s1).bind fun (lo,s2)=>(h ρ s2).bind fun (hi,s3)=>slA x lo hi s3
theorem zh2{lo hi:Option Expr}{ml mh:MO}{p2:Pos}(he:SE X e m)(hl:SO X lo ml)(hu:SO X hi mh):SE X (.Subscript e (.Slice lo hi none p2) pos) (mSlA m ml mh):=by
 rintro pins s σ H Q I ⟨ρ,st,io,d,st',E,S,e0,k⟩;obtain⟨⟨x,s1⟩,e1,e0⟩:=zad e0;obtain⟨⟨lo',s2⟩,e2,e0⟩:=zad e0;obtain⟨⟨hi',s3⟩,e3,e0⟩:=zad e0
 rcases zbD e0 with e0 | e0
 . exact zjP he hl hu pins s σ H Q I ⟨ρ,st,io,d,st',E,S,by simp only[mSl,e1,e2,e3,Ac];exact e0,k⟩
 . exact zh0 he hl hu pins s σ H Q I ⟨ρ,st,io,d,st',E,S,by simp only[mSlS,e1,e2,e3,Ac];exact e0,k⟩
noncomputable def zhL:D->Sto->Option (Wk×Sto)
 | .ref n,s=>(zba s n).map fun ds=>(⟨ds,[(n,ds)]⟩,s)
 | .tup ds,s=>some (⟨ds,[]⟩,s)
 | _,_=>none
noncomputable def mW(m:ME):MI:=fun ρ st=>(m ρ st).bind fun (d,s)=>zhL d s
theorem zlt{tg l:Expr}(hl:SE X l m):SI X tg l (mW m):=by
 rintro pins s σ H R I ⟨ρ,st,io,W,st',E,S,e0,k⟩;obtain⟨⟨d,s1⟩,e1,e0⟩:=zad e0
 cases d with
 | ref n=>exact zlu hl pins s σ H R I ⟨ρ,st,io,W,st',E,S,by unfold mWL;rw[e1];exact e0,k⟩
 | tup ds=>exact zm9 hl pins s σ H R I ⟨ρ,st,io,W,st',E,S,by unfold mWT;rw[e1];exact e0,k⟩
 | _=>cases e0
noncomputable def setD:G3:=fun o i v st=>match o,i with
 | .ref n,.int k=>match st[n]? with
   | some (.lst ds)=>(ixN ds.length k).map fun j=>st.set n (.lst (ds.set j v))
   | _=>none
 | _,_=>none
theorem zo4:SetM X setD:=by
 rintro pins s σ H o i v ov iv u Q I ro ri rv ⟨d1,d2,d3,st,io,st',R1,R2,R3,S,e,k⟩
 cases d1 with
 | ref n =>
   cases d2 with
   | int j =>
     unfold setD at e;dsimp only at e
     split at e
     . rename_i ds e0;obtain⟨q,e1,e⟩:=zag e;cases e;obtain⟨p,rfl,hp⟩:=R1;obtain⟨ys,hH,r⟩:=S.ob n p _ hp e0;refine set_list pins s σ H _ _ v ov iv u Q I ro ri rv ⟨p,ys,j,q,rfl,R2,hH,by rw[r.length];exact e1,?_⟩;obtain⟨E',S'⟩:=zdS (o:=.lst (ys.set q v)) (ob:=.lst (ds.set q d3)) S hp e0 (fun o u z=>by rw[hH] at z;cases z) fun H' T e'=>⟨_,e',(Reps.mono T r).set q (Rep.mono T R3)⟩
       exact k _ [] E' S'
     . cases e
   | _=>cases e
 | _=>cases d2 <;> cases e
noncomputable def putA(mo mi mv:ME):MS:=fun ρ st=>orO (mAsg mv (gSb setD mo mi) ρ st) (zmg mo mi mv ρ st)
theorem zjD{o i value:Expr}{mo mi mv:ME}{pos':Pos}(hu:X.A.units+1 < cLine)(ho:SE X o mo)(hi:SE X i mi)(hv:SE X value mv)(hs:swapsWith value (some (.Subscript o i pos')) pos.line X.env=pure false:=by rfl)
   (ha:∀ v,assign (.Subscript o i pos') X.env v=(do
     let ov <-holding [v] (eval o X.env)
     let iv <-holding [v,ov] (eval i X.env)
     standAt pos'
     holding [v,ov,iv] (setItem ov iv v)
     release [v,ov,iv] []):=by intro _;rfl)
   (hs2:swapsWithSole [.Subscript o i pos'] value pos.line X.env=pure false:=by rfl) (hw:swappedStores [.Subscript o i pos'] value X.env=pure none:=by rfl)
   (h1:(assignEach [.Subscript o i pos'] X.env).map (·.2)=[assign (.Subscript o i pos') X.env]:=by rfl):SS X (.Assign [.Subscript o i pos'] value pos) (putA mo mi mv):=by
 intro pins s σ H N I h;obtain⟨ρ,st,io,f,st',E,S,e,w⟩:=zca.mp h
 rcases zbD e with e | e
 . exact zfQ hv (znb ho hi zo4 ha) hs2 hw h1 pins s σ H N I (zjw E S e w)
 . exact zlm hu ho hi hv hs pins s σ H N I (zjw E S e w)
noncomputable def mPar(i j:Nat)(mm:MA):MS:=fun ρ st=>(mm ρ st).bind fun (xs,s)=>match xs with
 | [x,y]=>some (.nx ((ρ.set i (some x)).set j (some y)),s)
 | _=>none
theorem zm1{i j:Nat}{x y:Str}{px py pt:Pos}{kt k2 pt2}(hc:X.calm=true)(hN:X.N.Nodup)(hi:X.N[i]?=some x)(hj:X.N[j]?=some y)(hij:i≠j)
   (hx:X.env.scope.names.lookup x=some .local) (hy:X.env.scope.names.lookup y=some .local) (ha:SA X [a,b] mm)
   (hw:swappedStores [.Tuple [.Name x px,.Name y py] kt pt] (.Tuple [a,b] k2 pt2) X.env=pure (some [x,y]):=by rfl)
   (hs:swapsWithSole [.Tuple [.Name x px,.Name y py] kt pt] (.Tuple [a,b] k2 pt2) pos.line X.env=pure false:=by rfl) :
   SS X (.Assign [.Tuple [.Name x px,.Name y py] kt pt] (.Tuple [a,b] k2 pt2) pos) (mPar i j mm):=PS.imp (znp hc hN hi hj hij hx hy ha hw hs) fun N σ H h=>by
 obtain⟨ρ,st,io,f,st',E,S,e,w⟩:=zca.mp h;obtain⟨⟨xs,s1⟩,e1,e⟩:=zad e
 match xs,e,e1 with
 | [u,v],e,e1 =>
   cases e;refine⟨ρ,st,io,_,_,E,S,e1,fun vs H1 k1 X1 S1 R1=>?_⟩;obtain⟨p,q,rfl,r1,r2⟩:=R1.two;exact⟨p,q,rfl,w _ H1 k1 X1 S1 (((E.ext S X1).set i r1).set j r2)⟩
def zbA(P:Program)(w:World)(K:Ab)(mg:Str->Option Value)(base:Heap)(k:Nat)(x:Str)(n:Nat)(g:GN):Prop :=
 ∃ f fd ps,FnOk P w K mg base CX0 k f fd ps (spM K n g)/\mg x=some (.ref f)/\BV K (.ref f)=true/\Binds K fd ps []
def zau(n:Nat)(mm:MA):Prop:=∀ ρ st xs s,mm ρ st=some (xs,s)->xs.length=n
theorem zau.nil:zau 0 mNil:=fun _ _ _ _ h=>zkl h
theorem zau.cons{n:Nat}(h:zau n mm):zau (n+1) (zab m mm):=fun _ _ _ _ q=>zit h q
theorem zal{x:Str}{p:Pos}{k n:Nat}{g:GN}(F:zbA X.prog X.w X.K X.mg X.base k x n g)(hr:Room k X.A)(hg:Gl X x)(ha:SA X (e::es) mm)(hl:zau n mm)(hdb:(x==("__debug__":Str))=false:=by decide)
   (he:starEach (e::es) X.env=(false,eval e X.env)::starEach es X.env:=by rfl) (hpl:(backTo pos (starEach es X.env)).any (·.1)=false:=by rfl) (hn:(e::es).length=n:=by rfl) :
   SE X (.Call (.Name x p) (e::es) [] pos) (zat g mm):=by
 obtain⟨f,fd,ps,F,hm,hk,hb⟩:=F;exact zlA F hr hg hm hk hb ha hdb he hpl hn hl
def Laid(K:Ab)(mg:Str->Option Value)(x:Str)(st:Stmt)(ps:List Str):Prop:=∃ f fd,Fun K x x st f fd/\mg x=some (.ref f)/\Binds K fd ps []
theorem zbM{P:Program}{w:World}{mg:Str->Option Value}{base:Heap}{x:Str}{st:Stmt}{N ps:List Str}{k:Nat}{m:MS}(L:Laid K mg x st ps)(S:FnScope N ps (zar st))
   (hbody:∀ (f:Addr) (cdv:Value) (A:Around) (outer:List Env) (s:Shared) (H:Hp) (E:XK),Room k (A.deeper (envOfC x (zar st) s.heap.objs.size f cdv)) ->
     SSs (cxOf CX0 P w K mg base N x (zar st) f cdv A outer s H E).nox (zbQ st) m):zbA P w K mg base (k+1) x ps.length (fnM N.length m):=by
 obtain⟨f,fd,F,hm,hb⟩:=L;exact⟨f,fd,ps,fn_m F S (hbody f),hm,F.kp,hb⟩
end
section
variable {prog:Program} {w:World} {A:Around} {E:Value->Shared->Prop} {s:Shared}
theorem zhW{at_:Addr}{v:Value}{k:Nat}{R:PySem.Fin->Shared->Prop}(g0:s.heap.get? at_=some (seqObj "list" #[v] k))(fin:R (.done (.ret .none)) { s with heap:=sortedHeap s.heap at_ [v] #[v] }) :
   wpAny (model prog w) A (Builtin.«list.sort» ⟨[.ref at_],[]⟩) R E s:=by
 have lt0:=Ak g0;obtain⟨ep,g1⟩:∃ ep,(s.heap.update at_ (Bv fun _=>(#[]:Array Value))).get? at_=some (seqObj "list" #[] ep):=⟨_,get?_update_seq g0 fun _=>#[]⟩
 have g2:(((s.heap.update at_ (Bv fun _=>(#[]:Array Value))).push (seqObj "tuple" #[v] 0)).push (seqObj "list" #[] 0)).get? at_=some (seqObj "list" #[] ep):=Ad _ (Ad _ g1);rw[list_sort_plain];refine Aa (listItems_at g0 rfl (Aa (Dh g0 rfl (Aa (D1 g1 rfl (Aa (D8 (Aa (Di (Bi ?_))))))))));show wpAny (model prog w) A _ R E { s with heap:=((s.heap.update at_ (Bv fun _=>(#[]:Array Value))).push (seqObj "tuple" #[v] 0)).push (seqObj "list" #[] 0) };have two:(#[v]:Array Value).size < 2:=by show 1 < 2;decide
 have same:(arrOf (FK general' ((#[v]:Array Value).zip #[v]) #[] 7 none)).map (·.2)=#[v]:=by
   show (((#[v]:Array Value).zip #[v]).map (·.2))=#[v];simp
 dsimp only;rw[if_pos two,if_pos two];refine Aa (Ae ?_);rw[Fk];refine Aa (Ae ?_);dsimp only;rw[same];refine Aa (D1 g2 rfl (Aa (Dh g2 rfl ?_)));simp only[bne_self_eq_false,Bt,if_false];exact Ae fin
theorem zfT{l:Addr}{v:Value}{R:Value->Shared->Prop}(hl:s.heap.IsList l [v].toArray)(fin:R (.ref (s.heap.objs.size+1)) { s with heap:=sortedAll s.heap [v] #[v] }) :
   wpAny (model prog w) A (call (.builtin "sorted") [.ref l]) R E s:=by
 have sz:((s.heap.push (seqObj "list" #[] 0)).update s.heap.objs.size (Bv (·++[v].toArray))).objs.size=s.heap.objs.size+1:=(Heap.size_update ..).trans (size_push' ..);have g0:(((s.heap.push (seqObj "list" #[] 0)).update s.heap.objs.size (Bv (·++[v].toArray))).push (seqObj "list" [v].toArray 0)).get? (s.heap.objs.size+1)=some (seqObj "list" [v].toArray 0):=by
   rw[<-sz];exact Ar _ rfl
 refine Dx kind_sorted plain_sorted entry_sorted (args_sorted1 _) ?_;unfold Builtin.«sorted»;refine Aa (m:=checkCount "sorted" 1 1 _) (Ae (Aa (collect_list hl (Aa (Di ?_)))));show wpAny _ _ _ _ _ { s with heap:=((s.heap.push (seqObj "list" #[] 0)).update s.heap.objs.size (Bv (·++[v].toArray))).push (seqObj "list" [v].toArray 0) };rw[sz];exact Aa (Bi (Bc slot_list_sort ⟨_,g0,rfl⟩ entry_list_sort (zhW g0 ⟨_,rfl,Ae ⟨_,rfl,fin⟩⟩) (args_list_sort _)))
end
section
variable {X:Cx} {K:Ab} {H:Hp} {io:List Addr} {st st':Sto}
noncomputable def zc0:GN
 | [.ref n],st=>(zba st n).bind fun ds=>if decide (ds.length=1)=true then some (.ref st.length,st++[.lst ds]) else none
 | _,_=>none
theorem zeE:zcM X (.builtin "sorted") zc0:=by
 rintro pins s σ H xs us Q I r ⟨ds,st,io,d,st',R,S,e,k⟩;unfold zc0 at e
 split at e
 . rename_i n;obtain⟨zs,e0,e⟩:=zad e;obtain⟨hl,e⟩:=zam e;cases e;obtain⟨y,rfl⟩:=List.length_eq_one_iff.mp (of_decide_eq_true hl);obtain⟨v,rfl,p,rfl,hp⟩:=R.one;obtain⟨u,rfl,ru⟩:=r.one;cases ru;obtain⟨ys,hx,r1⟩:=zaW S hp e0;obtain⟨its,rv,pl,hz⟩:=I.list hx;obtain⟨y',rfl,ry⟩:=r1.one;obtain⟨i,rfl,ri⟩:=rv.one;refine zfT pl.isList ?_;obtain⟨ep,hat⟩:=sortedAll_at s.heap [i] #[i];have hfree:H (s.heap.objs.size+1)=none:=I.hok.fresh (Ci _);refine⟨.ref (s.heap.objs.size+1),upd H (s.heap.objs.size+1) (.lst [y']),I.laid (t':=s.toks) (a:=s.heap.objs.size+1) (fun b o q=>sortedAll_old q) (Ci _) ⟨by show 1<=sizeLine;decide,[i],ep,rv,by simpa using hat⟩,rfl,?_⟩;exact k.lst S r1 hfree
 . cases e
noncomputable def zcZ:GN:=orN zcl (orN zc0 zdK)
theorem ze7:zcM X (.builtin "sorted") zcZ:=zcy zeD (zcy zeE zeC)
end
theorem zkH{P:Program}{w:World}{H:Hp}{h:Heap}{d:Addr}{o:Obj}{ps:List (List Key×V)}{es:Array DictEntry}{ep:Nat}(x:zcA P w H h d (.frz o (.dT ps)))(dd:o.data=.dict es ep) :
   h.get? d=some o/\es.size=ps.length/\∀ (i:Nat) (k:List Key) (v:V),ps[i]?=some (k,v)->∃ (en:DictEntry) (b:Addr),es[i]?=some en/\en.key=.ref b/\H b=some (.tup (k.map kV))/\RelV v en.val:=by
 obtain⟨g,z,y,xs,r,o',es',ep',g',ex,dd',et,nd⟩:=x;rw[g] at g';cases g';rw[dd] at dd';cases dd';have hl:es.size=ps.length:=by
   have h1:=congrArg DU et;have h2:=BP r;simp at h1;omega
 refine⟨g,hl,fun i k v hi=>?_⟩;have get:∀ {l:List (List Key×V)} {m:List (List Key×Addr×Value)} {i:Nat},Paired (fun (p:List Key×V) (q:List Key×Addr×Value)=>p.1=q.1/\H q.2.1=some (.tup (p.1.map kV))/\RelV p.2 q.2.2) l m->l[i]?=some (k,v)->∃ q,m[i]?=some q/\H q.2.1=some (.tup (k.map kV))/\RelV v q.2.2:=by
   intro l m i q
   induction q generalizing i with
   | nil=>intro e;simp at e
   | cons h t ih =>
     cases i with
     | zero =>
       intro e;simp at e;subst e;exact⟨_,rfl,h.2.1,h.2.2⟩
     | succ j=>intro e;exact ih (by simpa using e)
 obtain⟨q,hq,h1,h2⟩:=get r hi;have he:es[i]?=some (entryOfKey (tupleKind (za5 P w)) q):=by
   have:es.toList[i]?=some (entryOfKey (tupleKind (za5 P w)) q):=by rw[et,AE,hq];rfl
   simpa using this
 exact⟨_,q.2.1,he,rfl,h1,h2⟩
section
variable {X:Cx} {K:Ab} {H:Hp} {io:List Addr} {m:ME} {st st':Sto}
noncomputable def keyD:Key->D
 | .inl i=>.int i
 | .inr x=>.str x
theorem ze3:∀ (ks:List Key),Reps K H io (ks.map kV) (ks.map keyD)
 | []=>rfl
 | .inl i::r=>⟨_,_,rfl,rfl,ze3 r⟩
 | .inr x::r=>⟨_,_,rfl,rfl,ze3 r⟩
end
inductive Sr where
 | l (a:Addr) | t (a:Addr)
noncomputable def Sr.ad:Sr->Addr
 | .l a=>a
 | .t a=>a
noncomputable def Sr.ob:Sr->Obj
 | .l a=>{ cls:=.type "list_iterator",data:=.fields #[.ref a,.int 0 0] }
 | .t a=>{ cls:=.type "tuple_iterator",data:=.fields #[.ref a,.int 0 0] }
noncomputable def Sr.is(h:Heap)(xs:Array Value):Sr->Prop
 | .l a=>h.IsList a xs
 | .t a=>IsTup h a xs
noncomputable def Sr.at_(h:Heap)(i:Addr)(k:Nat):Sr->Prop
 | .l a=>h.IsListIter i a k
 | .t a=>IsTupIter h i a k
theorem Sr.is_keep{h h':Heap}{xs:Array Value}{x:Sr}(q:x.is h xs)(k:∀ u,h.get? x.ad=some u->h'.get? x.ad=some u):x.is h' xs:=by
 cases x with
 | l a=>exact Heap.IsList.at q k
 | t a=>obtain⟨o,g,c⟩:=q;exact⟨o,k o g,c⟩
theorem Sr.at_keep{h h':Heap}{i:Addr}{n:Nat}{x:Sr}(q:x.at_ h i n)(k:∀ u,h.get? i=some u->h'.get? i=some u):x.at_ h' i n:=by
 cases x with
 | l a=>exact FO q k
 | t a=>obtain⟨o,g,c⟩:=q;exact⟨o,k o g,c⟩
theorem Sr.at_get{h:Heap}{i:Addr}{n:Nat}{x:Sr}(q:x.at_ h i n):∃ o vs,h.get? i=some o/\o.data=.fields vs:=by
 cases x with
 | l a=>obtain⟨o,g,c,d⟩:=q;exact⟨o,_,g,d⟩
 | t a=>obtain⟨o,g,c,d⟩:=q;exact⟨o,_,g,d⟩
section
variable {prog:Program} {w:World} {A:Around} {E:Value->Shared->Prop} {s:Shared}
theorem Sr.iter{x:Sr}{xs:Array Value}{R:Value->Shared->Prop}(h:x.is s.heap xs)(k:R (.ref s.heap.objs.size) { s with heap:=s.heap.push x.ob }):wpAny (model prog w) A (pyIter (.ref x.ad)) R E s:=by
 cases x with
 | l a=>exact Do h k
 | t a=>exact iter_tuple h k
theorem zg0{it a:Addr}{i:Nat}{xs:Array Value}{v:Value}{R:Value->Shared->Prop}(hit:IsTupIter s.heap it a i)(ht:IsTup s.heap a xs)(hx:xs[i]?=some v)
   (k:∀ h',IsTupIter h' it a (i+1)->Cq it s.heap h'->R v { s with heap:=h' }):wpAny (model prog w) A (AS (.ref it)) R E s:=by
 obtain⟨ro,rg,rc,rd⟩:=id hit;obtain⟨to,tg,_,tn,td⟩:=ht;unfold AS;refine Aa (A5 (name:=BB "__next__") hit.typeIs Ck (Bc Ck hit.typeIs Ek ?_ (Er _)));show wpAny _ _ (field (.ref it) 0 >>= _) _ _ s;refine Aa (Ba rg rd (x:=.ref a) rfl ?_);show wpAny _ _ (if (A4 a==Bj)=true then _ else _) _ _ s;rw[if_neg (show ¬ (A4 a==Bj)=true from fun z=>A9 z)];show wpAny _ _ (field (.ref it) 1 >>= _) _ _ s;refine Aa (Ba rg rd (x:=.int i 0) rfl ?_);show wpAny _ _ (seqItems? (.ref a) >>= _) _ _ s;refine Aa (BI tg td ?_);simp only[Bm,hx];refine Aa (C7 rg rd (by simp) (Ae ⟨v,rfl,Ae (k _ ⟨_,CM _ rg (D9 (Cu rd _)),(EL ..).trans rc,?_⟩ (Cm ..))⟩));rw[Cu rd];simp[rawInt]
theorem zd2{it a:Addr}{i:Nat}{xs:Array Value}{R:Value->Shared->Prop}(hh:A.handled=none)(hit:IsTupIter s.heap it a i)(ht:IsTup s.heap a xs)(hx:xs[i]?=none)
   (k:∀ h' e,ER it s.heap h'->(∃ o,h'.get? e=some o/\o.cls=.type "StopIteration")->E (.ref e) { s with heap:=h' }):wpAny (model prog w) A (AS (.ref it)) R E s:=by
 obtain⟨ro,rg,rc,rd⟩:=id hit;obtain⟨to,tg,_,tn,td⟩:=ht;unfold AS;refine Aa (A5 (name:=BB "__next__") hit.typeIs Ck (Bc Ck hit.typeIs Ek ?_ (Er _)));show wpAny _ _ (field (.ref it) 0 >>= _) _ _ s;refine Aa (Ba rg rd (x:=.ref a) rfl ?_);show wpAny _ _ (if (A4 a==Bj)=true then _ else _) _ _ s;rw[if_neg (show ¬ (A4 a==Bj)=true from fun z=>A9 z)];show wpAny _ _ (field (.ref it) 1 >>= _) _ _ s;refine Aa (Ba rg rd (x:=.int i 0) rfl ?_);show wpAny _ _ (seqItems? (.ref a) >>= _) _ _ s;refine Aa (BI tg td ?_);simp only[Bm,hx];refine Aa (Eg (Aa (C7 rg rd (by simp) ?_)));show wpAny _ _ (newExc (.type "StopIteration") [] >>= _) _ _ _;simp only[newExc,newTuple];refine Aa (Aa (AR (Aa (m:=firstArgMember _ _) (wpAny_of_eq (a:=Bj) (by first | rfl | (simp only[firstArgMember];rfl)) (AR ?_ (by size_fits)))) (by size_fits)));simp only[raiseNew];refine Aa (wpAny_handled ?_)
 first | rw[show A.in1.handled=none from hh] | rw[hh]
 refine Aa (Ae (wpAny_throw ?_));exact k _ _ (((Cm ..).extBut.push _).push _) ⟨_,Ar _ rfl,rfl⟩
theorem Sr.next{x:Sr}{it:Addr}{i:Nat}{xs:Array Value}{v:Value}{R:Value->Shared->Prop}(hit:x.at_ s.heap it i)(h:x.is s.heap xs)(hx:xs[i]?=some v)(k:∀ h',x.at_ h' it (i+1)->Cq it s.heap h'->R v { s with heap:=h' }) :
   wpAny (model prog w) A (AS (.ref it)) R E s:=by
 cases x with
 | l a=>exact wpAny_nextOf_list_item hit h hx k
 | t a=>exact zg0 hit h hx k
theorem Sr.stop{x:Sr}{it:Addr}{i:Nat}{xs:Array Value}{R:Value->Shared->Prop}(hh:A.handled=none)(hit:x.at_ s.heap it i)(h:x.is s.heap xs)(hx:xs[i]?=none)
   (k:∀ h' e,ER it s.heap h'->(∃ o,h'.get? e=some o/\o.cls=.type "StopIteration")->E (.ref e) { s with heap:=h' }):wpAny (model prog w) A (AS (.ref it)) R E s:=by
 cases x with
 | l a=>exact wpAny_nextOf_list_end hh hit h hx k
 | t a=>exact zd2 hh hit h hx k
end
theorem Sr.at_new{h:Heap}{x:Sr}{i:Addr}(g:h.get? i=some x.ob):x.at_ h i 0:=by
 cases x with
 | l a=>exact⟨_,g,rfl,rfl⟩
 | t a=>exact⟨_,g,rfl,rfl⟩
noncomputable abbrev zp1 (h:Heap) (x:Sr):Heap:=h.push x.ob
noncomputable abbrev zp2 (h:Heap) (x y:Sr):Heap:=(zp1 h x).push y.ob
noncomputable abbrev zp3 (h:Heap) (x y:Sr):Heap:=(zp2 h x y).push { cls:=.type "tuple",data:=.seq #[.ref h.objs.size,.ref (zp1 h x).objs.size] }
noncomputable abbrev zp4 (h:Heap) (x y:Sr):Heap:=(zp3 h x y).push { cls:=.type "tuple",data:=.seq #[.none,.none] }
noncomputable abbrev zp5 (h:Heap) (x y:Sr):Heap:=(zp4 h x y).push { cls:=.type "zip",data:=.fields #[.none,.bool false,.bool false,.ref (zp2 h x y).objs.size,.ref (zp3 h x y).objs.size] }
theorem zhJ(x y:Sr)(xs ys:Array Value):Meets (Builtin.«zip.__new__» ⟨[.type "zip",.ref x.ad,.ref y.ad],[]⟩) (fun _ R s=>x.is s.heap xs/\y.is s.heap ys/\R (.ok (.ret (.ref (zp4 s.heap x y).objs.size))) { s with heap:=zp5 s.heap x y }) :=
 .of_wp fun prog w A R s h=>by
   obtain⟨hp,g,d,tk,os⟩:=s;obtain⟨h1,h2,h⟩:=h;have hsub:=sub_zip;have hx:x.is (ES ⟨hp,g,d,tk,os⟩) xs:=h1;have hy:y.is (ES ⟨hp.push x.ob,g,d,tk,os⟩) ys:=Sr.is_keep h2 fun u q=>Ad _ q
   wp_walk using Sr.iter hx,Sr.iter hy
   exact⟨_,rfl,h⟩
structure Zp(z TI TO i j:Addr):Prop where
 TIz:TI≠z
 TOz:TO≠z
 iz:i≠z
 jz:j≠z
 TIO:TI≠TO
 TIi:TI≠i
 TIj:TI≠j
 TOi:TO≠i
 TOj:TO≠j
 ij:i≠j
theorem neq{a b:Nat}(h:a≠b):(show Addr from a)≠(show Addr from b):=h
theorem Zp.new(n:Nat):Zp (n+4) (n+2) (n+3) n (n+1):=⟨neq (by omega),neq (by omega),neq (by omega),neq (by omega),neq (by omega),neq (by omega),neq (by omega),neq (by omega),neq (by omega),neq (by omega)⟩
section
variable {prog:Program} {w:World} {A:Around} {E:Value->Shared->Prop} {s:Shared}
theorem ziM{x y:Sr}{xs ys:Array Value}{R:Value->Shared->Prop}(hx:x.is s.heap xs)(hy:y.is s.heap ys)
   (k:∀ h',IsZip h' (s.heap.objs.size+4) (s.heap.objs.size+2) (s.heap.objs.size+3) .none->IsPair h' (s.heap.objs.size+2) (.ref s.heap.objs.size) (.ref (s.heap.objs.size+1))->IsPair h' (s.heap.objs.size+3) .none .none ->
     x.at_ h' s.heap.objs.size 0->y.at_ h' (s.heap.objs.size+1) 0->(∀ c u,s.heap.get? c=some u->h'.get? c=some u)->R (.ref (s.heap.objs.size+4)) { s with heap:=h' }):wpAny (model prog w) A (call (.type "zip") [.ref x.ad,.ref y.ad]) R E s:=by
 refine callType_new F.called_zip (by decide) (F.typeCall_zip_2 _ _) (F.newCall_zip_2 _ _) (fun obj=>F.args_object_init_3 obj _ _) F.entry_zip_new (zhJ x y xs ys) ⟨hx,hy,?_⟩;have e1:(zp1 s.heap x).objs.size=s.heap.objs.size+1:=Bk ..;have e2:(zp2 s.heap x y).objs.size=s.heap.objs.size+2:=(Bk ..).trans (by rw[e1]);have e3:(zp3 s.heap x y).objs.size=s.heap.objs.size+3:=(Bk ..).trans (by rw[e2]);have e4:(zp4 s.heap x y).objs.size=s.heap.objs.size+4:=(Bk ..).trans (by rw[e3]);have up:∀ c u,(zp1 s.heap x).get? c=some u->(zp5 s.heap x y).get? c=some u:=fun c u q=>Ad _ (Ad _ (Ad _ (Ad _ q)));have f5:(zp5 s.heap x y).get? (zp4 s.heap x y).objs.size=some { cls:=.type "zip",data:=.fields #[.none,.bool false,.bool false,.ref (zp2 s.heap x y).objs.size,.ref (zp3 s.heap x y).objs.size] }:=Ar _ rfl;have f4:(zp5 s.heap x y).get? (zp3 s.heap x y).objs.size=some { cls:=.type "tuple",data:=.seq #[.none,.none] }:=Ad _ (Ar _ rfl);have f3:(zp5 s.heap x y).get? (zp2 s.heap x y).objs.size=some { cls:=.type "tuple",data:=.seq #[.ref s.heap.objs.size,.ref (zp1 s.heap x).objs.size] }:=Ad _ (Ad _ (Ar _ rfl));have f2:(zp5 s.heap x y).get? (zp1 s.heap x).objs.size=some y.ob:=Ad _ (Ad _ (Ad _ (Ar _ (by cases y <;> rfl))));have f1:(zp5 s.heap x y).get? s.heap.objs.size=some x.ob:=up _ _ (Ar _ (by cases x <;> rfl));rw[e2,e3,e4] at f5;rw[e1,e2] at f3;rw[e3] at f4;rw[e1] at f2;show _/\_;rw[e4];exact⟨⟨_,f5,rfl⟩,k _ f5 f3 f4 (Sr.at_new f1) (Sr.at_new f2) fun c u q=>up c u (Ad _ q)⟩
theorem zjr{z TI TO i j:Addr}{x y:Sr}{n m:Nat}{xs ys:Array Value}{u v a b:Value}{R:Option Value->Shared->Prop}(D:Zp z TI TO i j)(xz:x.ad≠z/\x.ad≠TO/\x.ad≠i/\x.ad≠j)(yz:y.ad≠z/\y.ad≠TO/\y.ad≠i/\y.ad≠j)
   (hz:IsZip s.heap z TI TO .none) (hTI:IsPair s.heap TI (.ref i) (.ref j)) (hTO:IsPair s.heap TO a b) (hi:x.at_ s.heap i n) (hj:y.at_ s.heap j m) (hx:x.is s.heap xs) (hy:y.is s.heap ys) (gx:xs[n]?=some u) (gy:ys[m]?=some v)
   (k:∀ h',IsZip h' z TI TO (rawInt s.heap.objs.size)->IsPair h' TI (.ref i) (.ref j)->IsPair h' TO u v->x.at_ h' i (n+1)->y.at_ h' j (m+1)->IsPair h' s.heap.objs.size u v ->
     (∀ c o,c≠z->c≠TO->c≠i->c≠j->s.heap.get? c=some o->h'.get? c=some o)->R (some (.ref s.heap.objs.size)) { s with heap:=h' }):wpAny (model prog w) A (pyNext (.ref z)) R E s:=by
 have ty:s.TypeIs (.ref z) "zip":=⟨_,hz,rfl⟩
 unfold pyNext;refine Aa (Dj (A5 (name:=BB "__next__") ty F.slot_zip_next (Bc F.slot_zip_next ty F.entry_zip_next ?_ (F.args_zip_next_1 _))));show wpAny _ _ (field (.ref z) 2 >>= _) _ _ _;refine Aa (Ba hz rfl (x:=.bool false) rfl ?_);show wpAny _ _ (field (.ref z) 3 >>= _) _ _ _;refine Aa (Ba hz rfl (x:=.ref TI) rfl (Aa (BI hTI rfl ?_)));show wpAny _ _ (Bw (.ref z) >>= _) _ _ _;unfold Bw;refine Aa (Aa (Ba hz rfl (x:=.none) rfl (Ae ?_)));simp only[if_true];refine Aa (Eg (Aa (Ba hz rfl (x:=.ref TO) rfl (Aa (BM hz (by simp) fun g1 z1 s1=>?_)))))
 replace z1:IsZip g1 z TI TO .ellipsis:=z1
 have k1:∀ c o,c≠z->s.heap.get? c=some o->g1.get? c=some o:=fun c o nc q=>s1.extBut c o nc q;simp only[Fb,Fm,CQ,Cd];refine Aa (Aa (Aa (Dk ?_)));show wpAny _ _ (AS (.ref i) >>= _) _ _ _;refine Aa (Sr.next (Sr.at_keep hi fun o q=>k1 _ o D.iz q) (Sr.is_keep hx fun o q=>k1 _ o xz.1 q) gx fun g2 i2 s2=>Ae ?_);have k2:∀ c o,c≠z->c≠i->s.heap.get? c=some o->g2.get? c=some o:=fun c o nc ni q=>s2.extBut c o ni (k1 c o nc q);have o2:IsPair g2 TO a b:=k2 _ _ D.TOz D.TOi hTO;refine Aa (BI o2 rfl (Aa (CY o2 fun g3 o3 s3=>(Aa (ET (Ae ?_))))))
 replace o3:IsPair g3 TO u b:=o3
 have k3:∀ c o,c≠z->c≠i->c≠TO->s.heap.get? c=some o->g3.get? c=some o:=fun c o nc ni nt q=>s3.extBut c o nt (k2 c o nc ni q);refine Aa (Aa (Dk ?_));show wpAny _ _ (AS (.ref j) >>= _) _ _ _;refine Aa (Sr.next (Sr.at_keep hj fun o q=>k3 _ o D.jz D.ij.symm D.TOj.symm q) (Sr.is_keep hy fun o q=>k3 _ o yz.1 yz.2.2.1 yz.2.1 q) gy fun g4 j4 s4=>Ae ?_);have o4:IsPair g4 TO u b:=s4.extBut _ _ D.TOj o3;refine Aa (BI o4 rfl (Aa (CY o4 fun g5 o5 s5=>(Aa (ET (Ae (Ae ?_)))))))
 replace o5:IsPair g5 TO u v:=o5
 refine Aa (BI o5 rfl (Aa (D8 ?_)));have sz:g5.objs.size=s.heap.objs.size:=by rw[s5.1,s4.1,s3.1,s2.1,s1.1]
 have z5:IsZip g5 z TI TO .ellipsis:=s5.extBut _ _ D.TOz.symm (s4.extBut _ _ D.jz.symm (s3.extBut _ _ D.TOz.symm (s2.extBut _ _ D.iz.symm z1)));have k5:∀ c o,c≠z->c≠TO->c≠i->c≠j->s.heap.get? c=some o->g5.get? c=some o:=fun c o c1 c2 c3 c4 q=>s5.extBut c o c2 (s4.extBut c o c4 (k3 c o c1 c3 c2 q));have i5:x.at_ g5 i (n+1):=Sr.at_keep i2 fun o q=>s5.extBut _ _ D.TOi.symm (s4.extBut _ _ D.ij (s3.extBut _ _ D.TOi.symm q));have j5:y.at_ g5 j (m+1):=Sr.at_keep j4 fun o q=>s5.extBut _ _ D.TOj.symm q;have lz:z < g5.objs.size:=Ak z5;show wpAny _ _ (Cv (.ref z) (.ref g5.objs.size) >>= _) _ _ _;unfold Cv;have z6:IsZip (g5.push { cls:=.type "tuple",data:=.seq #[u,v] }) z TI TO .ellipsis:=Ad _ z5;refine Aa (Aa (BM z6 (by simp) fun g7 z7 s7=>?_))
 replace z7:IsZip g7 z TI TO (rawInt g5.objs.size):=z7
 refine BM z7 (by simp) fun g8 z8 s8=>?_
 replace z8:IsZip g8 z TI TO (rawInt g5.objs.size):=z8
 have up:∀ c o,c≠z->g5.get? c=some o->g8.get? c=some o:=fun c o nc q=>s8.extBut c o nc (s7.extBut c o nc (Ad _ q));have t8:IsPair g8 g5.objs.size u v:=s8.extBut _ _ (CP lz) (s7.extBut _ _ (CP lz) (Ar _ rfl));rw[sz] at z8 t8;refine Ae ⟨_,rfl,Ae ?_⟩;show R (some (.ref g5.objs.size)) _;rw[sz];exact k g8 z8 (up _ _ D.TIz (k5 _ _ D.TIz D.TIO D.TIi D.TIj hTI)) (up _ _ D.TOz o5) (Sr.at_keep i5 fun o q=>up _ o D.iz q) (Sr.at_keep j5 fun o q=>up _ o D.jz q) t8 fun c o c1 c2 c3 c4 q=>up c o c1 (k5 c o c1 c2 c3 c4 q)
theorem zk8{z TI TO i j:Addr}{x y:Sr}{n m:Nat}{xs ys:Array Value}{a b:Value}{R:Option Value->Shared->Prop}(hh:A.handled=none)(D:Zp z TI TO i j)(xz:x.ad≠z/\x.ad≠TO/\x.ad≠i/\x.ad≠j)(yz:y.ad≠z/\y.ad≠TO/\y.ad≠i/\y.ad≠j)
   (hz:IsZip s.heap z TI TO .none) (hTI:IsPair s.heap TI (.ref i) (.ref j)) (hTO:IsPair s.heap TO a b) (hi:x.at_ s.heap i n) (hj:y.at_ s.heap j m) (hx:x.is s.heap xs) (hy:y.is s.heap ys) (he:xs[n]?=none\/ys[m]?=none)
   (k:∀ h',(∀ c o,c≠z->c≠TO->c≠i->c≠j->s.heap.get? c=some o->h'.get? c=some o)->R none { s with heap:=h' }):wpAny (model prog w) A (pyNext (.ref z)) R E s:=by
 have ty:s.TypeIs (.ref z) "zip":=⟨_,hz,rfl⟩
 have halt:∀ h' e,(∀ c o,c≠z->c≠TO->c≠i->c≠j->s.heap.get? c=some o->h'.get? c=some o)->(∃ o,h'.get? e=some o/\o.cls=.type "StopIteration") ->
     wpAny (model prog w) A (do if <-isInstance (.ref e) (.type "StopIteration") then pure none else throw (A4 e)) R E { s with heap:=h' }:=fun h' e q ⟨o,g,c⟩ =>
   Aa (wpAny_isInstance (T:="StopIteration") (b:=true) ⟨o,g,c⟩ isSubtype_stop (Ae (k h' q)))
 unfold pyNext;refine Aa (Dj (A5 (name:=BB "__next__") ty F.slot_zip_next (Bc F.slot_zip_next ty F.entry_zip_next ?_ (F.args_zip_next_1 _))));show wpAny _ _ (field (.ref z) 2 >>= _) _ _ _;refine Aa (Ba hz rfl (x:=.bool false) rfl ?_);show wpAny _ _ (field (.ref z) 3 >>= _) _ _ _;refine Aa (Ba hz rfl (x:=.ref TI) rfl (Aa (BI hTI rfl ?_)));show wpAny _ _ (Bw (.ref z) >>= _) _ _ _;unfold Bw;refine Aa (Aa (Ba hz rfl (x:=.none) rfl (Ae ?_)));simp only[if_true];refine Aa (Eg (Aa (Ba hz rfl (x:=.ref TO) rfl (Aa (BM hz (by simp) fun g1 z1 s1=>?_)))))
 replace z1:IsZip g1 z TI TO .ellipsis:=z1
 have k1:∀ c o,c≠z->s.heap.get? c=some o->g1.get? c=some o:=fun c o nc q=>s1.extBut c o nc q;have sep:∀ {g:Heap} {e:Addr} {o:Obj},IsZip g z TI TO .ellipsis->g.get? e=some o->o.cls=.type "StopIteration"->e≠z:=fun {g e o} q h c r=>by
   subst r;rw[q] at h;cases h;simp at c
 simp only[Fb,Fm,CQ,Cd];refine Aa (Aa (Aa (Dk ?_)));show wpAny _ _ (AS (.ref i) >>= _) _ _ _
 cases gx:xs[n]? with
 | none =>
   refine Aa (Sr.stop hh (Sr.at_keep hi fun o q=>k1 _ o D.iz q) (Sr.is_keep hx fun o q=>k1 _ o xz.1 q) gx ?_);rintro g2 e s2 ⟨oe,he,ce⟩;have z2:IsZip g2 z TI TO .ellipsis:=s2 _ _ D.iz.symm z1;exact BM z2 (by simp) fun g3 _ s3=>halt g3 e (fun c o c1 _ c3 _ q=>s3.extBut c o c1 (s2 c o c3 (k1 c o c1 q))) ⟨oe,s3.extBut _ _ (sep z2 he ce) he,ce⟩
 | some u =>
   have gy:ys[m]?=none:=he.resolve_left (by rw[gx];simp);refine Aa (Sr.next (Sr.at_keep hi fun o q=>k1 _ o D.iz q) (Sr.is_keep hx fun o q=>k1 _ o xz.1 q) gx fun g2 i2 s2=>Ae ?_);have k2:∀ c o,c≠z->c≠i->s.heap.get? c=some o->g2.get? c=some o:=fun c o nc ni q=>s2.extBut c o ni (k1 c o nc q);have o2:IsPair g2 TO a b:=k2 _ _ D.TOz D.TOi hTO;refine Aa (BI o2 rfl (Aa (CY o2 fun g3 o3 s3=>(Aa (ET (Ae ?_))))));have k3:∀ c o,c≠z->c≠i->c≠TO->s.heap.get? c=some o->g3.get? c=some o:=fun c o nc ni nt q=>s3.extBut c o nt (k2 c o nc ni q);refine Aa (Aa (Dk ?_));show wpAny _ _ (AS (.ref j) >>= _) _ _ _;refine Aa (Sr.stop hh (Sr.at_keep hj fun o q=>k3 _ o D.jz D.ij.symm D.TOj.symm q) (Sr.is_keep hy fun o q=>k3 _ o yz.1 yz.2.2.1 yz.2.1 q) gy ?_);rintro g4 e s4 ⟨oe,he,ce⟩;have z4:IsZip g4 z TI TO .ellipsis:=s4 _ _ D.jz.symm (s3.extBut _ _ D.TOz.symm (s2.extBut _ _ D.iz.symm z1));exact BM z4 (by simp) fun g5 _ s5=>halt g5 e (fun c o c1 c2 c3 c4 q=>s5.extBut c o c1 (s4 c o c4 (k3 c o c1 c3 c2 q))) ⟨oe,s5.extBut _ _ (sep z4 he ce) he,ce⟩
end
noncomputable def Sr.sq(H:Hp)(xs:List V):Sr->Prop
 | .l a=>H a=some (.lst xs)\/∃ o,H a=some (.frz o (.lst xs))
 | .t a=>H a=some (.tup xs)
theorem Sr.sq_ne{H:Hp}{xs:List V}{x:Sr}{b:Addr}(h:x.sq H xs)(hb:H b=none):x.ad≠b:=by
 cases x with
 | l a=>rcases h with h | ⟨o,h⟩ <;> exact zaq h hb
 | t a=>exact zaq (show H a=some (.tup xs) from h) hb
theorem Sr.sq_inj{H:Hp}{xs ys:List V}{x:Sr}(h:x.sq H xs)(h':x.sq H ys):xs=ys:=by
 cases x with
 | l a=>rcases h with h | ⟨o,h⟩ <;> rcases h' with h' | ⟨o',h'⟩ <;> rw[h] at h' <;> cases h' <;> rfl
 | t a =>
   have h:H a=some (.tup xs):=h;have h':H a=some (.tup ys):=h';rw[h] at h';cases h';rfl
theorem Sr.sq_is{X:Cx}{pins:List (Addr×Obj)}{σ:L2.St}{H:Hp}{s:Shared}{xs:List V}{x:Sr}(I:Inv X pins σ H s)(h:x.sq H xs):∃ its:List Value,Vals xs its/\x.is s.heap its.toArray:=by
 cases x with
 | l a =>
   obtain⟨its,rv,p,_⟩:=I.list (show SqL X.K H a xs from .inl h);exact⟨its,rv,p.isList⟩
 | t a =>
   obtain⟨its,rv,p,_⟩:=I.tuple (SqT.of (K:=X.K) h);exact⟨its,rv,p⟩
noncomputable def Itz(x y:Sr):It :=
 ⟨fun i H=>∃ xs ys u v,x.sq H xs/\y.sq H ys/\xs[i]?=some u/\ys[i]?=some v,fun i H r H'=>∃ p u v,H p=none/\H'=upd H p (.tup [u,v])/\r=.ref p/\(∀ xs,x.sq H xs->xs[i]?=some u)/\∀ ys,y.sq H ys->ys[i]?=some v,
   fun i H=>∃ xs ys,x.sq H xs/\y.sq H ys/\(xs.length<=i\/ys.length<=i)⟩
theorem zjt{P:Program}{w:World}{K:Ab}{elts:List Expr}{x1}{pos:Pos}(x y:Sr){z TI TO i j:Addr}(D:Zp z TI TO i j) :
   Turn P w K (.Tuple elts x1 pos) (Itz x y) [z,TI,TO,i,j] z (fun n h=>IsZip h z TI TO .none/\IsPair h TI (.ref i) (.ref j)/\(∃ a b,IsPair h TO a b)/\x.at_ h i n/\y.at_ h j n) where
 mem:=by simp
 obj:=fun n h st b hb=>by
   obtain⟨hz,hTI,⟨a,c,hTO⟩,hi,hj⟩:=st;simp only[AM,AH,or_false] at hb
   rcases hb with rfl | rfl | rfl | rfl | rfl
   . exact⟨_,hz,fun v q=>by cases q⟩
   . exact⟨_,hTI,fun v q=>by cases q⟩
   . exact⟨_,hTO,fun v q=>by cases q⟩
   . obtain⟨o,vs,g,d⟩:=Sr.at_get hi;exact⟨o,g,fun v q=>by rw[d] at q;cases q⟩
   . obtain⟨o,vs,g,d⟩:=Sr.at_get hj;exact⟨o,g,fun v q=>by rw[d] at q;cases q⟩
 keep:=fun n h h' st k=>by
   obtain⟨hz,hTI,⟨a,c,hTO⟩,hi,hj⟩:=st;exact⟨k z (by simp) _ hz,k TI (by simp) _ hTI,⟨a,c,k TO (by simp) _ hTO⟩,Sr.at_keep hi fun o q=>k i (by simp) o q,Sr.at_keep hj fun o q=>k j (by simp) o q⟩
 item:=by
   intro X hP hw hK hc n pins s σ H E I hf st hg;subst hP hw hK;obtain⟨xs,ys,u,v,hx,hy,gu,gv⟩:=hg;obtain⟨hz,hTI,⟨a,c,hTO⟩,hi,hj⟩:=st;obtain⟨its,rx,ix⟩:=Sr.sq_is I hx;obtain⟨jts,ry,iy⟩:=Sr.sq_is I hy;obtain⟨u',gu',ru⟩:=rx.get gu;obtain⟨v',gv',rv⟩:=ry.get gv;have fz:=(hf z (by simp)).1;have fTO:=(hf TO (by simp)).1;have fi:=(hf i (by simp)).1;have fj:=(hf j (by simp)).1;refine zjr D ⟨Sr.sq_ne hx fz,Sr.sq_ne hx fTO,Sr.sq_ne hx fi,Sr.sq_ne hx fj⟩ ⟨Sr.sq_ne hy fz,Sr.sq_ne hy fTO,Sr.sq_ne hy fi,Sr.sq_ne hy fj⟩ hz hTI hTO hi hj ix iy (u:=u') (v:=v') (by simpa using gu') (by simpa using gv') fun h1 z1 ti1 to1 i1 j1 t1 k1=>?_;refine⟨_,rfl,wpAny_letOwnedTupleGo_zip (s:={ s with heap:=h1 }) z1 fun h2 z2 b2=>?_⟩;have up:∀ b o,b≠z->h1.get? b=some o->h2.get? b=some o:=fun b o nb q=>(b2.2 b nb).trans q;have k2:∀ b o,b ∉ [z,TI,TO,i,j]->s.heap.get? b=some o->h2.get? b=some o:=fun b o hb q=>by
     simp only[AM,AH,or_false,not_or] at hb;exact up b o hb.1 (k1 b o hb.1 hb.2.2.1 hb.2.2.2.1 hb.2.2.2.2 q)
   have lt:∀ b∈[z,TI,TO,i,j],b < s.heap.objs.size:=fun b hb=>by
     simp only[AM,AH,or_false] at hb
     rcases hb with rfl | rfl | rfl | rfl | rfl
     . exact Ak hz
     . exact Ak hTI
     . exact Ak hTO
     . obtain⟨o,vs,g,d⟩:=Sr.at_get hi;exact Ak g
     . obtain⟨o,vs,g,d⟩:=Sr.at_get hj;exact Ak g
   have t2:h2.get? s.heap.objs.size=some { cls:=.type "tuple",data:=.seq #[u',v'] }:=up _ _ (CP (lt z (by simp))) t1;have st2:IsZip h2 z TI TO .none/\IsPair h2 TI (.ref i) (.ref j)/\(∃ a b,IsPair h2 TO a b)/\x.at_ h2 i (n+1)/\y.at_ h2 j (n+1) :=
     ⟨z2,up _ _ D.TIz ti1,⟨_,_,up _ _ D.TOz to1⟩,Sr.at_keep i1 fun o q=>up _ o D.iz q,Sr.at_keep j1 fun o q=>up _ o D.jz q⟩
   refine⟨.ref s.heap.objs.size,upd H s.heap.objs.size (.tup [u,v]),?_,rfl,⟨_,u,v,I.hok.fresh (Af _),rfl,rfl,fun zs h=>by rw[Sr.sq_inj h hx];exact gu,fun zs h=>by rw[Sr.sq_inj h hy];exact gv⟩,st2,fun b hb=>?_⟩
   . refine Inv.turnNew (s:=s) (h':=h2) (t':=s.toks) I hf k2 (Af _) (fun b hb ob q=>?_) ⟨by show 2<=sizeLine;decide,[u',v'],.cons ru (.cons rv .nil),⟨_,t2,rfl,rfl,_,rfl⟩⟩;simp only[AM,AH,or_false] at hb
     rcases hb with rfl | rfl | rfl | rfl | rfl
     . exact⟨_,z2⟩
     . exact⟨_,st2.2.1⟩
     . obtain⟨_,_,q⟩:=st2.2.2.1;exact⟨_,q⟩
     . obtain⟨o,vs,g,d⟩:=Sr.at_get st2.2.2.2.1;exact⟨o,g⟩
     . obtain⟨o,vs,g,d⟩:=Sr.at_get st2.2.2.2.2;exact⟨o,g⟩
   . rw[zaG (AG (lt b hb))];exact (hf b hb).1
 done:=by
   intro X hP hw hK hc n pins s σ H E I hf st hg;subst hP hw hK;obtain⟨xs,ys,hx,hy,he⟩:=hg;obtain⟨hz,hTI,⟨a,c,hTO⟩,hi,hj⟩:=st;obtain⟨its,rx,ix⟩:=Sr.sq_is I hx;obtain⟨jts,ry,iy⟩:=Sr.sq_is I hy;have fz:=(hf z (by simp)).1;have fTO:=(hf TO (by simp)).1;have fi:=(hf i (by simp)).1;have fj:=(hf j (by simp)).1;have l1:=rx.length;have l2:=ry.length;exact zk8 (I.ok.hd hc) D ⟨Sr.sq_ne hx fz,Sr.sq_ne hx fTO,Sr.sq_ne hx fi,Sr.sq_ne hx fj⟩ ⟨Sr.sq_ne hy fz,Sr.sq_ne hy fTO,Sr.sq_ne hy fi,Sr.sq_ne hy fj⟩ hz hTI hTO hi hj ix iy (by
     rcases he with h | h
     . exact .inl (by simp;omega)
     . exact .inr (by simp;omega)) fun h' k=>⟨rfl,Inv.turnAll (t':=s.toks) I hf fun b o hb q=>by
       simp only[AM,AH,or_false,not_or] at hb;exact k b o hb.1 hb.2.2.1 hb.2.2.2.1 hb.2.2.2.2 q⟩
 self:=fun _ _ _ _ _ st h=>wpAny_pyIter_zip st.1 h
section
variable {X:Cx} {K:Ab} {H:Hp} {io:List Addr} {ma mb:ME} {st st':Sto}
noncomputable def seqD(s:Sto):D->Option (List D×List (Nat×List D))
 | .ref n=>(zba s n).map fun ds=>(ds,[(n,ds)])
 | .tup ds=>some (ds,[])
 | _=>none
noncomputable def pairD(a b:List D):List D:=(a.zip b).map fun p=>.tup [p.1,p.2]
noncomputable def zipW(x y:D)(s:Sto):Option (Wk×Sto):=(seqD s x).bind fun (a,f)=>(seqD s y).map fun (b,g)=>(⟨pairD a b,f++g⟩,s)
noncomputable def mZip(ma mb:ME):MI:=fun ρ st=>(ma ρ st).bind fun (x,s1)=>(mb ρ s1).bind fun (y,s2)=>zipW x y s2
theorem zgB{d:D}{v:V}{ds:List D}{g:List (Nat×List D)}(S:StR K H io st)(R:Rep K H io v d)(h:seqD st d=some (ds,g)):∃ x:Sr,v=.ref x.ad/\(∃ xs,x.sq H xs) /\
   ∀ H1 ka s1,Ext io ka H H1->StR K H1 (io++ka) s1->(∀ p,p∈g->s1[p.1]?=some (.lst p.2)\/s1[p.1]?=some (.fz p.2))->∃ xs,x.sq H1 xs/\Reps K H1 (io++ka) xs ds:=by
 cases d with
 | ref n =>
   obtain⟨l,e,q⟩:=zag h;cases q;obtain⟨p,rfl,hp⟩:=R;refine⟨.l p,rfl,?_,fun H1 ka s1 X1 S1 hs=>?_⟩
   . unfold zba at e
     split at e
     . rename_i o he;cases e;obtain⟨xs,q,_⟩:=S.ob n p _ hp he;exact⟨xs,.inl q⟩
     . rename_i o he;cases e;obtain⟨ob,xs,q,_⟩:=S.ob n p _ hp he;exact⟨xs,.inr ⟨ob,q⟩⟩
     . cases e
   . rcases hs (n,ds) An with q | q
     . obtain⟨xs,q',r⟩:=S1.ob n p _ (zbp hp) q;exact⟨xs,.inl q',r⟩
     . obtain⟨ob,xs,q',r⟩:=S1.ob n p _ (zbp hp) q;exact⟨xs,.inr ⟨ob,q'⟩,r⟩
 | tup ts =>
   cases h;obtain⟨p,xs,rfl,hp,r⟩:=R;exact⟨.t p,rfl,⟨xs,hp⟩,fun H1 ka s1 X1 S1 _=>⟨xs,X1.sqT S p xs hp,r.ext S X1⟩⟩
 | _=>cases h
theorem zij{a b:List D}{i:Nat}{d:D}(h:(pairD a b)[i]?=some d):∃ x y,a[i]?=some x/\b[i]?=some y/\d=.tup [x,y]:=by
 unfold pairD at h;rw[AE] at h;obtain⟨⟨x,y⟩,e,q⟩:=zag h;rw[List.getElem?_zip_eq_some] at e;exact⟨x,y,e.1,e.2,q.symm⟩
theorem boot_zip:bootBuiltins "zip"=some (.type "zip"):=by decide +kernel
theorem zls{elts:List Expr}{x1}{tp:Pos}{a b:Expr}{p pos:Pos}(hg:Gl X "zip")(hm:X.mg "zip"=none)(ha:SE X a ma)(hb:SE X b mb)(hs:starEach [a,b] X.env=[(false,eval a X.env),(false,eval b X.env)]:=by rfl)
   (hs2:starEach [b] X.env=[(false,eval b X.env)]:=by rfl) (hpl:(backTo pos (starEach [b] X.env)).any (·.1)=false:=by rfl):SI X (.Tuple elts x1 tp) (.Call (.Name "zip" p) [a,b] [] pos) (mZip ma mb):=by
 rintro pins s σ H R I ⟨ρ,st,io,W,st',E,S,e,k⟩;obtain⟨⟨x,s1⟩,e1,e⟩:=zad e;obtain⟨⟨y,s2⟩,e2,e⟩:=zad e;obtain⟨⟨as,f⟩,e3,e⟩:=zad e;obtain⟨⟨bs,g⟩,e4,e⟩:=zag e;cases e;have hs1:starEach [a,b] X.env=(false,eval a X.env)::starEach [b] X.env:=by rw[hs,hs2]
 refine Call_ (ze2 I hg hm boot_zip (By (thn (zaa ha (zaa hb zae hs2) hs1 pos pins s σ H (fun vs H'=>∃ ka,Ext io ka H H'/\StR X.K H' (io++ka) st'/\Reps X.K H' (io++ka) vs [x,y]) I ⟨ρ,st,io,[x,y],st',E,S,zcq e1 (zcq e2 rfl),fun vs H1 k1 X1 S1 R1=>⟨k1,X1,S1,R1⟩⟩) ?_) hs1 hpl));rintro us t1 ⟨vs,H1,I1,r1,k1,X1,S1,R1⟩;obtain⟨v,u,rfl,Rx,Ry⟩:=R1.two;obtain⟨v',u',rfl,rv,ru⟩:=r1.two;obtain⟨xx,rfl,⟨xs,hx⟩,kx⟩:=zgB S1 Rx e3;obtain⟨yy,rfl,⟨ys,hy⟩,ky⟩:=zgB S1 Ry e4;cases rv;cases ru;obtain⟨its,vx,ix⟩:=Sr.sq_is I1 hx;obtain⟨jts,vy,iy⟩:=Sr.sq_is I1 hy;refine ziM ix iy fun h' hz hTI hTO hi hj kk=>wpAny_pyIter_zip hz ?_;refine⟨_,_,_,_,H1,rfl,I1.kept (t':=t1.toks) kk,zjt xx yy (Zp.new t1.heap.objs.size),⟨hz,hTI,⟨_,_,hTO⟩,hi,hj⟩,fun b hb=>?_,?_⟩
 . have hle:t1.heap.objs.size<=b:=by
     simp only[AM,AH,or_false] at hb
     rcases hb with rfl | rfl | rfl | rfl | rfl
     . exact BY _ 4
     . exact BY _ 2
     . exact BY _ 3
     . exact Af _
     . exact BY _ 1
   exact I1.fpOk hle (I1.hok.fresh hle)
 . refine k _ H1 k1 X1 S1 ?_;have st1:∀ {s3:Sto},stays ⟨pairD as bs,f++g⟩ s3->(∀ p,p∈f->s3[p.1]?=some (.lst p.2)\/s3[p.1]?=some (.fz p.2))/\∀ p,p∈g->s3[p.1]?=some (.lst p.2)\/s3[p.1]?=some (.fz p.2):=fun {s3} h=>⟨fun p hp=>h p (AK _ hp),fun p hp=>h p (AN _ hp)⟩
   have len:∀ {a b:List D},(pairD a b).length=min a.length b.length:=fun {a b}=>by unfold pairD;rw[Aj,Fn]
   refine⟨fun i d H2 k2 s3 hd X2 S2 hs=>?_,fun H2 k2 s3 X2 S2 hs=>?_,fun H2 k2 s3 i hi X2 S2 hs=>?_⟩
   . obtain⟨xs2,qx,rx⟩:=kx H2 k2 s3 X2 S2 (st1 hs).1;obtain⟨ys2,qy,ry⟩:=ky H2 k2 s3 X2 S2 (st1 hs).2;obtain⟨dx,dy,g1,g2,rfl⟩:=zij hd;obtain⟨u1,gu,ru⟩:=rx.get g1;obtain⟨v1,gv,rv⟩:=ry.get g2;refine⟨⟨xs2,ys2,u1,v1,qx,qy,gu,gv⟩,fun r H' yl=>?_⟩;obtain⟨q,u2,v2,hq,rfl,rfl,yu,yv⟩:=yl;have e5:=yu xs2 qx;have e6:=yv ys2 qy;rw[gu] at e5;rw[gv] at e6;cases e5;cases e6;obtain⟨E',S'⟩:=zft (o:=.tup [u1,v1]) S2 hq;rw[Ah] at S';refine⟨E',S',⟨q,_,rfl,zbn,?_⟩⟩;have r2:=ru.ext S2 E';have r3:=rv.ext S2 E';rw[Ah] at r2 r3;exact Reps.cons r2 (Reps.cons r3 Reps.nil)
   . obtain⟨xs2,qx,rx⟩:=kx H2 k2 s3 X2 S2 (st1 hs).1;obtain⟨ys2,qy,ry⟩:=ky H2 k2 s3 X2 S2 (st1 hs).2;refine⟨xs2,ys2,qx,qy,?_⟩;show xs2.length<=(pairD as bs).length\/ys2.length<=(pairD as bs).length;rw[len,rx.length,ry.length];omega
   . obtain⟨xs2,qx,rx⟩:=kx H2 k2 s3 X2 S2 (st1 hs).1;obtain⟨ys2,qy,ry⟩:=ky H2 k2 s3 X2 S2 (st1 hs).2;refine⟨xs2,ys2,qx,qy,?_⟩;have hi:(pairD as bs).length<=i:=hi;rw[len] at hi;rw[rx.length,ry.length];omega
end
noncomputable def Caps(X:Cx)(fs:List Str):List Nat->List Str->Prop
 | [],[]=>True
 | j::js,x::xs=>(X.N[j]?=some x/\x∈fs)/\Caps X fs js xs
 | _,_=>False
noncomputable def Outs(X:Cx):List Str->Prop
 | []=>True
 | x::xs=>(X.env.kindOf x=some .cell\/X.env.kindOf x=some .free)/\Outs X xs
theorem Outs.get{X:Cx}:∀ {fs:List Str} {x:Str},Outs X fs->x∈fs->X.env.kindOf x=some .cell\/X.env.kindOf x=some .free
 | [],_,_,m=>nomatch m
 | y::ys,x,h,m=>by
   rcases List.mem_cons.mp m with rfl | m
   . exact h.1
   . exact Outs.get h.2 m
theorem Caps.get{X:Cx}{fs:List Str}:∀ {fr:List Nat} {xs:List Str} {i j:Nat} {x:Str},Caps X fs fr xs->fr[i]?=some j->xs[i]?=some x->X.N[j]?=some x/\x∈fs
 | [],[],i,j,x,_,h,_=>by simp at h
 | [],_::_,i,j,x,h,_,_=>h.elim
 | _::_,[],i,j,x,h,_,_=>h.elim
 | k::ks,y::ys,0,j,x,h,h1,h2=>by
   simp at h1 h2;subst h1 h2;exact h.1
 | k::ks,y::ys,i+1,j,x,h,h1,h2=>Caps.get (i:=i) h.2 (by simpa using h1) (by simpa using h2)
theorem zdc{X:Cx}{scope:Scope}{N':List Str}{nt:Nat}{fr:List Nat}(fs:List Str)(kind:scope.kind=.function)(nd:(scope.names.map (·.1)).Nodup)(hf:scope.names.all (fun p=>!(p.2==AI) || fs.contains p.1)=true)
   (hb:fs.all (fun x=>scope.names.contains (x,AI))=true) (len:N'.length=nt+fr.length) (cap:Caps X fs fr (N'.drop nt)) (out:Outs X fs):CompS X scope N' nt fr:=by
 refine⟨kind,nd,len,fun i j x h1 h2=>?_,fun x hx=>?_⟩
 . have h2':(N'.drop nt)[i]?=some x:=by rw[List.getElem?_drop];exact h2
   obtain⟨a,b⟩:=cap.get h1 h2';refine⟨a,?_⟩;have:=List.all_eq_true.mp hb x b;simpa using this
 . have:=List.all_eq_true.mp hf _ hx;have hm:x∈fs:=by simpa using this
   exact out.get hm
theorem zcz:bootBuiltins "len"=some (.builtin "len"):=by decide +kernel
theorem zoq:bootBuiltins "abs"=some (.builtin "abs"):=by decide +kernel
theorem zop:bootBuiltins "max"=some (.builtin "max"):=by decide +kernel
theorem zoo:bootBuiltins "min"=some (.builtin "min"):=by decide +kernel
theorem zd9:bootBuiltins "sorted"=some (.builtin "sorted"):=by decide +kernel
theorem zmx:bootBuiltins "all"=some (.builtin "all"):=by decide +kernel
theorem zmw:bootBuiltins "int"=some (.type "int"):=by decide +kernel
theorem zhA:bootBuiltins "bool"=some (.type "bool"):=by decide +kernel
theorem zmv:bootBuiltins "list"=some (.type "list"):=by decide +kernel
theorem zb5:bootBuiltins "tuple"=some (.type "tuple"):=by decide +kernel
noncomputable def mulA:G2:=orG mulD znW
theorem zc5{X:Cx}:OpM X (binaryOp .Mult) mulA:=zgT zl0 zke
theorem zji{K:Ab}{H:Hp}{io:List Addr}:∀ (ns:List Int),Reps K H io (ns.map V.int) (ns.map D.int)
 | []=>rfl
 | n::ns=>⟨_,_,rfl,rfl,zji ns⟩
theorem zjG{K:Ab}{H:Hp}{a:Addr}{ns:List Int}{g:GN}{st:Sto}{E:XK}(hO:Only H)(hS:SqL K H a (ns.map V.int))(e:g [.kl (ns.map D.int)] []=some (.bl true,st)):spM K 1 g [.ref a] H (fun v _=>v=.bl true) E:=by
 have hF:SqF K H a (ns.map V.int):=by
   rcases hS with (h | h) | h
   . rcases hO a with z | ⟨o,xs,z⟩
     . rw[z] at h;cases h
     . rw[z] at h;cases h
   . exact .inl h
   . exact .inr h
 refine⟨_,[],[],_,_,rfl,Reps.cons (show Rep K H [] (.ref a) (.kl (ns.map D.int)) from ⟨a,_,rfl,hF,zji ns⟩) Reps.nil,⟨rfl,Fp,fun n b o h=>by simp at h⟩,e,fun v H' ka E' S' R'=>R'⟩
end L2.MP
namespace L2.MP
open PySem
structure Gr(st st':Sto):Prop where
 len:st.length<=st'.length
 old:∀ k,k < st.length->st'[k]?=st[k]?
theorem Gr.refl(st:Sto):Gr st st:=⟨Af _,fun _ _=>rfl⟩
theorem Gr.trans{a b c:Sto}(h:Gr a b)(h':Gr b c):Gr a c:=⟨AC h.len h'.len,fun k hk=>(h'.old k (Ap hk h.len)).trans (h.old k hk)⟩
theorem Gr.app(st:Sto)(l:List O):Gr st (st++l):=⟨by simp,fun k hk=>As hk⟩
theorem getElem?_lt{α:Type}{l:List α}{n:Nat}{x:α}(h:l[n]?=some x):n < l.length:=(List.getElem?_eq_some_iff.mp h).1
theorem zaU(st:Sto)(o:O):(st++[o])[st.length]?=some o:=getElem?_len st o
theorem zbL{W:Wk}{g:MG}{m:MS}:∀ {ds:List D} {Inv:Nat->Rho->Sto->Prop} {ρ:Rho} {st:Sto},Inv 0 ρ st->(∀ k ρ s,k<=ds.length->Inv k ρ s->walked W s=true) ->
   (∀ k d ρ s,ds[k]?=some d->Inv k ρ s->∃ ρ1 s1 ρ2 s2,g d ρ s=some (ρ1,s1)/\m ρ1 s1=some (.nx ρ2,s2)/\Inv (k+1) ρ2 s2)->∃ ρ' s',zdt W g m ds ρ st=some (.nx ρ',s')/\Inv ds.length ρ' s'
 | [],Inv,ρ,st,h0,wk,step=>⟨ρ,st,by unfold zdt;rw[if_pos (wk 0 ρ st (Af _) h0)],h0⟩
 | d::ds,Inv,ρ,st,h0,wk,step=>by
   obtain⟨ρ1,s1,ρ2,s2,e1,e2,h1⟩:=step 0 d ρ st rfl h0;obtain⟨ρ',s',e,h⟩:=zbL (W:=W) (g:=g) (m:=m) (ds:=ds) (Inv:=fun k=>Inv (k+1)) h1 (fun k ρ s hk h=>wk (k+1) ρ s (CJ hk) h) (fun k d ρ s hd h=>step (k+1) d ρ s (by simpa using hd) h);refine⟨ρ',s',?_,h⟩;unfold zdt;rw[if_pos (wk 0 ρ st (Bu _) h0),e1];simp only[Ac,e2];exact e
theorem zkM{W:Wk}{g:MG}{c:MT}{m:ME}{α:Type}{f h:α->D}{R:Rho->Prop}:∀ {as:List α} {ρ:Rho} {st:Sto},R ρ->walked W st=true->(∀ a∈as,∀ ρ,R ρ->∃ ρ1,g (f a) ρ st=some (ρ1,st)/\c ρ1 st=some (true,st)/\m ρ1 st=some (h a,st)/\R ρ1) ->
   mCI W g c m (as.map f) ρ st=some (as.map h,st)
 | [],ρ,st,r,wk,_=>by unfold mCI;rw[Br];simp only[wk,if_true,Br]
 | a::as,ρ,st,r,wk,hs=>by
   obtain⟨ρ1,e1,e2,e3,r1⟩:=hs a An ρ r;have e:=zkM (W:=W) (g:=g) (c:=c) (m:=m) (f:=f) (h:=h) (R:=R) (as:=as) r1 wk fun b hb=>hs b (Ai _ hb);rw[Ax];unfold mCI;rw[if_pos wk,e1];simp only[Ac,e2,if_true,e3,e,AD,Ax]
theorem zb7{ds xs:List D}{n:Nat}{s:Sto}(h:s[n]?=some (.lst xs)):walked ⟨ds,[(n,xs)]⟩ s=true:=by
 unfold walked;simp only[Dl,List.all_nil,Bool.and_true];exact zhd h
theorem zaK{n:Nat}(h:n<=10000):fits n=true:=by
 unfold fits;exact decide_eq_true (AC h (by decide))
end L2.MP
namespace L2.MP
@[simp] theorem zbZ{α:Type}(x:α)(y:Option α):orO (some x) y=some x:=rfl
@[simp] theorem zfo{α:Type}(y:Option α):orO none y=y:=rfl
end L2.MP
namespace L2.MP.Hn
open PySem L2.MP
end L2.MP.Hn
namespace L2.MP
open PySem
section
variable {ρ ρ1:Rho} {st s1:Sto} {m n ma mb:ME} {mm:MA} {ms mq:MS} {mt mu:MT} {g:G2} {gn:GN} {d:D} {i j:Nat} {ds:List D} {mg:MG} {mgs:MGs} {ml mh:MO}
@[simp] theorem zaM:mVar i ρ st=match ρ[i]? with
 | some (some d)=>some (d,st)
 | _=>none:=rfl
@[simp] theorem zbj:mCon d ρ st=some (d,st):=rfl
@[simp] theorem zby:mBin g ma mb ρ st=(ma ρ st).bind fun p=>(mb ρ p.2).bind fun q=>g p.1 q.1 q.2:=rfl
@[simp] theorem zhE:mTst m ρ st=(m ρ st).bind fun p=>match p.1 with
 | .bl b=>some (b,p.2)
 | _=>none:=rfl
@[simp] theorem zjq:zdj mt ρ st=(mt ρ st).map fun p=>(!p.1,p.2):=rfl
@[simp] theorem zhF:zeu mt mu ρ st=(mt ρ st).bind fun p=>if p.1=true then mu ρ p.2 else some (false,p.2):=rfl
@[simp] theorem zmH:mOrT mt mu ρ st=(mt ρ st).bind fun p=>if p.1=true then some (true,p.2) else mu ρ p.2:=rfl
@[simp] theorem zoR:ziu m n ρ st=(mTst m ρ st).bind fun p=>if p.1=true then n ρ p.2 else some (.bl false,p.2):=rfl
@[simp] theorem zoQ:zme m ρ st=(mTst m ρ st).map fun p=>(.bl !p.1,p.2):=rfl
@[simp] theorem zbS:zat gn mm ρ st=(mm ρ st).bind fun p=>gn p.1 p.2:=rfl
@[simp] theorem zbq:zab m mm ρ st=(m ρ st).bind fun p=>(mm ρ p.2).bind fun q=>some (p.1::q.1,q.2):=rfl
@[simp] theorem zcL:mNil ρ st=some ([],st):=rfl
@[simp] theorem zos:mTup mm ρ st=(mm ρ st).bind fun p=>if fits p.1.length=true then some (.tup p.1,p.2) else none:=rfl
@[simp] theorem zpx:mLst mm ρ st=(mm ρ st).bind fun p=>if fits p.1.length=true then some (.ref p.2.length,p.2++[.lst p.1]) else none:=rfl
@[simp] theorem zgd:mRet m ρ st=(m ρ st).map fun p=>(.rt p.1,p.2):=rfl
@[simp] theorem zow:mExp m ρ st=(m ρ st).map fun p=>(.nx ρ,p.2):=rfl
@[simp] theorem zci:mAsg m mg ρ st=(m ρ st).bind fun p=>(mg p.1 ρ p.2).map fun q=>(.nx q.1,q.2):=rfl
@[simp] theorem zpR:gNm i d ρ st=some (ρ.set i (some d),st):=rfl
@[simp] theorem zoP:zcO ρ st=some (.nx ρ,st):=rfl
@[simp] theorem zpw:mNeg m ρ st=(m ρ st).bind fun p=>negD p.1 p.2:=rfl
@[simp] theorem zdB:mIf mt ms mq ρ st=(mt ρ st).bind fun p=>if p.1=true then ms ρ p.2 else mq ρ p.2:=rfl
@[simp] theorem zkS:putA ma mb m ρ st=orO (mAsg m (gSb setD ma mb) ρ st) (zmg ma mb m ρ st):=rfl
@[simp] theorem zot{g3:G3}:gSb g3 ma mb d ρ st=(ma ρ st).bind fun p=>(mb ρ p.2).bind fun q=>(g3 p.1 q.1 d q.2).map fun s=>(ρ,s):=rfl
@[simp] theorem zpQ:gTp i mgs d ρ st=match d with
 | .tup ds=>if ds.length=i then mgs ds ρ st else none
 | _=>none:=rfl
@[simp] theorem zpz:gN0 [] ρ st=some (ρ,st):=rfl
@[simp] theorem zpS:gC mg mgs (d::ds) ρ st=(mg d ρ st).bind fun p=>mgs ds p.1 p.2:=rfl
@[simp] theorem zoO:mR1 m ρ st=(m ρ st).bind fun p=>match p.1 with
 | .int j=>if small j=true then some (⟨run 0 j.toNat,[]⟩,p.2) else none
 | _=>none:=rfl
@[simp] theorem zoN:ze0 ρ st=some (true,st):=rfl
theorem zeG{mi:MI}{k:Nat}{fr:List Nat}:zd4 mi k fr mg mt m ρ st=(mi ρ st).bind fun p=>(mCI p.1 mg mt m p.1.ds (rho0 ρ k fr) p.2).bind fun q=>if fits q.1.length=true then some (.ref q.2.length,q.2++[.lst q.1]) else none:=rfl
@[simp] theorem zeb{mi:MI}:mFor mi mg ms ρ st=(mi ρ st).bind fun p=>zdt p.1 mg ms p.1.ds ρ p.2:=rfl
@[simp] theorem ziR:zb6 ρ st=some (none,st):=rfl
@[simp] theorem ziQ:zbI m ρ st=(m ρ st).bind fun p=>match p.1 with
 | .int i=>some (some i,p.2)
 | _=>none:=rfl
@[simp] theorem zpy{T:String}:mIsi T m ρ st=(m ρ st).bind fun p=>(tyName p.2 p.1).map fun t=>(.bl (subT t T),p.2):=rfl
@[simp] theorem zpA:mApp m mm ρ st=(m ρ st).bind fun p=>match p.1 with
 | .ref n=>(zba p.2 n).bind fun _=>(mm ρ p.2).bind fun q=>zbR p.1 q.1 q.2
 | _=>none:=rfl
@[simp] theorem zpv:mPar i j mm ρ st=(mm ρ st).bind fun p=>match p.1 with
 | [x,y]=>some (.nx ((ρ.set i (some x)).set j (some y)),p.2)
 | _=>none:=rfl
@[simp] theorem zmF:mZip ma mb ρ st=(ma ρ st).bind fun p=>(mb ρ p.2).bind fun q=>zipW p.1 q.1 q.2:=rfl
@[simp] theorem zox:zmh true ρ st=some (.ref st.length,st++[.dt []]):=rfl
@[simp] theorem zoy:zmh false ρ st=some (.ref st.length,st++[.dk []]):=rfl
theorem zaj{r:Option (Fl×Sto)}(h:ms ρ st=some (.nx ρ1,s1))(k:mq ρ1 s1=r):mSeq ms mq ρ st=r:=by
 unfold mSeq;rw[h];exact k
theorem zbW{s:Sto}(h:ms ρ st=some (.rt d,s)):mSeq ms mq ρ st=some (.rt d,s):=by
 unfold mSeq;rw[h];rfl
theorem zck{N:Nat}{s:Sto}(h:ms (rho N ds) st=some (.rt d,s)):fnM N ms ds st=some (d,s):=by
 unfold fnM;rw[h];rfl
theorem zbE{k:Nat}(h:k<=10000:=by decide):fits k=true:=zaK h
@[simp] theorem zpJ:fits 0=true:=zbE
@[simp] theorem zpI:fits 1=true:=zbE
@[simp] theorem zpH:fits 2=true:=zbE
@[simp] theorem zpG:fits 3=true:=zbE
@[simp] theorem zpF:fits 4=true:=zbE
@[simp] theorem zpE:fits 5=true:=zbE
@[simp] theorem zpD:fits 6=true:=zbE
@[simp] theorem zpC:fits 7=true:=zbE
@[simp] theorem zpB:fits 8=true:=zbE
theorem zdL{k:Int}(h0:0<=k)(h1:k<=1000000):small k=true:=by
 unfold small;simp;omega
theorem zkw{n:Nat}{ds:List D}{k:Int}{x:D}(h:st[n]?=some (.lst ds))(h0:0<=k)(hx:ds[k.toNat]?=some x):ixA (.ref n) (.int k) st=some (x,st):=by
 have hl:=getElem?_lt hx;have h1:k < ds.length:=by omega
 simp[ixA,orG,idxD,zba,h,atI,ixN,h0,h1,zbZ];exact (List.getElem?_eq_some_iff.mp hx).2
theorem zcu{ds:List D}{k:Int}{x:D}(h0:0<=k)(hx:ds[k.toNat]?=some x):ixA (.tup ds) (.int k) st=some (x,st):=by
 have hl:=getElem?_lt hx;have h1:k < ds.length:=by omega
 simp[ixA,orG,idxD,atI,ixN,h0,h1,zbZ];exact (List.getElem?_eq_some_iff.mp hx).2
theorem zpm{ds:List D}{k:Int}{x:D}(h0:0<=k)(hx:ds[k.toNat]?=some x):ixA (.kl ds) (.int k) st=some (x,st):=by
 have hl:=getElem?_lt hx;have h1:k < ds.length:=by omega
 simp[ixA,orG,idxD,atI,ixN,h0,h1,zbZ];exact (List.getElem?_eq_some_iff.mp hx).2
theorem zg7{n:Nat}(h:st[n]?=some (.lst ds)):lenD [.ref n] st=some (.int ds.length,st):=by simp[lenD,zba,h]
theorem zdu:lenD [.tup ds] st=some (.int ds.length,st):=rfl
theorem zn4:lenD [.kl ds] st=some (.int ds.length,st):=rfl
theorem zdG{n:Nat}(h:st[n]?=some (.lst ds)):zcS [.ref n] st=some (.tup ds,st):=by simp[zcS,zba,h]
@[simp] theorem add_int(a b:Int):addD (.int a) (.int b) st=some (.int (a+b),st):=rfl
@[simp] theorem sub_int(a b:Int):subD (.int a) (.int b) st=some (.int (a - b),st):=rfl
theorem zdC{a b:List D}(ha:a≠[])(h:a.length+b.length<=10000):addD (.tup a) (.tup b) st=some (.tup (a++b),st):=by
 have:fits (a.length+b.length)=true:=zaK h
 cases a with
 | nil=>exact absurd rfl ha
 | cons x a=>simp[addD,this] at *
theorem append_at{n:Nat}{x:D}(h:st[n]?=some (.lst ds))(hl:ds.length<=10000):zbR (.ref n) [x] st=some (.non,st.set n (.lst (ds++[x]))):=by
 have:ds.length < sizeLine:=Bs hl (by decide);simp[zbR,h,this]
end
end L2.MP
set_option linter.unusedSimpArgs false
namespace L2.MP.Hn
open PySem L2.MP
end L2.MP.Hn
namespace L2.MP
open PySem PySem.Builtin PySem.Builtin.Str
end L2.MP
namespace L2.MP
open PySem
theorem eq_int(a b:Int)(st:Sto):eqD (.int a) (.int b) st=some (.bl (a==b),st):=by
 unfold eqD;rw[toP,toP];simp[BD]
end L2.MP
namespace L2.MP.Hn
open PySem L2.MP
end L2.MP.Hn
namespace L2.MP
open PySem
end L2.MP
namespace L2.MP.Hn
open PySem L2.MP
end L2.MP.Hn
namespace L2.MP
open PySem
theorem zex:∀ t:List Int,intsOf (t.map D.int)=some t
 | []=>rfl
 | x::t=>by rw[Ax,intsOf,zex t];rfl
theorem zc4:∀ {rows:List (List Int)},(∀ r∈rows,r≠[])->rowsOf (rows.map tupD)=some rows
 | [],_=>rfl
 | r::rows,h=>by
   have hr:rowOf (tupD r)=some r:=by
     unfold rowOf tupD;simp only[zex,Ac];have:r.isEmpty=false:=by
       cases r with
       | nil=>exact absurd rfl (h [] An)
       | cons a b=>rfl
     simp[this]
   rw[Ax,rowsOf,hr,Ac,zc4 fun q hq=>h q (Ai _ hq)];rfl
theorem zgu{st:Sto}{l:Nat}{rows:List (List Int)}(hl:st[l]?=some (.lst (rows.map tupD)))(h:∀ r∈rows,r≠[])(h64:rows.length < 64):zcZ [.ref l] st=some (.ref st.length,st++[.lst ((ziY rows).map tupD)]):=by
 match rows,hl,h,h64 with
 | [],hl,h,h64=>simp[zcZ,orN,zcl,zba,hl,strsOf,zgv,ziY,zbZ]
 | [r],hl,h,h64 =>
   have e:strsOf [tupD r]=none:=rfl;simp[zcZ,orN,zcl,zc0,zba,hl,e,ziY,zbZ,zfo]
 | r::q::rows,hl,h,h64 =>
   have e:strsOf (tupD r::tupD q::rows.map tupD)=none:=rfl;have e2:=zc4 h;simp only[Ax] at e2;simp at h64;have h2:rows.length+1+1 < 64:=by omega
   simp[zcZ,orN,zcl,zc0,zdK,zba,hl,e,e2,zbZ,zfo,h2]
theorem zel(rows:List (List Int)):(ziY rows).Perm rows:=C1 _ _
end L2.MP
namespace L2.MP.Hn
open PySem L2.MP
end L2.MP.Hn
namespace L2.MP
open PySem PySem.Spec PyProof.Rows
section
variable {X:Cx} {K:Ab} {H:Hp} {io:List Addr} {st st':Sto} {a b c e:Expr} {es:List Expr} {ma mb mc m:ME} {mm:MA} {pos:Pos}
noncomputable def zda:D->List D->Sto->Option (D×Sto):=fun x xs st=>match x,xs with
 | .ref n,[.ref k]=>match st[n]?,st[k]? with
   | some (.lst ds),some (.lst zs)=>if fits (ds.length+zs.length)=true then some (.non,st.set n (.lst (ds++zs))) else none
   | _,_=>none
 | _,_=>none
theorem extend_in{x:D}{xs:List D}{d:D}(h:zda x xs st=some (d,st')):∃ n k ds zs,x=.ref n/\xs=[.ref k]/\st[n]?=some (.lst ds)/\st[k]?=some (.lst zs)/\ds.length+zs.length<=sizeLine/\d=.non/\st'=st.set n (.lst (ds++zs)):=by
 unfold zda at h
 split at h
 . rename_i n k
   split at h
   . rename_i ds zs e1 e2;obtain⟨hf,h⟩:=zam h;cases h;exact⟨n,k,ds,zs,rfl,rfl,e1,e2,of_decide_eq_true hf,rfl,rfl⟩
   . cases h
 . cases h
theorem zg1:MtR X "list.extend" (mtM X.K zda):=by
 rintro pins s σ H x xs v us Q I rx rs ⟨dx,ds,st,io,d,st',Rx,Rs,S,e,k⟩;obtain⟨n,j,l,zs,rfl,rfl,e1,e2,hl,rfl,rfl⟩:=extend_in e;obtain⟨p,rfl,hp⟩:=Rx;obtain⟨w,rfl,Rw⟩:=Rs.one;obtain⟨q,rfl,hq⟩:=Rw;obtain⟨ys,hH,r⟩:=S.ob n p _ hp e1;obtain⟨ws,hB,r2⟩:=S.ob j q _ hq e2;refine zis pins s σ H _ _ v us Q I rx rs ⟨p,q,ys,ws,rfl,rfl,hH,hB,by rw[r.length,r2.length];exact hl,?_⟩;obtain⟨E',S'⟩:=zdS (o:=.lst (ys++ws)) (ob:=.lst (l++zs)) S hp e1 (fun o u z=>by rw[hH] at z;cases z) fun H' T e'=>⟨_,e',(Reps.mono T r).append (Reps.mono T r2)⟩
 exact k _ _ [] E' S' rfl
noncomputable def mExt(m:ME)(mm:MA):ME:=fun ρ st=>(m ρ st).bind fun (x,s1)=>match x with
 | .ref n=>(zba s1 n).bind fun _=>(mm ρ s1).bind fun (xs,s2)=>zda x xs s2
 | _=>none
theorem zh4{o:Expr}{apos cpos:Pos}(ho:SE X o m)(ha:SA X (e::es) mm)
   (hbase:attributeBase o "extend" X.env (eval o X.env)=eval o X.env:=by rfl)
   (hfew:((backTo cpos (starEach (e::es) X.env)).all (fun x=>!x.1)&&(backToKw cpos (keywordEach [] X.env)).all (fun x=>x.1.isSome)
    &&decide ((e::es).length+([]:List Keyword).length+(if ([]:List Keyword).isEmpty then 0 else 1) < 30))=true:=by rfl)
   (hline:(apos.endLine==cpos.line)=true:=by rfl) (hs:starEach (e::es) X.env=(false,eval e X.env)::starEach es X.env:=by rfl) (hplain:(backTo cpos (starEach es X.env)).any (·.1)=false:=by rfl) :
   SE X (.Call (.Attribute o "extend" apos) (e::es) [] cpos) (mExt m mm) :=
 PE.imp (znF B6 PySem.F.slot_list_extend PySem.F.type_list_extend zg1 ho ha hbase hfew hline hs hplain) <| by
   rintro σ H Q ⟨ρ,st,io,d,st',E,S,e,k⟩;obtain⟨⟨x,s1⟩,e1,e⟩:=zad e
   cases x with
   | ref n =>
     obtain⟨l,e0,e⟩:=zad e;obtain⟨⟨xs,s2⟩,e2,e⟩:=zad e;refine⟨ρ,st,io,_,s1,E,S,e1,fun v1 H1 k1 X1 S1 R1=>⟨zdF R1 S1 e0,ρ,s1,io++k1,xs,s2,E.ext S X1,S1,e2,fun vs H2 k2 X2 S2 R2=>?_⟩⟩;exact⟨_,xs,s2,(io++k1)++k2,d,st',R1.ext S1 X2,R2,S2,e,(k.on S1 X1).on S2 X2⟩
   | _=>cases e
theorem zov{ρ:Rho}:mExt m mm ρ st=(m ρ st).bind fun p=>match p.1 with
 | .ref n=>(zba p.2 n).bind fun _=>(mm ρ p.2).bind fun q=>zda p.1 q.1 q.2
 | _=>none:=rfl
end
end L2.MP
namespace L2.MP
open PySem
theorem zd8{W:Wk}{g:MG}{c:MT}{m:ME}{α:Type}{f h:α->D}{p:α->Bool}{R:Rho->Prop}:∀ {as:List α} {ρ:Rho} {st:Sto},R ρ->walked W st=true->(∀ a∈as,∀ ρ,R ρ->∃ ρ1,g (f a) ρ st=some (ρ1,st)/\c ρ1 st=some (p a,st)/\(p a=true->m ρ1 st=some (h a,st))/\R ρ1) ->
   mCI W g c m (as.map f) ρ st=some ((as.filter p).map h,st)
 | [],ρ,st,r,wk,_=>by unfold mCI;rw[Br];simp only[wk,if_true,List.filter_nil,Br]
 | a::as,ρ,st,r,wk,hs=>by
   obtain⟨ρ1,e1,e2,e3,r1⟩:=hs a An ρ r;have e:=zd8 (W:=W) (g:=g) (c:=c) (m:=m) (f:=f) (h:=h) (p:=p) (R:=R) (as:=as) r1 wk fun b hb=>hs b (Ai _ hb);rw[Ax];unfold mCI;rw[if_pos wk,e1]
   cases hp:p a with
   | true =>
     rw[hp] at e2;simp only[Ac,e2,if_true,e3 hp,e,AD,Fc,hp,Ax]
   | false =>
     rw[hp] at e2;simp only[Ac,e2,Bt,if_false,e,Fc,hp]
end L2.MP
namespace L2.MP.Hn
open PySem L2.MP
end L2.MP.Hn
namespace L2.MP
open PySem PySem.Spec PyProof.Rows
section
theorem zhk(x:Sr)(o:Obj)(xs:Array Value):Meets (Builtin.«enumerate.__new__» ⟨[.type "enumerate",.ref x.ad],[]⟩) (fun _ R s=>s.heap.get? x.ad=some o/\x.is s.heap xs /\
     R (.ok (.ret (.ref (s.heap.push x.ob).objs.size))) { s with heap:=(s.heap.push x.ob).push { cls:=.type "enumerate",data:=.fields #[.none,.bool false,.ref s.heap.objs.size,rawInt 0,.none,.none] } }) :=
 .of_wp fun prog w A R s h=>by
   obtain⟨hp,g,d,tk,os⟩:=s;obtain⟨h1,h2,h⟩:=h;have hsub:=sub_enumerate;have hx:x.is (ES ⟨hp,g,d,tk,os⟩) xs:=h2
   wp_walk using BZ h1
   refine wpAny_stack_any fun sk=>Ae ?_
   split
   . rename_i c _ _ _ _ _
     cases (c==Value.type "enumerate")
     . wp_walk using BZ h1,Sr.iter hx
       exact⟨_,rfl,h⟩
     . wp_walk using BZ h1,Sr.iter hx
       exact⟨_,rfl,h⟩
   . wp_walk using BZ h1,Sr.iter hx
     exact⟨_,rfl,h⟩
end
section
variable {prog:Program} {w:World} {A:Around} {E:Value->Shared->Prop} {s:Shared}
theorem Sr.is_get{h:Heap}{xs:Array Value}{x:Sr}(q:x.is h xs):∃ o,h.get? x.ad=some o:=by
 cases x with
 | l a=>obtain⟨o,g,_⟩:=q;exact⟨o,g⟩
 | t a=>obtain⟨o,g,_⟩:=q;exact⟨o,g⟩
theorem zhz{x:Sr}{xs:Array Value}{R:Value->Shared->Prop}(hx:x.is s.heap xs)(k:∀ h',IsEnum h' (s.heap.objs.size+1) s.heap.objs.size 0 .none->x.at_ h' s.heap.objs.size 0->(∀ c u,s.heap.get? c=some u->h'.get? c=some u)->R (.ref (s.heap.objs.size+1)) { s with heap:=h' }) :
   wpAny (model prog w) A (call (.type "enumerate") [.ref x.ad]) R E s:=by
 obtain⟨o,g⟩:=Sr.is_get hx;refine callType_new F.called_enumerate (by decide) (F.typeCall_enumerate_1 _) (F.newCall_enumerate_1 _) (fun obj=>F.args_object_init_2 obj _) F.entry_enumerate_new (zhk x o xs) ⟨g,hx,?_⟩;have z1:(s.heap.push x.ob).objs.size=s.heap.objs.size+1:=Bk ..;have f2:((s.heap.push x.ob).push { cls:=.type "enumerate",data:=.fields #[.none,.bool false,.ref s.heap.objs.size,rawInt 0,.none,.none] }).get? (s.heap.push x.ob).objs.size=some { cls:=.type "enumerate",data:=.fields #[.none,.bool false,.ref s.heap.objs.size,rawInt 0,.none,.none] }:=Ar _ rfl;have f1:((s.heap.push x.ob).push { cls:=.type "enumerate",data:=.fields #[.none,.bool false,.ref s.heap.objs.size,rawInt 0,.none,.none] }).get? s.heap.objs.size=some x.ob:=Ad _ (Ar _ (by cases x <;> rfl));show _/\_;rw[z1] at f2 ⊢;exact⟨⟨_,f2,rfl⟩,k _ f2 (Sr.at_new f1) fun c u q=>Ad _ (Ad _ q)⟩
end
theorem Sr.draws{prog:Program}{w:World}{A:Around}(hh:A.handled=none)(it:Addr)(x:Sr)(hne:x.ad≠it)(items:Array Value):Draws prog w A it [it,x.ad] items.size (fun i v=>items[i]?=some v) (fun i h=>x.at_ h it i/\x.is h items) where
 live:=fun _ _ q=>let ⟨o,_,g,_⟩:=Sr.at_get q.1;⟨o,g⟩
 frame:=fun _ _ _ q k=>⟨Sr.at_keep q.1 fun o e=>k it (by simp) o e,Sr.is_keep q.2 fun o e=>k x.ad (by simp) o e⟩
 item:=fun i s Q E hi q k=>by
   refine Sr.next q.1 q.2 (v:=items[i]) (by simp[hi]) fun h' a b=>?_;exact k _ h' s.toks (by simp[hi]) ⟨a,Sr.is_keep q.2 fun o e=>b.extBut _ _ hne e⟩ b
 done:=fun s Q E q k=>Sr.stop hh q.1 q.2 (by simp) k
theorem Sr.drawsEnd{prog:Program}{w:World}{A:Around}(hh:A.handled=none)(it:Addr)(x:Sr)(items:Array Value)(n:Nat)(hn:items[n]?=none):Draws prog w A it [it,x.ad] n (fun _ _=>True) (fun j h=>j=n/\x.at_ h it n/\x.is h items) where
 live:=fun _ _ q=>let ⟨o,_,g,_⟩:=Sr.at_get q.2.1;⟨o,g⟩
 frame:=fun _ _ _ q k=>⟨q.1,Sr.at_keep q.2.1 fun o e=>k it (by simp) o e,Sr.is_keep q.2.2 fun o e=>k x.ad (by simp) o e⟩
 item:=fun i s Q E hi q k=>absurd q.1 (AG hi)
 done:=fun s Q E q k=>Sr.stop hh q.2.1 q.2.2 hn k
noncomputable def Itn(x:Sr):It :=
 ⟨fun i H=>∃ xs v,x.sq H xs/\xs[i]?=some v,fun i H r H'=>∃ p v,H p=none/\H'=upd H p (.tup [.int (i:Nat),v])/\r=.ref p/\∀ xs,x.sq H xs->xs[i]?=some v,fun i H=>∃ xs,x.sq H xs/\xs.length<=i⟩
theorem zgm{P:Program}{w:World}{K:Ab}{elts:List Expr}{x1}{pos:Pos}(x:Sr)(it e:Addr)(hne:e≠it) :
   Turn P w K (.Tuple elts x1 pos) (Itn x) [e,it] e (fun i h=>(∃ old,IsEnum h e it (i:Nat) old)/\x.at_ h it i) where
 mem:=by simp
 obj:=fun i h st b hb=>by
   obtain⟨⟨old,he⟩,hi⟩:=st
   rcases List.mem_cons.mp hb with rfl | hb
   . exact⟨_,he,fun v z=>by cases z⟩
   . rw[List.mem_singleton.mp hb];obtain⟨o,vs,g,d⟩:=Sr.at_get hi;exact⟨o,g,fun v z=>by rw[d] at z;cases z⟩
 keep:=fun i h h' st k=>by
   obtain⟨⟨old,he⟩,hi⟩:=st;exact⟨⟨old,k e (by simp) _ he⟩,Sr.at_keep hi fun o q=>k it (by simp) o q⟩
 item := by
   intro X hP hw hK hc i pins s σ H E I hf st hg;subst hP hw hK;obtain⟨xs,v,hx,hv⟩:=hg;obtain⟨⟨old,he⟩,hi⟩:=st;obtain⟨its,rx,ix⟩:=Sr.sq_is I hx;obtain⟨v',gv,rv⟩:=rx.get hv;have fit:=(hf it (by simp)).1;have fe:=(hf e (by simp)).1;have hlt:i < its.toArray.size:=by have:=(List.getElem?_eq_some_iff.mp gv).1;simpa using this
   refine wpAny_pyNext_enum_itemD (Sr.draws (A:=X.A.in1) (I.ok.hd hc) it x (Sr.sq_ne hx fit) its.toArray) he ⟨hi,ix⟩ hlt hne (by
     simp only[AM,AH,or_false,not_or];exact⟨hne,fun z=>Sr.sq_ne hx fe z.symm⟩) fun y h1 tk hy he1 st1 t1 z1 k1=>?_
   have ey:y=v':=by
     have:its[i]?=some y:=by simpa using hy
     rw[gv] at this;exact (Ay this).symm
   subst ey;refine⟨_,rfl,wpAny_letOwnedTupleGo_enum (s:={ s with heap:=h1,toks:=tk+1 }) he1 fun h2 he2 hb2=>?_⟩;have k2:∀ b o,b ∉ [e,it]->s.heap.get? b=some o->h2.get? b=some o:=fun b o hb q=>by
     have n1:b≠e:=fun z=>hb (by simp[z]);have n2:b≠it:=fun z=>hb (by simp[z]);exact (hb2.2 b n1).trans (k1 b o n1 n2 q)
   have hsz:e≠s.heap.objs.size:=AG (Ak he);have t2:h2.get? s.heap.objs.size=some { cls:=.type "tuple",data:=.seq #[.int i tk,y] }:=(hb2.2 _ hsz.symm).trans t1;have hi2:x.at_ h2 it (i+1):=Sr.at_keep st1.1 fun o q=>(hb2.2 it hne.symm).trans q;refine⟨.ref s.heap.objs.size,upd H s.heap.objs.size (.tup [.int (i:Nat),v]),?_,rfl,⟨_,v,I.hok.fresh (Af _),rfl,rfl,fun ys hy=>by rw[Sr.sq_inj hy hx];exact hv⟩,⟨⟨_,by exact_mod_cast he2⟩,hi2⟩,fun b hb=>?_⟩
   . exact Inv.turnNew (s:=s) (h':=h2) (t':=tk+1) I hf k2 (Af _) (fun b hb ob q=>by
       rcases List.mem_cons.mp hb with rfl | hb
       . exact⟨_,he2⟩
       . rw[List.mem_singleton.mp hb];obtain⟨o,vs,g,d⟩:=Sr.at_get hi2;exact⟨o,g⟩) ⟨by show 2<=sizeLine;decide,[.int i tk,y],.cons ⟨_,rfl⟩ (.cons rv .nil),⟨_,t2,rfl,rfl,_,rfl⟩⟩
   . rw[zaG (fun z=>?_)]
     . exact (hf b hb).1
     . rcases List.mem_cons.mp hb with q | hb
       . exact hsz (q.symm.trans z)
       . have q:=List.mem_singleton.mp hb;obtain⟨o,vs,g,d⟩:=Sr.at_get hi;exact (AG (Ak g)) (q.symm.trans z)
 done:=by
   intro X hP hw hK hc i pins s σ H E I hf st hg;subst hP hw hK;obtain⟨xs,hx,hl⟩:=hg;obtain⟨⟨old,he⟩,hi⟩:=st;obtain⟨its,rx,ix⟩:=Sr.sq_is I hx;have l1:=rx.length;exact wpAny_pyNext_enum_endD (Sr.drawsEnd (A:=X.A.in1) (I.ok.hd hc) it x its.toArray i (by simp;omega)) he ⟨rfl,hi,ix⟩ fun h' eb=>⟨rfl,Inv.turnAll (t':=s.toks) I hf fun b o hb q=>eb b o (fun z=>hb (by simp[z])) q⟩
 self:=fun _ _ _ _ _ st h=>by
   obtain⟨⟨old,he⟩,_⟩:=st;exact EM he h
section
variable {X:Cx} {K:Ab} {H:Hp} {io:List Addr} {m:ME} {st st':Sto}
noncomputable def zoJ(x:D)(s:Sto):Option (Wk×Sto):=(seqD s x).map fun (a,f)=>(⟨pairs a,f⟩,s)
noncomputable def zmf(m:ME):MI:=fun ρ st=>(m ρ st).bind fun (x,s1)=>zoJ x s1
theorem zlv{elts:List Expr}{x1}{tp:Pos}{a:Expr}{p pos:Pos}(hg:Gl X "enumerate")(hm:X.mg "enumerate"=none)(ha:SE X a m)(hs:starEach [a] X.env=[(false,eval a X.env)]:=by rfl) :
   SI X (.Tuple elts x1 tp) (.Call (.Name "enumerate" p) [a] [] pos) (zmf m):=by
 rintro pins s σ H R I ⟨ρ,st,io,W,st',E,S,e,k⟩;obtain⟨⟨x,s1⟩,e1,e⟩:=zad e;obtain⟨⟨as,f⟩,e3,e⟩:=zag e;cases e;refine Call_ (ze2 I hg hm boot_enumerate (By (thn (zaa ha zae hs pos pins s σ H (fun vs H'=>∃ ka,Ext io ka H H'/\StR X.K H' (io++ka) st'/\Reps X.K H' (io++ka) vs [x]) I ⟨ρ,st,io,[x],st',E,S,zcq e1 rfl,fun vs H1 k1 X1 S1 R1=>⟨k1,X1,S1,R1⟩⟩) ?_) hs rfl));rintro us t1 ⟨vs,H1,I1,r1,k1,X1,S1,R1⟩;obtain⟨v,rfl,Rx⟩:=R1.one;obtain⟨v',rfl,rv⟩:=r1.one;obtain⟨xx,rfl,⟨xs,hx⟩,kx⟩:=zgB S1 Rx e3;cases rv;obtain⟨its,vx,ix⟩:=Sr.sq_is I1 hx;refine zhz ix fun h' he hi kk=>EM he ?_;refine⟨_,_,_,_,H1,rfl,I1.kept (t':=t1.toks) kk,zgm xx t1.heap.objs.size (t1.heap.objs.size+1) (Nat.succ_ne_self _),⟨⟨_,he⟩,hi⟩,fun b hb=>?_,?_⟩
 . have hle:t1.heap.objs.size<=b:=by
     rcases List.mem_cons.mp hb with q | hb
     . rw[q];exact Ci _
     . rw[List.mem_singleton.mp hb];exact Af _
   exact I1.fpOk hle (I1.hok.fresh hle)
 . refine k _ H1 k1 X1 S1 ?_;refine⟨fun i d H2 k2 s3 hd X2 S2 hs=>?_,fun H2 k2 s3 X2 S2 hs=>?_,fun H2 k2 s3 i hi X2 S2 hs=>?_⟩
   . obtain⟨xs2,qx,rx⟩:=kx H2 k2 s3 X2 S2 hs;obtain⟨dx,g1,rfl⟩:=zfm hd;obtain⟨u1,gu,ru⟩:=rx.get g1;refine⟨⟨xs2,u1,qx,gu⟩,fun r H' yl=>?_⟩;obtain⟨q,u2,hq,rfl,rfl,yu⟩:=yl;have e5:=yu xs2 qx;rw[gu] at e5;cases e5;obtain⟨E',S'⟩:=zft (o:=.tup [.int (i:Nat),u1]) S2 hq;rw[Ah] at S';refine⟨E',S',⟨q,_,rfl,zbn,?_⟩⟩;have r2:=ru.ext S2 E';rw[Ah] at r2;exact Reps.cons rfl (Reps.cons r2 Reps.nil)
   . obtain⟨xs2,qx,rx⟩:=kx H2 k2 s3 X2 S2 hs;exact⟨xs2,qx,by show xs2.length<=(pairs as).length;rw[pairs_len,rx.length];exact Af _⟩
   . obtain⟨xs2,qx,rx⟩:=kx H2 k2 s3 X2 S2 hs;have hi:(pairs as).length<=i:=hi;rw[pairs_len] at hi;exact⟨xs2,qx,by rw[rx.length];exact hi⟩
end
section
variable {X:Cx} {K:Ab} {H:Hp} {io:List Addr} {m:ME} {st st':Sto}
@[simp] theorem zmI{ρ:Rho}:zmf m ρ st=(m ρ st).bind fun p=>zoJ p.1 p.2:=rfl
end
section
variable {X:Cx} {K:Ab} {H:Hp} {io:List Addr} {m ma mb mc:ME} {st st':Sto} {a b c:Expr} {pos:Pos}
noncomputable def zbx(g g':G2)(ma mb mc:ME):ME:=fun ρ st=>(ma ρ st).bind fun (x,s1)=>(mb ρ s1).bind fun (y,s2)=>(g x y s2).bind fun (z,s3)=>match z with
 | .bl q=>if q=true then (mc ρ s3).bind fun (w,s4)=>g' y w s4 else some (.bl false,s3)
 | _=>none
theorem zdz{g g':G2}{σ:L2.St}{H:Hp}{Q:VK}(h:tE K (zbx g g' ma mb mc) σ H Q):zjz (r2M K g) (r2M K g') (tE K ma) (tE K mb) (tE K mc) σ H Q:=by
 obtain⟨ρ,st,io,d,st',E,S,e,k⟩:=h;obtain⟨⟨x,s1⟩,e1,e⟩:=zad e;obtain⟨⟨y,s2⟩,e2,e⟩:=zad e;obtain⟨⟨z,s3⟩,e3,e⟩:=zad e;refine⟨ρ,st,io,x,s1,E,S,e1,fun v1 H1 k1 X1 S1 R1=>?_⟩;refine⟨ρ,s1,io++k1,y,s2,E.ext S X1,S1,e2,fun v2 H2 k2 X2 S2 R2=>?_⟩;refine⟨x,y,s2,(io++k1)++k2,z,s3,R1.ext S1 X2,R2,S2,e3,fun v3 H3 k3 X3 S3 R3=>?_⟩;have k':=((k.on S1 X1).on S2 X2).on S3 X3;dsimp only at e
 split at e
 . rename_i q;refine⟨q,R3,?_⟩
   cases q with
   | true =>
     rw[if_pos rfl] at e ⊢;obtain⟨⟨w,s4⟩,e4,e5⟩:=zad e;refine⟨ρ,s3,((io++k1)++k2)++k3,w,s4,((E.ext S X1).ext S1 X2).ext S2 X3,S3,e4,fun v4 H4 k4 X4 S4 R4=>?_⟩;exact⟨y,w,s4,(((io++k1)++k2)++k3)++k4,d,st',(R2.ext S2 X3).ext S3 X4,R4,S4,e5,k'.on S4 X4⟩
   | false =>
     rw[if_neg A9] at e ⊢;cases e;exact Bh.now k' S3 rfl
 . cases e
theorem zgC{op op':CmpOp}{g g':G2}(ho:OpM X (compareOp op) g)(ho':OpM X (compareOp op') g')(ha:SE X a ma)(hb:SE X b mb)(hc:SE X c mc)(hm:lastMarks [op,op'] [b,c]=false:=by with_unfolding_all rfl) :
   SE X (.Compare a [op,op'] [b,c] pos) (zbx g g' ma mb mc):=PE.imp (zkd ho ho' ha hb hc hm) fun _ _ _ h=>zdz h
theorem zgF{op op':CmpOp}{g g':G2}(ho:OpM X (compareOp op) g)(ho':OpM X (compareOp op') g')(ha:SE X a ma)(hb:SE X b mb)(hc:SE X c mc)(hm:lastMarks [op,op'] [b,c]=false:=by with_unfolding_all rfl) :
   SB X (.Compare a [op,op'] [b,c] pos) (mTst (zbx g g' ma mb mc)):=PT.imp (zj4 ho ho' ha hb hc hm) fun _ _ _ h=>zdz (zb9 h)
end
section
variable {X:Cx} {K:Ab} {H:Hp} {io:List Addr} {m mk:ME} {st st':Sto} {e se:Expr} {te:TE} {ts:TO} {p2 pos:Pos}
theorem ze9{x:V}{u:Value}:∀ {xs:List V} {us:List Value},Vals xs us->RelV x u->Vals (xs++[x]) (us++[u])
 | [],_,.nil,r=>.cons r .nil
 | y::xs,_,.cons z t,r=>.cons z (ze9 t r)
theorem zgh:∀ {xs:List V} {us:List Value},Vals xs us->Vals xs.reverse us.reverse
 | [],_,.nil=>.nil
 | x::xs,_,.cons r t=>by
   rw[CD,CD];exact ze9 (zgh t) r
theorem zfl:∀ {xs:List V} {ds:List D} {x:V} {d:D},Reps K H io xs ds->Rep K H io x d->Reps K H io (xs++[x]) (ds++[d])
 | _,[],x,d,h,r=>by
   cases (show _=[] from h)
   exact⟨x,[],rfl,r,rfl⟩
 | _,e::ds,x,d,h,r=>by
   obtain⟨y,ys,rfl,h1,h2⟩:=h;exact⟨y,ys++[x],rfl,h1,zfl h2 r⟩
theorem zgJ:∀ {ds:List D} {xs:List V},Reps K H io xs ds->Reps K H io xs.reverse ds.reverse
 | [],xs,h=>by
   cases (show xs=[] from h)
   exact rfl
 | d::ds,xs,h=>by
   obtain⟨y,ys,rfl,h1,h2⟩:=h;rw[CD,CD];exact zfl (zgJ h2) h1
end
noncomputable def Itw(n:Nat)(f:Nat->Option V):It:=⟨fun i _=>i < n,fun i H v H'=>H'=H/\f i=some v,fun i _=>n<=i⟩
noncomputable def zha:List String:=["enumerate","zip","dict_itemiterator","dict_reverseitemiterator","odict_iterator","itertools.zip_longest","itertools.pairwise"]
theorem zgj{P:Program}{w:World}{K:Ab}{tg:Expr}(it:Addr)(n:Nat)(f:Nat->Option V){R:Nat->Value->Prop}{T:Nat->Heap->Prop}(W:∀ A:Around,A.handled=none->Walks P w A it [it] [it] n R T)
   (hr:∀ i v,R i v->∃ x,f i=some x/\RelV x v) (hob:∀ i h,T i h->∃ o nm vs,h.get? it=some o/\o.cls=.type nm/\o.data=.fields vs/\zha.contains nm=false)
   (hself:∀ (A:Around) (i:Nat) (s:Shared) (Q:Value->Shared->Prop) (E:Value->Shared->Prop),T i s.heap->Q (.ref it) s->wpAny (model P w) A (pyIter (.ref it)) Q E s) :
   Turn P w K tg (Itw n f) [it] it (fun i h=>i<=n/\T i h) where
 mem:=by simp
 obj:=fun i h st b hb=>by
   have e:b=it:=by simpa using hb
   subst e;obtain⟨o,nm,vs,e,c,d,_⟩:=hob i h st.2;exact⟨o,e,fun v z=>by rw[d] at z;cases z⟩
 keep:=fun i h h' st k=>⟨st.1,(W {} rfl).frame i h h' st.2 k⟩
 item:=by
   intro X hP hw hK hc i pins s σ H E I hf st hg;subst hP hw hK;obtain⟨f0,f1,f2,f3,f4,f5⟩:=hf it (by simp);refine (W X.A (I.ok.hd hc)).item i s _ _ hg st.2 fun v h' tk hv st' kk=>?_;obtain⟨x,hx,rx⟩:=hr i v hv;have I1:Inv X pins σ H { s with heap:=h',toks:=tk }:=I.turned (fun b o hb e=>kk b o (by simpa using hb) e) f0 f1 f3 f4 f5;obtain⟨o,nm,vs,e,c,d,hn⟩:=hob (i+1) h' st';exact⟨_,rfl,zmP (s:={ s with heap:=h',toks:=tk }) e c d hn ⟨x,H,I1,rx,⟨rfl,hx⟩,⟨hg,st'⟩,fun b hb=>(hf b hb).1⟩⟩
 done:=by
   intro X hP hw hK hc i pins s σ H E I hf st hg;subst hP hw hK;obtain⟨f0,f1,f2,f3,f4,f5⟩:=hf it (by simp);have e:i=n:=Nat.le_antisymm st.1 hg;subst e;exact (W X.A (I.ok.hd hc)).done s _ _ st.2 fun h' tk kk=>⟨rfl,I.turned (fun b o hb e=>kk b o (by simpa using hb) e) f0 f1 f3 f4 f5⟩
 self:=fun A i s Q E st h=>hself A i s Q E st.2 h
theorem zod{K:Ab}{H:Hp}{io:List Addr}{ds:List D}{n:Nat}{f:Nat->Option V}(hn:n=ds.length)(hf:∀ i d,ds[i]?=some d->∃ v,f i=some v/\∀ H io,Rep K H io v d):ItOk K H io ⟨ds,[]⟩ (Itw n f) where
 go:=fun i d H1 k1 s hd X1 S1 hs=>by
   have hi:i < ds.length:=(List.getElem?_eq_some_iff.mp hd).1;refine⟨by show i < n;omega,fun x H' y=>?_⟩;obtain⟨rfl,y⟩:=y;obtain⟨v,hv,rv⟩:=hf i d hd;rw[hv] at y;cases y;exact⟨Ext.refl,S1,rv _ _⟩
 stop:=fun H1 k1 s X1 S1 hs=>by show n<=ds.length;omega
 stop':=fun H1 k1 s i hi X1 S1 hs=>by
   show n<=i;have hi:ds.length<=i:=hi;omega
section
variable {X:Cx} {K:Ab} {H:Hp} {io:List Addr} {st st':Sto} {a b c e:Expr} {es:List Expr} {ma mb mc m:ME} {mm:MA} {mt:MT} {ms:MS} {pos:Pos} {tg:Expr} {body:List Stmt}
noncomputable def signs(z:Str):List D:=z.cps.toList.map fun c=>D.str ⟨#[c]⟩
noncomputable def zkV(z:Str)(i:Nat):Option V:=z.cps[i]?.map fun c=>V.str ⟨#[c]⟩
theorem zhK{P:Program}{w:World}{A:Around}(hh:A.handled=none)(I:Addr)(x:Str)(t:Tok):Walks P w A I [I] [I] x.cps.size (SignAt x) (fun i h=>h.IsStrIter I (strIterType x) x t i):=by
 unfold strIterType
 cases x.cps.all (· < 128)
 . exact Walks.strWide hh I x t
 . exact Walks.strAscii hh I x t
theorem zju{P:Program}{w:World}{K:Ab}{tg:Expr}(it:Addr)(x:Str)(t:Tok):Turn P w K tg (Itw x.cps.size (zkV x)) [it] it (fun i h=>i<=x.cps.size/\h.IsStrIter it (strIterType x) x t i) :=
 zgj it x.cps.size (zkV x) (fun A hA=>zhK hA it x t) (fun i v ⟨c,u,hc,hv⟩=>⟨.str ⟨#[c]⟩,by unfold zkV;rw[hc];rfl,u,hv⟩)
   (fun i h ⟨o,e,c,d⟩=>⟨o,_,_,e,c,d,by unfold strIterType;split <;> decide⟩) fun A i s Q E st h=>by
     unfold strIterType at st
     split at st
     . exact wpAny_pyIter_striter_ascii st h
     . exact wpAny_pyIter_striter_wide st h
noncomputable def iStr(tl:TE):TI:=fun σ H R=>tl σ H fun x H1=>∃ z,x=.str z/\R (Itw z.cps.size (zkV z)) H1
theorem znt{l:Expr}{tl:TE}(hl:PE X l tl):PI X tg l (iStr tl):=by
 intro pins s σ H R I h;refine thn (hl pins s σ H _ I h) ?_;rintro v s1 ⟨x,H1,I1,r1,q1⟩;obtain⟨z,e,q⟩:=q1;subst e;obtain⟨t,rfl⟩:=r1;refine wpAny_pyIter_strU ?_;refine⟨s1.heap.objs.size,[s1.heap.objs.size],_,_,H1,rfl,I1.kept (t':=s1.toks) fun b o e=>Ad _ e,zju _ z t,⟨Bu _,_,Ar _ rfl,rfl,rfl⟩,fun b hb=>?_,q⟩;have e:b=s1.heap.objs.size:=by simpa using hb
 subst e;exact I1.fpOk (Af _) (I1.hok.fresh (Af _))
theorem signs_get{z:Str}{i:Nat}{d:D}(h:(signs z)[i]?=some d):∃ v,zkV z i=some v/\∀ H io,Rep K H io v d:=by
 unfold signs at h;rw[AE] at h;obtain⟨c,hc,e⟩:=zag h;subst e;refine⟨.str ⟨#[c]⟩,?_,fun H io=>rfl⟩;unfold zkV;rw[Bp] at hc;rw[hc];rfl
theorem zhZ(z:Str):z.cps.size=(signs z).length:=by unfold signs;rw[Aj,A3]
noncomputable def mWS(m:ME):MI:=fun ρ st=>(m ρ st).bind fun (d,s)=>match d with
 | .str z=>some (⟨signs z,[]⟩,s)
 | _=>none
theorem zna{l:Expr}(hl:SE X l m):SI X tg l (mWS m):=PI.imp (znt hl) <| by
 rintro σ H R ⟨ρ,st,io,W,st',E,S,e,k⟩;obtain⟨⟨d,s1⟩,e1,e⟩:=zad e;dsimp only at e
 split at e
 . rename_i z;cases e;refine⟨ρ,st,io,_,_,E,S,e1,fun v H1 k1 X1 S1 R1=>?_⟩;exact⟨z,R1,k _ H1 k1 X1 S1 (zod (zhZ z) fun i d h=>signs_get h)⟩
 . cases e
noncomputable def mWA(m:ME):MI:=fun ρ st=>(m ρ st).bind fun (d,s)=>orO (zhL d s) (match d with | .str z=>some (⟨signs z,[]⟩,s) | _=>none)
theorem zbV{l:Expr}(hl:SE X l m):SI X tg l (mWA m):=by
 rintro pins s σ H R I ⟨ρ,st,io,W,st',E,S,e0,k⟩;obtain⟨⟨d,s1⟩,e1,e0⟩:=zad e0
 rcases zbD e0 with e0 | e0
 . exact zlt hl pins s σ H R I ⟨ρ,st,io,W,st',E,S,by unfold mW;rw[e1];exact e0,k⟩
 . exact zna hl pins s σ H R I ⟨ρ,st,io,W,st',E,S,by unfold mWS;rw[e1];exact e0,k⟩
end
section
variable {X:Cx} {K:Ab} {H:Hp} {io:List Addr} {st st':Sto} {a b c e:Expr} {es:List Expr} {ma mb mc m:ME} {mm:MA} {mt:MT} {ms:MS} {pos:Pos} {tg:Expr} {body:List Stmt}
noncomputable def mWhF(c:MT)(m:MS):Nat->MS
 | 0=>fun _ _=>none
 | n+1=>fun ρ st=>(c ρ st).bind fun (b,s)=>if b=true then (m ρ s).bind fun (f,s2)=>match f with
     | .nx ρ2=>mWhF c m n ρ2 s2
     | .ct ρ2=>mWhF c m n ρ2 s2
     | .bk ρ2=>some (.nx ρ2,s2)
     | .rt d=>some (.rt d,s2)
   else some (.nx ρ,s)
theorem zjC{n:Nat}{c:Expr}(hp:PassesOwn (model X.prog X.w) X.A X.env X.xe)(hc:SB X c mt)(hb:SSs X body ms):SS X (.While c body [] pos) (mWhF mt ms n):=PS.imp (zj6 hp hc hb) fun N σ H h=>by
 obtain⟨ρ,st,io,f,st',E,S,e,w⟩:=zca.mp h;refine⟨fun k σ2 H2=>∃ ρ2 s2 k2,Ext io k2 H H2/\StR X.K H2 (io++k2) s2/\EnvR X.K H2 (io++k2) σ2 ρ2/\mWhF mt ms k ρ2 s2=some (f,st'),⟨n,ρ,st,[],Ext.refl,S.nil,by rw[Ah];exact E,e⟩,?_⟩;rintro k σ2 H2 ⟨ρ2,s2,k2,X2,S2,E2,e2⟩;have w2:Wn X.K (io++k2) H2 st' N f:=w.on X2 S2
 cases k with
 | zero=>cases e2
 | succ k =>
   obtain⟨⟨b,s3⟩,e3,e2⟩:=zad e2;refine⟨ρ2,s2,io++k2,b,s3,E2,S2,e3,fun H3 k3 X3 S3=>?_⟩;have X23:=X2.trans S2 X3;have S3':StR X.K H3 (io++(k2++k3)) s3:=by rw[<-Al];exact S3
   dsimp only
   cases b with
   | false =>
     rw[if_neg (by decide)];have e2:some (Fl.nx ρ2,s3)=some (f,st'):=e2;cases e2;exact w2 σ2 H3 k3 X3 S3 (E2.ext S2 X3)
   | true =>
     rw[if_pos rfl];obtain⟨⟨f4,s4⟩,e4,e2⟩:=zad (show (ms ρ2 s3).bind _=some (f,st') from e2);refine⟨fun σ5 H5=>∃ ρ5 s5 k5,Ext io k5 H H5/\StR X.K H5 (io++k5) s5/\EnvR X.K H5 (io++k5) σ5 ρ5/\mWhF mt ms k ρ5 s5=some (f,st'),fun σ5 H5 h5=>⟨k,CK k,h5⟩,?_⟩;refine zjw (E2.ext S2 X3) S3 e4 ?_;have fin:∀ {ρ7:Rho},mWhF mt ms k ρ7 s4=some (f,st')->∀ σ7 H7 k7,Ext (io++k2++k3) k7 H3 H7->StR X.K H7 (io++k2++k3++k7) s4->EnvR X.K H7 (io++k2++k3++k7) σ7 ρ7 ->
         ∃ ρ5 s5 k5,Ext io k5 H H7/\StR X.K H7 (io++k5) s5/\EnvR X.K H7 (io++k5) σ7 ρ5/\mWhF mt ms k ρ5 s5=some (f,st'):=by
       intro ρ7 e7 σ7 H7 k7 X7 S7 E7;rw[Al io] at X7;rw[Al io,Al io] at S7 E7;exact⟨ρ7,s4,(k2++k3)++k7,X23.trans S3' X7,S7,E7,e7⟩
     cases f4 with
     | nx ρ7=>exact fin e2
     | ct ρ7=>exact fin e2
     | bk ρ7 =>
       cases e2;exact w2.on X3 S3
     | rt dd =>
       cases e2;exact w2.on X3 S3
theorem Reps.erase:∀ {xs:List V} {ds:List D} (k:Nat),Reps K H io xs ds->Reps K H io (xs.eraseIdx k) (ds.eraseIdx k)
 | _,[],k,h=>by rw[show _=[] from h];simp[Reps]
 | _,d::ds,0,h=>by
   obtain⟨y,ys,rfl,_,rs⟩:=h;exact rs
 | _,d::ds,k+1,h=>by
   obtain⟨y,ys,rfl,r,rs⟩:=h;exact⟨y,_,rfl,r,Reps.erase k rs⟩
noncomputable def popD:D->List D->Sto->Option (D×Sto):=fun x xs st=>match x,xs with
 | .ref n,[.int i]=>match st[n]? with
   | some (.lst ds)=>if small i=true then (seqIndex? i ds.length).bind fun k=>(ds[k]?).map fun d=>(d,st.set n (.lst (ds.eraseIdx k))) else none
   | _=>none
 | _,_=>none
theorem zmd:MtR X "list.pop" (mtM X.K popD):=by
 rintro pins s σ H x xs v us Q I rx rs ⟨dx,ds,st,io,d,st',Rx,Rs,S,e,k⟩;unfold popD at e
 split at e
 . rename_i n i
   split at e
   . rename_i l e1;obtain⟨hi,e⟩:=zam e;obtain⟨q,e2,e⟩:=zad e;obtain⟨dd,e3,e⟩:=zag e;cases e;obtain⟨p,rfl,hp⟩:=Rx;obtain⟨w,rfl,Rw⟩:=Rs.one
     cases (show w=.int i from Rw)
     obtain⟨ys,hH,r⟩:=S.ob n p _ hp e1;obtain⟨y,hy,ry⟩:=r.get e3;have hsm:=zbU hi;refine zkj pins s σ H _ _ v us Q I rx rs ⟨p,ys,i,q,y,rfl,rfl,hH,by omega,by omega,by rw[r.length];exact e2,hy,?_⟩;obtain⟨E',S'⟩:=zdS (o:=.lst (ys.eraseIdx q)) (ob:=.lst (l.eraseIdx q)) S hp e1 (fun o u z=>by rw[hH] at z;cases z) fun H' T e'=>⟨_,e',(Reps.mono T r).erase q⟩
     exact k _ _ [] E' S' (ry.ext S E')
   . cases e
 . cases e
noncomputable def mPop(m:ME)(mm:MA):ME:=fun ρ st=>(m ρ st).bind fun (x,s1)=>match x with
 | .ref n=>(zba s1 n).bind fun _=>(mm ρ s1).bind fun (xs,s2)=>popD x xs s2
 | _=>none
theorem znc{o:Expr}{apos cpos:Pos}(ho:SE X o m)(ha:SA X (e::es) mm)
   (hbase:attributeBase o "pop" X.env (eval o X.env)=eval o X.env:=by rfl)
   (hfew:((backTo cpos (starEach (e::es) X.env)).all (fun x=>!x.1)&&(backToKw cpos (keywordEach [] X.env)).all (fun x=>x.1.isSome)
    &&decide ((e::es).length+([]:List Keyword).length+(if ([]:List Keyword).isEmpty then 0 else 1) < 30))=true:=by rfl)
   (hline:(apos.endLine==cpos.line)=true:=by rfl) (hs:starEach (e::es) X.env=(false,eval e X.env)::starEach es X.env:=by rfl) (hplain:(backTo cpos (starEach es X.env)).any (·.1)=false:=by rfl) :
   SE X (.Call (.Attribute o "pop" apos) (e::es) [] cpos) (mPop m mm) :=
 PE.imp (znF B6 Ea Eb zmd ho ha hbase hfew hline hs hplain) <| by
   rintro σ H Q ⟨ρ,st,io,d,st',E,S,e,k⟩;obtain⟨⟨x,s1⟩,e1,e⟩:=zad e
   cases x with
   | ref n =>
     obtain⟨l,e0,e⟩:=zad e;obtain⟨⟨xs,s2⟩,e2,e⟩:=zad e;refine⟨ρ,st,io,_,s1,E,S,e1,fun v1 H1 k1 X1 S1 R1=>⟨zdF R1 S1 e0,ρ,s1,io++k1,xs,s2,E.ext S X1,S1,e2,fun vs H2 k2 X2 S2 R2=>?_⟩⟩;exact⟨_,xs,s2,(io++k1)++k2,d,st',R1.ext S1 X2,R2,S2,e,(k.on S1 X1).on S2 X2⟩
   | _=>cases e
noncomputable def zkp:GN
 | [.str z],st=>if fits z.cps.size=true then some (.ref st.length,st++[.lst (signs z)]) else none
 | _,_=>none
theorem zgy{z:Str}{acc:Array Value}(h:ItemsOf (SignAt z) acc z.cps.size):Vals (z.cps.toList.map fun c=>V.str ⟨#[c]⟩) acc.toList:=by
 have aux:∀ (l:List Nat) (vs:List Value),vs.length=l.length->(∀ (j:Nat) (v:Value),vs[j]?=some v->∃ (c:Nat) (u:Tok),l[j]?=some c/\v=Ew ⟨#[c]⟩ u)->Vals (l.map fun c=>V.str ⟨#[c]⟩) vs:=by
   intro l
   induction l with
   | nil=>intro vs hl _;cases (Bq hl);exact .nil
   | cons c l ih =>
     intro vs hl hv
     cases vs with
     | nil=>simp at hl
     | cons v vs =>
       obtain⟨c',u,hc,rfl⟩:=hv 0 v rfl
       cases (show c=c' by simpa using hc)
       exact .cons ⟨u,rfl⟩ (ih vs (by simpa using hl) fun j v h=>by simpa using hv (j+1) v (by simpa using h))
 refine aux _ _ (by rw[A3,h.1,A3]) fun j v hj=>?_;obtain⟨c,u,hc,hv⟩:=h.2 j v (by rw[<-Bp];exact hj);exact⟨c,u,by rw[Bp];exact hc,hv⟩
theorem zgz(z:Str):Reps K H io (z.cps.toList.map fun c=>V.str ⟨#[c]⟩) (signs z):=by
 unfold signs;generalize z.cps.toList=l
 induction l with
 | nil=>exact rfl
 | cons c l ih=>exact Reps.cons rfl ih
theorem zga(hc:X.calm=true):zcM X (.type "list") zkp:=by
 rintro pins s σ H xs us Q I r ⟨ds,st,io,d,st',R,S,e,k⟩;unfold zkp at e
 split at e
 . rename_i z;obtain⟨hf,e⟩:=zam e;cases e;obtain⟨v,rfl,rfl⟩:=R.one;obtain⟨u,rfl,ru⟩:=r.one;obtain⟨t,rfl⟩:=ru;have hz:z.cps.size<=sizeLine:=of_decide_eq_true hf;refine call_list_str (hn:=hz) (I.ok.hd hc) z t fun h' tk acc c' hk hat hacc=>?_;refine⟨.ref s.heap.objs.size,upd H s.heap.objs.size (.lst (z.cps.toList.map fun c=>V.str ⟨#[c]⟩)),I.laid (t':=tk) (fun b o q=>hk b o q) (Af _) ⟨by rw[Aj,A3];exact hz,acc.toList,c',zgy hacc,by simpa using hat⟩,rfl,?_⟩;exact k.lst S (zgz z) (I.hok.fresh (Af _))
 . cases e
noncomputable def zn2:GN:=orN zn1 zkp
theorem zhy(hc:X.calm=true):zcM X (.type "list") zn2:=zcy zhw (zga hc)
noncomputable def slK:D->Option Int->Option Int->Sto->Option (D×Sto):=fun x lo hi st=>match x with
 | .kl ds=>some (.ref st.length,st++[.lst (cutD ds lo hi)])
 | _=>none
noncomputable def slB:D->Option Int->Option Int->Sto->Option (D×Sto):=fun x lo hi st=>orO (slA x lo hi st) (slK x lo hi st)
noncomputable def mSlB(m:ME)(l h:MO):ME:=fun ρ st=>(m ρ st).bind fun (x,s1)=>(l ρ s1).bind fun (lo,s2)=>(h ρ s2).bind fun (hi,s3)=>slB x lo hi s3
theorem zh1{lo hi:Option Expr}{ml mh:MO}{p2:Pos}(he:SE X e m)(hl:SO X lo ml)(hu:SO X hi mh):SE X (.Subscript e (.Slice lo hi none p2) pos) (mSlB m ml mh):=by
 rintro pins s σ H Q I ⟨ρ,st,io,d,st',E,S,e0,k⟩;obtain⟨⟨x,s1⟩,e1,e0⟩:=zad e0;obtain⟨⟨lo',s2⟩,e2,e0⟩:=zad e0;obtain⟨⟨hi',s3⟩,e3,e0⟩:=zad e0
 rcases zbD e0 with e0 | e0
 . exact zh2 he hl hu pins s σ H Q I ⟨ρ,st,io,d,st',E,S,by simp only[mSlA,e1,e2,e3,Ac];exact e0,k⟩
 . refine zdW ziZ he hl hu pins s σ H Q I ?_;refine⟨ρ,st,io,x,s1,E,S,e1,fun v1 H1 k1 X1 S1 R1=>⟨ρ,s1,io++k1,lo',s2,E.ext S X1,S1,e2,fun H2 k2 X2 S2=>⟨ρ,s2,(io++k1)++k2,hi',s3,(E.ext S X1).ext S1 X2,S2,e3,fun H3 k3 X3 S3=>?_⟩⟩⟩;have R3:=(R1.ext S1 X2).ext S2 X3;have k':=((k.on S1 X1).on S2 X2).on S3 X3
   cases x with
   | kl ds =>
     cases e0;obtain⟨p,xs,rfl,hx,r⟩:=R3;exact⟨p,xs,rfl,hx.sq,fun q hq=>k'.lst S3 (zhm r _ _) hq⟩
   | _=>cases e0
noncomputable def zi9:G2
 | .str i,.str j,st=>some (.bl (!(!(B4 j i 0 j.length 1).isEmpty)),st)
 | _,_,_=>none
theorem zgU:OpM X (compareOp .NotIn) zi9:=by
 rintro pins s σ H x y v u Q I rx ry ⟨dx,dy,st,io,d,st',Rx,Ry,S,e,k⟩
 cases dx with
 | str i =>
   cases dy with
   | str j=>cases e;exact zeU pins s σ H x y v u Q I rx ry ⟨i,j,Rx,Ry,k.now S rfl⟩
   | _=>cases e
 | _=>cases e
noncomputable def zb1:G2:=orG zio zi9
theorem zdQ(hu:X.A.units+100 < cLine)(ha:SE X a ma)(hb:SE X b mb)(hm:behindInMarks .NotIn b=false:=by rfl):SB X (.Compare a [.NotIn] [b] pos) (mTst (mBin zb1 ma mb)) :=
 zjW (zh7 hu ha hb hm) (zbt zgU ha hb hm)
end
end L2.MP
namespace PySem.F
end PySem.F
namespace PySem
open Builtin
end PySem
namespace L2.MP
open PySem PySem.Spec PyProof.Rows
section
variable {ρ ρ1:Rho} {st s1:Sto} {m n o ma mb:ME} {mm:MA} {ms mq:MS} {mt mu:MT} {d:D} {ml mh:MO}
@[simp] theorem zk6:mWA m ρ st=(m ρ st).bind fun p=>orO (zhL p.1 p.2) (match p.1 with | .str z=>some (⟨signs z,[]⟩,p.2) | _=>none):=rfl
theorem zou:mPop m mm ρ st=(m ρ st).bind fun p=>match p.1 with
 | .ref n=>(zba p.2 n).bind fun _=>(mm ρ p.2).bind fun q=>popD p.1 q.1 q.2
 | _=>none:=rfl
@[simp] theorem zpu:mSlB m ml mh ρ st=(m ρ st).bind fun p=>(ml ρ p.2).bind fun q=>(mh ρ q.2).bind fun r=>slB p.1 q.1 r.1 r.2:=rfl
end
theorem zjn:bootBuiltins "repr"=some (.builtin "repr"):=by decide +kernel
section
variable {X:Cx} {K:Ab} {H:Hp} {io:List Addr} {st st':Sto} {a b c e:Expr} {es:List Expr} {ma mb mc m:ME} {mm:MA} {pos:Pos} {pins:List (Addr×Obj)} {σ:L2.St} {s:Shared}
noncomputable def zj1:GN
 | [x],st=>(toP 100 st x).bind fun p=>if (BE p&&!p.hasDict&&fits p.shown.length)=true then some (.str p.shown,st) else none
 | _,_=>none
theorem zht(hg:X.A.guards=some [])(hu:X.A.units+110 < cLine):zcM X (.builtin "repr") zj1:=by
 rintro pins s σ H xs us Q I r ⟨ds,st,io,d,st',R,S,e,k⟩;unfold zj1 at e
 split at e
 . rename_i x;obtain⟨p,e1,e⟩:=zad e;obtain⟨hf,e⟩:=zam e;cases e;rw[Ao,Ao] at hf;obtain⟨⟨h1,h2⟩,h3⟩:=hf;have hz:p.shown.length<=sizeLine:=of_decide_eq_true h3;have hnd:p.hasDict=false:=by simpa using h2
   obtain⟨v,rfl,rx⟩:=R.one;obtain⟨u,rfl,ru⟩:=r.one;have hdep:=(zcT e1).2;obtain⟨as,rd⟩:=zbo I S rx ru e1;have fin:∀ h' u tk,(∀ b o,s.heap.get? b=some o->h'.get? b=some o)->EP X pins σ Q (.str p.shown u) { s with heap:=h',toks:=tk }:=fun h' u tk hk=>⟨.str p.shown,H,I.kept (t':=tk) fun b o q=>hk b o q,⟨u,rfl⟩,k.now S rfl⟩
   cases u with
   | ref a=>exact repr_of_reads' rd h1 (fun z=>by rw[hnd] at z;cases z) hg (by omega) (fun b o q=>q) fin hz
   | int i t =>
     cases rd;exact PySem.P.repr_of_int (by simpa[BE] using h1) (fin s.heap s.toks _ fun b o q=>q)
   | str z t =>
     cases rd;exact PySem.P.repr_of_str (fin s.heap s.toks _ fun b o q=>q) (by simpa[PyData.shown] using hz)
   | bool b =>
     cases rd;exact PySem.P.repr_of_bool (fin s.heap s.toks _ fun b o q=>q)
   | none =>
     cases rd;exact PySem.P.repr_of_none (fin s.heap s.toks _ fun b o q=>q)
   | _=>cases rd
 . cases e
end
section
variable {prog:Program} {w:World} {A:Around} {E:Value->Shared->Prop} {s:Shared}
theorem ziz{d:Addr}{o:Obj}{es:Array DictEntry}{ep:Nat}{R:Value->Shared->Prop}(ty:s.TypeIs (.ref d) "dict")(hd:(d==sysModules)=false)(g:s.heap.get? d=some o)(dd:o.data=.dict es ep)
   (k:R (.ref s.heap.objs.size) { s with heap:=s.heap.push { cls:=.type "dict_keyiterator",data:=.fields #[.ref d,.int 0 0,.int es.size 0,.int ep 0] } }):wpAny (model prog w) A (pyIter (.ref d)) R E s:=by
 refine wpAny_pyIter_slot ty F.slot_dict_iter (Bc F.slot_dict_iter ty F.entry_dict_iter ?go (F.args_dict_iter_1 _));unfold Builtin.«dict.__iter__»;refine Aa ?_;unfold Builtin.Dict.dictSlotNone;refine Aa (wpAny_notOrdered_dict ty ?_);show wpAny _ _ (pure (A4 d)) _ _ s;refine Ae ?_;show wpAny _ _ (Ec d >>= _) _ _ s;unfold Ec;rw[if_neg (by rw[hd];exact A9)];refine Aa (Ae (Aa (Du g dd (Aa (DQ g dd ?_)))));refine Aa (AR (Ae ⟨_,rfl,"dict_keyiterator",_,⟨_,Ar _ rfl,rfl⟩,F.slot_dict_keyiterator_next.lookup,?_⟩));simpa[rawInt] using k
theorem ziy{it d:Addr}{i ep:Nat}{o:Obj}{es:Array DictEntry}{en:DictEntry}{R:Option Value->Shared->Prop}(hit:s.heap.IsKeyIter it d i es.size ep)(g:s.heap.get? d=some o)(dd:o.data=.dict es ep)(hx:es[i]?=some en)
   (k:∀ h',h'.IsKeyIter it d (i+1) es.size ep->Cq it s.heap h'->R (some en.key) { s with heap:=h' }):wpAny (model prog w) A (pyNext (.ref it)) R E s:=by
 obtain⟨io,ig,ic,idt⟩:=id hit;have own:C8 "dict_keyiterator"=false:=by decide
 unfold pyNext;refine Aa (Dj (A5 (name:=BB "__next__") hit.typeIs F.slot_dict_keyiterator_next (Bc F.slot_dict_keyiterator_next hit.typeIs F.entry_dict_keyiterator_next ?_ (F.args_dict_keyiterator_next_1 _))));refine Aa (Ae (Aa (Aa ?_)));refine Aa (BH hit.typeIs (Ae (Aa (wpAny_fieldsOf ig idt ?_))));simp only[own,Bt,if_false];show wpAny _ _ (if (A4 d==Bj)=true then _ else _) _ _ s;rw[if_neg (show ¬ (A4 d==Bj)=true from fun z=>A9 z)];refine Aa (Ae (Aa (Du g dd ?_)));rw[if_neg (by simp)];refine Aa (Ae (Aa (DQ g dd ?_)));rw[if_neg (by simp)];refine Ae ?_;have ni:¬ ((i:Int) < 0):=by omega
 simp only[ni,if_false,Bm,hx];refine Aa (Aa (BH hit.typeIs (Ae (Aa (Ed hit.typeIs ?_)))));show wpAny _ _ (setField (.ref it) 1 (rawInt ((i:Int)+1)) >>= _) _ _ s;refine Aa (C7 ig idt (by simp) ?_);have h2:(s.heap.update it (Fy (·.setIfInBounds 1 (rawInt ((i:Int)+1))))).IsKeyIter it d (i+1) es.size ep:=⟨_,CM _ ig (D9 (Cu idt _)),(EL ..).trans ic,by rw[Cu idt];simp[rawInt]⟩
 refine Aa (Bi (Aa (Ed (s:={ s with heap:=s.heap.update it (Fy (·.setIfInBounds 1 (rawInt ((i:Int)+1)))) }) h2.typeIs ?_)));show wpAny _ _ (pure en.key) _ _ _;exact Ae (Ae ⟨_,rfl,Ae (k _ h2 (Cm ..))⟩)
theorem zix{it d:Addr}{i ep:Nat}{o:Obj}{es:Array DictEntry}{R:Option Value->Shared->Prop}(hh:A.handled=none)(hit:s.heap.IsKeyIter it d i es.size ep)(g:s.heap.get? d=some o)(dd:o.data=.dict es ep)(hx:es[i]?=none)
   (k:∀ h',ER it s.heap h'->R none { s with heap:=h' }):wpAny (model prog w) A (pyNext (.ref it)) R E s:=by
 obtain⟨io,ig,ic,idt⟩:=id hit;have own:C8 "dict_keyiterator"=false:=by decide
 unfold pyNext;refine Aa (Dj (A5 (name:=BB "__next__") hit.typeIs F.slot_dict_keyiterator_next (Bc F.slot_dict_keyiterator_next hit.typeIs F.entry_dict_keyiterator_next ?_ (F.args_dict_keyiterator_next_1 _))));refine Aa (Ae (Aa (Aa ?_)));refine Aa (BH hit.typeIs (Ae (Aa (wpAny_fieldsOf ig idt ?_))));simp only[own,Bt,if_false];show wpAny _ _ (if (A4 d==Bj)=true then _ else _) _ _ s;rw[if_neg (show ¬ (A4 d==Bj)=true from fun z=>A9 z)];refine Aa (Ae (Aa (Du g dd ?_)));rw[if_neg (by simp)];refine Aa (Ae (Aa (DQ g dd ?_)));rw[if_neg (by simp)];refine Ae ?_;have ni:¬ ((i:Int) < 0):=by omega
 simp only[ni,if_false,Bm,hx];refine Aa (Aa (BH hit.typeIs (Ae ?_)));show wpAny _ _ (setField (.ref it) 0 .none >>= _) _ _ s;refine Aa (C7 ig idt (by simp) ?_);show wpAny _ _ (newExc (.type "StopIteration") [] >>= _) _ _ _;simp only[newExc,newTuple];refine Aa (Aa (AR (Aa (m:=firstArgMember _ _) (wpAny_of_eq (a:=Bj) (by first | rfl | (simp only[firstArgMember];rfl)) (AR ?_ (by size_fits)))) (by size_fits)));simp only[raiseNew];refine Aa (wpAny_handled ?_);rw[show A.in1.handled=none from hh];refine Aa (Ae (wpAny_throw ?_));refine Aa (wpAny_isInstance (T:="StopIteration") (b:=true) ⟨_,Ar _ rfl,rfl⟩ isSubtype_stop (Ae ?_));exact k _ (((Cm ..).extBut.push _).push _)
end
section
variable {X:Cx} {K:Ab} {H:Hp} {io:List Addr} {m:ME} {st st':Sto} {tg:Expr}
noncomputable def zoG(kvs:List (List Key×D)):List D:=kvs.map fun p=>.tup (p.1.map keyD)
end
section
variable {prog:Program} {w:World} {A:Around} {E:Value->Shared->Prop} {s:Shared}
theorem zgc{sl:Addr}{t:Tok}{n:Nat}{Q:Int×Int×Nat->Shared->Prop}(hs:s.heap.IsSliceOf sl .none .none (.int (-1) t))(h:Q ((n:Int) - 1,-1,n) s):wpAny (model prog w) A (BQ (.ref sl) (pure (n:Int))) Q E s:=by
 obtain⟨os,hos,hcs,hds⟩:=id hs;unfold BQ Dv;refine Aa (Aa (Ba hos hds (x:=.none) rfl (Aa (Ba hos hds (x:=.none) rfl (Aa (Ba hos hds (x:=.int (-1) t) rfl (Ae ?_)))))));refine Aa (HT.slicePart_ (.int (-1) t) ?_);show wpAny _ _ (if ((-1:Int)==0)=true then _ else _) _ _ s;rw[if_neg (by decide)];refine Aa (HT.slicePart_ .none (Aa (HT.slicePart_ .none (Aa (Ae ?_)))));have e1:Bn none none (-1) (n:Int)=((n:Int) - 1,-1):=by
   unfold Bn;simp
 have e2:A8 ((n:Int) - 1) (-1) (-1)=n:=by
   unfold A8;have h1:¬ ((-1:Int) > 0):=by decide
   simp only[h1,if_false]
   by_cases hn:(-1:Int) < (n:Int) - 1
   . simp[hn]
   . simp[hn];omega
 show wpAny _ _ (match Bn none none (-1) (n:Int) with | (lo,hi)=>pure (lo,(-1:Int),A8 lo hi (-1))) _ _ s;rw[e1];show wpAny _ _ (pure ((n:Int) - 1,(-1:Int),A8 ((n:Int) - 1) (-1) (-1))) _ _ s;rw[e2];exact Ae h
theorem zhi{α β:Type}{f g:α->Option β}:∀ {l:List α},(∀ x∈l,f x=g x)->l.filterMap f=l.filterMap g
 | [],_=>rfl
 | a::l,h=>by
   rw[B3,B3,h a An,zhi fun x hx=>h x (Ai _ hx)]
theorem zj8(xs:Array Value):((AQ xs.size).filterMap fun (m:Nat)=>xs[(((xs.size:Int) - 1)+(m:Int)*-1).toNat]?).toArray=xs.toList.reverse.toArray:=by
 congr 1
 have e:∀ m∈AQ xs.size,xs[(((xs.size:Int) - 1)+(m:Int)*-1).toNat]?=xs[xs.size - 1 - m]?:=fun m hm=>by
   have:=List.mem_range.mp hm;have:(((xs.size:Int) - 1)+(m:Int)*-1).toNat=xs.size - 1 - m:=by omega
   rw[this]
 rw[zhi e];have h2:(AQ xs.size).filterMap (fun m=>xs[xs.size - 1 - m]?)=((AQ xs.size).map fun k=>xs.size - 1 - k).filterMap (xs[·]?):=by
   rw[EC];rfl
 rw[h2,PySem.W.krv_range,List.filterMap_reverse,PySem.W.krv_all]
theorem zcK{t sl:Addr}{items:Array Value}{tk:Tok}{Q:Value->Shared->Prop}(ht:IsTup s.heap t items)(hs:s.heap.IsSliceOf sl .none .none (.int (-1) tk))
   (h:Q (.ref s.heap.objs.size) { s with heap:=s.heap.push { cls:=.type "tuple",data:=.seq items.toList.reverse.toArray } }) (hsz:items.size<=sizeLine):wpAny (model prog w) A (getItem (.ref t) (.ref sl)) Q E s:=by
 have htake:sizeOk (.seq items.toList.reverse.toArray):=by
   show items.toList.reverse.toArray.size<=sizeLine;rw[Am,C2,A3];exact hsz
 obtain⟨os,hos,hcs,hds⟩:=id hs;have hTs:s.TypeIs (.ref sl) "slice":=⟨os,hos,hcs⟩
 unfold getItem
 try with_reducible refine Bi ?_
 first | refine Aa (Ae ?_) | skip
 refine Aa (Dq ht.typeIs (by decide) ?_);refine Aa (A5 (name:=BB "__getitem__") ht.typeIs Be (Bc Be ht.typeIs CZ ?_ (De _ _)));show wpAny _ _ (Cf (.ref t) >>= _) _ _ s;refine Aa (El ht ?_);refine Aa (DD hTs ?_);rw[if_pos (by decide)];refine Aa (zgc hs ?_);have hno:¬ ((((items.size:Int) - 1)==0&&(-1:Int)==1&&items.size==items.size)=true):=by
   intro q;rw[Ao,Ao] at q;exact absurd q.1.2 (by decide)
 show wpAny _ _ (if (((items.size:Int) - 1)==0&&(-1:Int)==1&&items.size==items.size)=true then _ else _) _ _ s;rw[if_neg hno,zj8]
 first
   | exact Aa (m:=Bd _) (AR (Ae ⟨_,rfl,Ae h⟩) htake)
   | exact Aa (m:=Bd _) (AR (Aa (Ae (Ae ⟨_,rfl,Ae h⟩))) htake)
   | exact Aa (Aa (m:=Bd _) (AR (Ae (Ae ⟨_,rfl,Ae h⟩)) htake))
   | exact Aa (Aa (m:=Bd _) (AR (Ae ⟨_,rfl,Ae h⟩) htake))
end
section
variable {X:Cx} {K:Ab} {H:Hp} {io:List Addr} {st st':Sto} {a b c e:Expr} {es:List Expr} {ma mb mc m mk:ME} {mm:MA} {pos:Pos} {pins:List (Addr×Obj)} {σ:L2.St} {s:Shared}
noncomputable def zoT(K:Ab)(te:TE)(ts:TO):TE:=fun σ H Q=>te σ H fun x H1=>ts σ H1 fun k H2=>k=some (-1)/\∃ a xs,x=.ref a/\H2 a=some (.tup xs)/\∀ p,H2 p=none->Q (.ref p) (upd H2 p (.tup xs.reverse))
theorem zlT{te:TE}{ts:TO}{p2:Pos}{se:Expr}(he:PE X e te)(hs:PO X (some se) ts):PE X (.Subscript e (.Slice none none (some se) p2) pos) (zoT X.K te ts):=by
 intro pins s σ H Q I h;refine Eh (thn (he pins s σ H _ I h) ?_);rintro v s1 ⟨x,H1,I1,r1,q1⟩;refine wpAny_Slice ?_;rw[Em];refine Ae (Ae ?_);refine thn (hs pins s1 σ H1 _ I1 q1) ?_;rintro vs s3 ⟨k,H3,I3,pk,hk,a,xs,hx,hq,q3⟩;subst hk;subst hx;cases r1;have I4:Inv X pins σ H3 { s3 with heap:=s3.heap.push { cls:=.type "slice",data:=.fields #[.none,.none,vs] } }:=I3.kept (t':=s3.toks) fun b ob q=>Ad _ q;obtain⟨its,r,ht,hz⟩:=I4.tuple (SqT.of (K:=X.K) hq);have hlen:=r.length;show wpAny (model X.prog X.w) X.A (subscriptTail e (.Slice none none (some se) p2) (.ref a) (.ref s3.heap.objs.size)) (EP X pins σ Q) X.xe { s3 with heap:=s3.heap.push { cls:=.type "slice",data:=.fields #[.none,.none,vs] } }
 cases pk with
 | int i ti =>
 refine tail_any (ops:=[.ref a,.ref s3.heap.objs.size]) ht.typeIs PyProof.Rows.slot_tuple_getitem.lookup ?_ (by with_unfolding_all rfl);refine zcK ht (ED ..) ?_ (by rw[Am];omega);refine⟨.ref (s3.heap.push { cls:=.type "slice",data:=.fields #[.none,.none,.int (-1) ti] }).objs.size,_,I4.laid (t':=s3.toks) (o:=.tup xs.reverse) (fun b ob q=>Ad _ q) (Af _) ?_,rfl,q3 _ (I4.hok.fresh (Af _))⟩;exact⟨by rw[C2];exact hz,_,zgh r,zed.new _ _⟩
noncomputable def zk0(m mk:ME):ME:=fun ρ st=>(m ρ st).bind fun (x,s1)=>(mk ρ s1).bind fun (k,s2)=>match x,k with
 | .tup ds,.int i=>if (decide (i=-1))=true then some (.tup ds.reverse,s2) else none
 | _,_=>none
theorem zlw{p2:Pos}{se:Expr}(he:SE X e m)(hk:SE X se mk):SE X (.Subscript e (.Slice none none (some se) p2) pos) (zk0 m mk) :=
 PE.imp (zlT he (zi7 hk)) <| by
   rintro σ H Q ⟨ρ,st,io,d,st',E,S,e,k⟩;obtain⟨⟨x,s1⟩,e1,e⟩:=zad e;obtain⟨⟨y,s2⟩,e2,e⟩:=zad e;refine⟨ρ,st,io,x,s1,E,S,e1,fun v1 H1 k1 X1 S1 R1=>?_⟩;refine⟨ρ,s1,io++k1,y,s2,E.ext S X1,S1,e2,fun v2 H2 k2 X2 S2 R2=>?_⟩
   cases x with
   | tup ds =>
     cases y with
     | int i =>
       obtain⟨hi,e⟩:=zam e;cases e;have hi1:=of_decide_eq_true hi;subst hi1;obtain⟨p,xs,rfl,hp,r⟩:=R1.ext S1 X2;exact⟨_,R2,rfl,p,xs,rfl,hp,fun l hl=>((k.on S1 X1).on S2 X2).tup S2 (zgJ r) hl⟩
     | _=>cases e
   | _=>cases e
end
theorem zi3{k:Nat}{A:Around}(hr:Room k A):A.units+110 < cLine:=by have:=hr.un;omega
section
variable {X:Cx}
noncomputable def mulB:G2:=intD (fun i j=>decide (Bg i<=2 ^ 20)&&decide (Bg j<=2 ^ 20)) fun i j=>.int (i*j)
theorem zl1:OpM X (binaryOp .Mult) mulB:=zdr (C:=fun i j=>Bg i<=2 ^ 20/\Bg j<=2 ^ 20) (opI fun i j _ _ _ _ _ hc q=>Fs q (IntMulOk.of_bits hc.1 hc.2)) fun i j h=>by
   rw[Ao] at h;exact⟨of_decide_eq_true h.1,of_decide_eq_true h.2⟩
noncomputable def neS:G2
 | .str x,.str y,st=>some (.bl (x != y),st)
 | _,_,_=>none
theorem znJ:OpM X (compareOp .NotEq) neS:=by
 rintro pins s σ H x y v u Q I rx ry ⟨dx,dy,st,io,d,st',Rx,Ry,S,e,k⟩;unfold neS at e
 split at e
 . cases e
   cases (show x=_ from Rx)
   cases (show y=_ from Ry)
   obtain⟨t,rfl⟩:=rx;obtain⟨t',rfl⟩:=ry;exact PyProof.Rows.ne_str ⟨.bl _,H,I,rfl,k.now S rfl⟩
 . cases e
end
end L2.MP
namespace L2.MP
section
open PySem PySem.Spec PyProof.Rows PySem.Builtin PySem.Builtin.Str
variable {prog:Program} {w:World} {A:Around} {E:Value->Shared->Prop} {s:Shared} {z y:Str} {t u:Tok} {Q:Value->Shared->Prop}
end
section
open PySem PySem.Spec PyProof.Rows
variable {X:Cx} {K:Ab} {H:Hp} {io:List Addr} {st st':Sto} {a b c e:Expr} {es:List Expr} {ma mb mc m:ME} {mm:MA} {pos:Pos}
end
end L2.MP
namespace L2.MP
open PySem
end L2.MP
namespace L2.MP
open PySem PySem.Spec PyProof.Rows
@[irreducible] def JSs (X:Cx) (s:List Stmt) (m:MS):Prop:=SSs X s m
@[irreducible] def JS (X:Cx) (s:Stmt) (m:MS):Prop:=SS X s m
@[irreducible] def JA (X:Cx) (es:List Expr) (m:MA):Prop:=SA X es m
section
variable {X:Cx} {e a b c:Expr} {es:List Expr} {st1 st2:Stmt} {rest body orelse:List Stmt} {pos:Pos} {m ma mb mc:ME} {mt mu:MT} {mm:MA} {ms mq mr:MS} {mg:MG} {mi:MI}
theorem JSs.out(h:JSs X body ms):SSs X body ms:=by unfold JSs at h;exact h
theorem JSs.mk(h:SSs X body ms):JSs X body ms:=by unfold JSs;exact h
theorem JS.out(h:JS X st1 ms):SS X st1 ms:=by unfold JS at h;exact h
theorem JS.mk(h:SS X st1 ms):JS X st1 ms:=by unfold JS;exact h
theorem JA.out(h:JA X es mm):SA X es mm:=by unfold JA at h;exact h
theorem JA.mk(h:SA X es mm):JA X es mm:=by unfold JA;exact h
theorem zbb:JSs X [] zcO:=.mk zll
theorem zan(h:JS X st1 ms):JSs X [st1] ms:=.mk (zlk h.out)
theorem zai(h:JS X st1 ms)(h2:JSs X rest mq):JSs X (st1::rest) (mSeq ms mq):=.mk (zjB h.out h2.out)
theorem zee(hc:SB X c mt)(h1:JSs X body ms)(h2:JSs X orelse mq):JS X (.If c body orelse pos) (mIf mt ms mq):=.mk (zo3 hc h1.out h2.out)
theorem zcJ{tg iter:Expr}(hp:PassesOwn (model X.prog X.w) X.A X.env X.xe)(hc:X.calm=true)(hi:SI X tg iter mi)(hg:SG X tg mg)(hb:JSs X body ms)(hs:∀ x,foldedSetIterable iter X.env x=pure x:=by intro _;rfl):JS X (.For tg iter body [] pos) (mFor mi mg ms):=.mk (zm2 hp hc hi hg hb.out hs)
theorem zhb{n:Nat}(hp:PassesOwn (model X.prog X.w) X.A X.env X.xe)(hc:SB X c mt)(hb:JSs X body ms):JS X (.While c body [] pos) (mWhF mt ms n):=.mk (zjC hp hc hb.out)
theorem ze5:JA X [] mNil:=.mk zae
theorem zas(ha:SE X e m)(hr:JA X es mm)(hs:∀ q,starEach (e::q) X.env=(false,eval e X.env)::starEach q X.env:=by intro _;rfl):JA X (e::es) (zab m mm):=.mk (zaa ha hr.out (hs _))
theorem zmm{i:Nat}{x:Str}{pos' p2:Pos}(hN:X.N.Nodup)(hi:X.N[i]?=some x)(hx:Loc X.env.scope x)(h:JA X es mm)(hf:X.fn x=true\/X.env.scope.names.lookup x=some .local:=by first | exact .inl rfl | exact .inr rfl | assumption):JS X (.Assign [.Name x pos'] (.List es p2) pos) (mAsg (mLst mm) (gNm i)):=.mk (zbi hN hi hx (zbC h.out) rfl hf)
end
section
variable {X:Cx} {K:Ab} {H:Hp} {io:List Addr} {st st':Sto} {a b c e o:Expr} {es:List Expr} {ma mb mc m:ME} {mm:MA} {pos apos cpos:Pos}
noncomputable def zkW:D->List D->Sto->Option (D×Sto):=fun x xs st=>match x,xs with
 | .ref n,[]=>match st[n]? with
   | some (.lst ds)=>(ds[ds.length - 1]?).map fun d=>(d,st.set n (.lst ds.dropLast))
   | _=>none
 | _,_=>none
theorem Reps.dropLast:∀ {xs:List V} {ds:List D},Reps K H io xs ds->Reps K H io xs.dropLast ds.dropLast:=by
 intro xs ds r;rw[Ee,Ee,r.length];exact r.take _
theorem zkk:MtR X "list.pop" (mtM X.K zkW):=by
 rintro pins s σ H x xs v us Q I rx rs ⟨dx,ds,st,io,d,st',Rx,Rs,S,e,k⟩;unfold zkW at e
 split at e
 . rename_i n
   split at e
   . rename_i l e1;obtain⟨y,e2,e⟩:=zag e;cases e;obtain⟨p,rfl,hp⟩:=Rx
     cases (show xs=[] from Rs)
     obtain⟨ys,hH,r⟩:=S.ob n p _ hp e1;obtain⟨w,hw,rw'⟩:=r.get e2;refine znX pins s σ H _ _ v us Q I rx rs ⟨p,ys,w,rfl,rfl,hH,by rw[r.length];exact hw,?_⟩;obtain⟨E',S'⟩:=zdS (o:=.lst ys.dropLast) (ob:=.lst l.dropLast) S hp e1 (fun o u z=>by rw[hH] at z;cases z) fun H' T e'=>⟨_,e',by rw[Ah] at *;exact (Reps.mono (ka:=[]) T r.dropLast) |> fun q=>by rw[Ah] at q;exact q⟩
     exact k _ _ [] E' S' (rw'.ext S E')
   . cases e
 . cases e
noncomputable def znZ(m:ME):ME:=fun ρ st=>(m ρ st).bind fun (x,s1)=>match x with
 | .ref n=>(zba s1 n).bind fun _=>zkW x [] s1
 | _=>none
theorem zlx(ho:SE X o m)(hbase:attributeBase o "pop" X.env (eval o X.env)=eval o X.env:=by rfl)(hline:(apos.endLine==cpos.line)=true:=by rfl):SE X (.Call (.Attribute o "pop" apos) [] [] cpos) (znZ m) :=
 PE.imp (znE B6 Ea Eb zkk ho hbase hline) <| by
   rintro σ H Q ⟨ρ,st,io,d,st',E,S,e,k⟩;obtain⟨⟨x,s1⟩,e1,e⟩:=zad e
   cases x with
   | ref n =>
     obtain⟨l,e0,e⟩:=zad e;refine⟨ρ,st,io,_,s1,E,S,e1,fun v1 H1 k1 X1 S1 R1=>⟨zdF R1 S1 e0,?_⟩⟩;exact⟨_,[],s1,io++k1,d,st',R1,rfl,S1,e,k.on S1 X1⟩
   | _=>cases e
noncomputable def truD:D->Sto->Option Bool
 | .bl b,_=>some b
 | .non,_=>some false
 | .int i,_=>some (i != 0)
 | .tup ds,_=>some (!ds.isEmpty)
 | .ref n,st=>(zba st n).map fun ds=>!ds.isEmpty
 | _,_=>none
noncomputable def mTru(m:ME):MT:=fun ρ st=>(m ρ st).bind fun (x,s1)=>(truD x s1).map fun b=>(b,s1)
theorem zeq{xs:List V}{ds:List D}(r:Reps K H io xs ds):(!xs.isEmpty)=!ds.isEmpty:=by
 have:=r.length
 cases xs <;> cases ds <;> simp_all
theorem znf(h:SE X a m)(he:∀ whole,isTrue a X.env whole=(do let v <-whole;standAt a.pos;holding [v] (truthy v)):=by intro _;rfl):SB X a (mTru m) :=
 PT.imp (zgM h he) <| by
   rintro σ H Q ⟨ρ,st,io,b,st',E,S,e,k⟩;obtain⟨⟨x,s1⟩,e1,e⟩:=zad e;obtain⟨b',e2,e⟩:=zag e;cases e;refine⟨ρ,st,io,x,st',E,S,e1,fun v H' ka X' S' R'=>⟨b,?_,k H' ka X' S'⟩⟩;unfold truD at e2
   split at e2
   . cases e2
     cases (show v=_ from R')
     exact rfl
   . cases e2
     cases (show v=_ from R')
     exact rfl
   . cases e2
     cases (show v=_ from R')
     exact rfl
   . cases e2;obtain⟨p,xs,rfl,hH,r⟩:=R';exact .inr (.inl ⟨xs,.inl (.inl hH),(zeq r).symm⟩)
   . obtain⟨ds,e3,e2⟩:=zag e2;cases e2;obtain⟨p,rfl,hp⟩:=R';obtain⟨ys,hx,r1⟩:=zaW S' hp e3;exact .inl ⟨ys,hx,(zeq r1).symm⟩
   . cases e2
end
section
variable {prog:Program} {w:World} {A:Around}
theorem zgg(hh:A.handled=none)(it d:Addr)(hne:d≠it){o:Obj}{es:Array DictEntry}{ep:Nat}(dd:o.data=.dict es ep) :
   Walks prog w A it [it,d] [it] es.size (fun i v=>∃ en,es[i]?=some en/\v=en.key) (fun i h=>h.IsKeyIter it d i es.size ep/\h.get? d=some o) where
 sub:=fun b hb=>by simp at hb;simp[hb]
 frame:=fun _ _ _ st hk=>⟨st.1.at fun o e=>hk it (by simp) o e,hk d (by simp) o st.2⟩
 item:=fun i s Q E hi st hQ=>by
   have hx:es[i]?=some es[i]:=Array.getElem?_eq_getElem hi;refine ziy st.1 st.2 dd hx fun h' st' sb=>?_;exact hQ _ h' s.toks ⟨_,hx,rfl⟩ ⟨st',(sb.2 d hne).trans st.2⟩ fun b ob hb e=>(sb.2 b (fun z=>hb (by simp[z]))).trans e
 done:=fun s Q E st hQ=>zix hh st.1 st.2 dd (by simp) fun h' eb=>hQ h' s.toks fun b ob hb e=>eb b ob (fun z=>hb (by simp[z])) e
 self:=fun _ _ _ _ st hQ=>wpAny_pyIter_keyiter st.1 hQ
theorem zjE{d:Addr}{o:Obj}{es:Array DictEntry}{ep:Nat}(dd:o.data=.dict es ep)(hd:(d==sysModules)=false)(ty:∀ s:Shared,s.heap.get? d=some o->s.TypeIs (.ref d) "dict") :
   PySem.W.KdlSrc prog w "dict" d d es.size (fun i v=>∃ en,es[i]?=some en/\v=en.key) (fun h=>h.get? d=some o) where
 type:=ty
 there:=fun _ g=>⟨Ak g,Ak g⟩
 keep:=fun _ _ g hk=>hk d (.inl rfl) o g
 notList:=by decide
 notTuple:=by decide
 hint:=fun _ _ s _ g hq=>PySem.W.kdl_hint_dict (ty s g) hq
 iter:=fun A' s hh g=>⟨_,_,fun _ _ hq=>ziz (ty s g) hd g dd hq,zgg hh _ d (AG (Ak g)) dd,⟨⟨_,Ar _ rfl,rfl,rfl⟩,Ad _ g⟩⟩
end
section
variable {X:Cx} {K:Ab} {H:Hp} {io:List Addr} {st st':Sto}
theorem zfz{K:Ab}{H:Hp}{io:List Addr}:∀ {vs:List Value} {ps:List (List Key×V)} {kvs:List (List Key×D)},KR (List Key) K H io ps kvs->vs.length=ps.length->(∀ (j:Nat) (v:Value) (p:List Key×V),vs[j]?=some v->ps[j]?=some p->∃ b,v=.ref b/\H b=some (.tup (p.1.map kV)))->∃ ys,Vals ys vs/\Reps K H io ys (zoG kvs)
 | [],_,_,.nil,_,_=>⟨[],.nil,rfl⟩
 | [],_::_,_,.cons _ _,hl,_=>by simp at hl
 | v::vs,_,_,.nil,hl,_=>by simp at hl
 | v::vs,p::ps,q::kvs,.cons h t,hl,hv=>by
   obtain⟨b,rfl,hb⟩:=hv 0 v p rfl rfl;obtain⟨ys,r1,r2⟩:=zfz (vs:=vs) t (by simpa using hl) fun j v p e1 e2=>hv (j+1) v p (by simpa using e1) (by simpa using e2);refine⟨.ref b::ys,.cons rfl r1,Reps.cons ⟨b,_,rfl,hb,?_⟩ r2⟩;rw[h.1];exact ze3 _
noncomputable def zkq:GN
 | [.ref n],st=>match st[n]? with
   | some (.dt kvs)=>if fits kvs.length=true then some (.ref st.length,st++[.lst (zoG kvs)]) else none
   | _=>none
 | _,_=>none
theorem zgb(hc:X.calm=true):zcM X (.type "list") zkq:=by
 rintro pins s σ H xs us Q I r ⟨ds,st,io,d,st',R,S,e,k⟩;unfold zkq at e
 split at e
 . rename_i n
   split at e
   . rename_i kvs en;obtain⟨hf,e⟩:=zam e;cases e;obtain⟨v,rfl,p,rfl,hp⟩:=R.one;obtain⟨u,rfl,ru⟩:=r.one;cases ru;obtain⟨ps,hH,rk⟩:=S.ob n p _ hp en;obtain⟨t1,t2,hs⟩:=zog I (.inr ⟨ps,.inl hH⟩);obtain⟨z,y,xs,r0,o,es,ep,g,ex,dd,et,nd⟩:=I.hok p _ hH;have x:=I.hok p _ hH;have fz:zcA X.prog X.w H s.heap p (.frz o (.dT ps)):=⟨g,x⟩
     obtain⟨g',hl,ent⟩:=zkH fz dd;have hsz:es.size<=sizeLine:=by
       rw[hl,KR.length rk];exact of_decide_eq_true hf
     refine PySem.W.kdl_call (zjE (prog:=X.prog) (w:=X.w) dd hs (fun s' g'=>?_)) (I.ok.hd hc) g hsz fun h' tk acc c' hk hat hacc=>?_
     . obtain⟨o',ho',hc'⟩:=t1;rw[g] at ho';cases ho';exact⟨o,g',hc'⟩
     . obtain⟨ys,rv,rr⟩:=zfz (vs:=acc.toList) rk (by rw[A3,hacc.1,hl]) fun j v q e1 e2=>by
         obtain⟨en',h1,h2⟩:=hacc.2 j v (by rw[<-Bp];exact e1);obtain⟨en2,b,h3,h4,h5,_⟩:=ent j q.1 q.2 e2;rw[h1] at h3;cases h3;exact⟨b,by rw[h2,h4],h5⟩
       have hyl:ys.length<=sizeLine:=by rw[rv.length,A3,hacc.1];exact hsz
       refine⟨.ref s.heap.objs.size,upd H s.heap.objs.size (.lst ys),I.laid (t':=tk) (fun b o q=>hk b o q) (Af _) ⟨hyl,acc.toList,c',rv,by simpa using hat⟩,rfl,?_⟩;exact k.lst S rr (I.hok.fresh (Af _))
   . cases e
 . cases e
noncomputable def zk1:GN:=orN zn2 zkq
theorem zhx(hc:X.calm=true):zcM X (.type "list") zk1:=zcy (zhy hc) (zgb hc)
end
section
variable {prog:Program} {w:World} {A:Around} {E:Value->Shared->Prop} {s:Shared}
theorem zfe{l:Addr}{vs:List Value}{R:Value->Shared->Prop}(ht:IsTup s.heap l vs.toArray)(hz:vs.length<=sizeLine)
   (go:∀ D h',(∀ b o,s.heap.get? b=some o->h'.get? b=some o)->s.heap.get? D=none->h'.get? D=some (seqObj "list" vs.toArray 0)->wpAny (model prog w) A.in1.in1 (Builtin.«list.sort» ⟨[.ref D],[]⟩) (fun f s'=>f=.done (.ret .none)/\R (.ref D) s') (fun _ _=>False) { s with heap:=h' }) :
   wpAny (model prog w) A (call (.builtin "sorted") [.ref l]) R E s:=by
 obtain⟨o,g,c,n,d⟩:=ht;refine Dx kind_sorted plain_sorted entry_sorted (args_sorted1 _) ?_;unfold Builtin.«sorted»;refine Aa (m:=checkCount "sorted" 1 1 _) (Ae (Aa (PySem.wpAny_collect_seq l (.inr rfl) g c d (fun h1 k1=>Aa (Di ?_ (by simpa using hz))) (by simpa using hz))));have g0:(h1.push (seqObj "list" vs.toArray 0)).get? h1.objs.size=some (seqObj "list" vs.toArray 0):=Ar _ rfl;have fr:s.heap.get? h1.objs.size=none:=by
   cases e:s.heap.get? h1.objs.size with
   | none=>rfl
   | some u=>exact absurd (Ak (k1 _ _ e)) (AU _)
 refine Aa (Bi (Bc slot_list_sort ⟨_,g0,rfl⟩ entry_list_sort (BA (go _ _ (fun b u e=>Ad _ (k1 b u e)) fr g0) (fun f s' ⟨e,r⟩=>?_) fun _ _ x=>x.elim) (args_list_sort _)));subst e;exact⟨_,rfl,Ae ⟨_,rfl,r⟩⟩
theorem zjK{at_:Addr}{vs:List Value}{k:Nat}{R:PySem.Fin->Shared->Prop}(hv:vs.length < 2)(g0:s.heap.get? at_=some (seqObj "list" vs.toArray k))(fin:R (.done (.ret .none)) { s with heap:=sortedHeap s.heap at_ vs vs.toArray }) :
   wpAny (model prog w) A (Builtin.«list.sort» ⟨[.ref at_],[]⟩) R E s:=by
 have lt0:=Ak g0;have hz:vs.length<=sizeLine:=AC (Cb hv) (by decide);obtain⟨ep,g1⟩:∃ ep,(s.heap.update at_ (Bv fun _=>(#[]:Array Value))).get? at_=some (seqObj "list" #[] ep):=⟨_,get?_update_seq g0 fun _=>#[]⟩
 have g2:(((s.heap.update at_ (Bv fun _=>(#[]:Array Value))).push (seqObj "tuple" vs.toArray 0)).push (seqObj "list" #[] 0)).get? at_=some (seqObj "list" #[] ep):=Ad _ (Ad _ g1);rw[list_sort_plain];refine Aa (listItems_at g0 rfl (Aa (Dh g0 rfl (Aa (D1 g1 rfl (Aa (D8 (Aa (Di (Bi ?_))) (by simpa using hz))))) (by simpa using hz))));show wpAny (model prog w) A _ R E { s with heap:=((s.heap.update at_ (Bv fun _=>(#[]:Array Value))).push (seqObj "tuple" vs.toArray 0)).push (seqObj "list" #[] 0) };have two:vs.toArray.size < 2:=by simpa using hv
 have same:(arrOf (FK general' (vs.toArray.zip vs.toArray) #[] 7 none)).map (·.2)=vs.toArray:=by
   show ((vs.toArray.zip vs.toArray).map (·.2))=vs.toArray;simp;clear two g2 g1 g0 hz fin hv
   induction vs with
   | nil=>rfl
   | cons a r ih=>simpa using ih
 dsimp only;rw[if_pos two,if_pos two];refine Aa (Ae ?_);rw[Fk];refine Aa (Ae ?_);dsimp only;rw[same];refine Aa (D1 g2 rfl (Aa (Dh g2 rfl ?_ (hsz2:=by simp;omega))));simp only[bne_self_eq_false,Bt,if_false];exact Ae fin
end
section
variable {X:Cx} {pins:List (Addr×Obj)} {σ:L2.St} {H:Hp} {s:Shared}
theorem Inv.notL(I:Inv X pins σ H s){D:Addr}(h:s.heap.get? D=none):D≠X.env.locals/\X.base.get? D=none/\H D=none:=by
 refine⟨fun z=>?_,?_,?_⟩
 . obtain⟨m,⟨o,_,_,e,_⟩,_⟩:=I.loc;rw[<-z,h] at e;cases e
 . cases e:X.base.get? D with
   | none=>rfl
   | some u=>rw[(I.bs D u e).1] at h;cases h
 . cases e:H D with
   | none=>rfl
   | some o =>
     obtain⟨u,hu⟩:=zfr (I.hok D o e);rw[h] at hu;cases hu
theorem zjJ{xs:List V}{its:List Value}{D:Addr}{h':Heap}{Q:VK}(I:Inv X pins σ H s)(rv:Vals xs its)(h2:xs.length < 2)(k:∀ b o,s.heap.get? b=some o->h'.get? b=some o)(hD:s.heap.get? D=none)(gD:h'.get? D=some (seqObj "list" its.toArray 0))(h:∀ p,H p=none->Q (.ref p) (upd H p (.lst xs))) :
   wpAny (model X.prog X.w) X.A.in1.in1 (Builtin.«list.sort» ⟨[.ref D],[]⟩) (fun f s'=>f=.done (.ret .none)/\EP X pins σ Q (.ref D) s') (fun _ _=>False) { s with heap:=h' }:=by
 have hlen:=rv.length;have hz:xs.length<=sizeLine:=AC (Cb h2) (by decide);refine zjK (by omega) gD ⟨rfl,?_⟩;obtain⟨n1,n2,n3⟩:=Inv.notL I hD;obtain⟨ep,e⟩:=sortedHeap_at (out:=its.toArray) gD;have kk:∀ b u,s.heap.get? b=some u->(sortedHeap h' D its its.toArray).get? b=some u:=fun b u q=>by
   have hb:b≠D:=fun z=>by rw[z,hD] at q;cases q
   rw[sortedHeap_old hb (Ak (k b u q))];exact k b u q
 have J:Inv X pins σ (upd H D (.lst xs)) { s with heap:=sortedHeap h' D its its.toArray }:=by
   obtain⟨m,F⟩:=I.fr;refine Inv.laidAt (m:=m) I (fun b u _=>kk b u) (fun m' ⟨o,a1,a2,q,a3⟩=>⟨o,a1,a2,kk _ _ q,a3⟩) (let ⟨m',⟨o,_,_,q,_⟩,_⟩:=I.loc;⟨o,kk _ _ q⟩) hD n3 n1 ⟨hz,its,ep,rv,e⟩
 exact⟨.ref D,_,J,rfl,h D n3⟩
theorem zjI{xs:List V}{its:List Value}{ts:List (List Int)}{D:Addr}{h0:Heap}{Q:VK}(I:Inv X pins σ H s)(rv:Vals xs its)(T:zge H xs ts)(h2:2<=ts.length)(h64:ts.length < 64)(k0:∀ b o,s.heap.get? b=some o->h0.get? b=some o)(hsD:s.heap.get? D=none)(gD:h0.get? D=some (seqObj "list" its.toArray 0))
   (h:∀ (q:Array Nat) (p:Addr),q.Perm (BL (AQ ts.length))->Srt.Up (rank ts) q ts.length->H p=none->Q (.ref p) (upd H p (.lst (q.toList.map fun i=>xs.getD i .non)))) :
   wpAny (model X.prog X.w) X.A.in1.in1 (Builtin.«list.sort» ⟨[.ref D],[]⟩) (fun f s'=>f=.done (.ret .none)/\EP X pins σ Q (.ref D) s') (fun _ _=>False) { s with heap:=h0 }:=by
 have hlen:its.length=ts.length:=by
   have a:=rv.length;have b:=BP T;omega
 obtain⟨m,F⟩:=I.fr;have trkL:∀ b,H b≠none->b≠X.env.locals:=fun b hb z=>hb (by rw[z];exact I.free);obtain⟨n1,n2,hHD⟩:=Inv.notL I hsD;have nD:∀ p∈zdg X.base s.heap X.env.locals,p.1≠D:=fun p hp z=>by
   have q:=(zeY (g:=X.base) (h:=s.heap) (L:=X.env.locals) p hp).1;rw[z,hsD] at q;cases q
 refine PySem.W.kat_list_sort (s:={ s with heap:=h0 }) (news:=zdg X.base s.heap X.env.locals) (F.kept k0) ((zeY (g:=X.base) (h:=s.heap) (L:=X.env.locals)).grown k0) gD n1 n2 nD (by omega) (by omega) fun e1 h' F' N'=>?_;have keep:∀ {h2:Heap} {o:Obj},PyProof.Rows.Fr X.base X.env.locals h2 m->News X.base X.env.locals h2 ((D,o)::zdg X.base s.heap X.env.locals)->∀ b u,b≠X.env.locals->s.heap.get? b=some u->h2.get? b=some u:=fun {h2 o} F2 N2 b u hb e=>by
   cases q:X.base.get? b with
   | some v =>
     have z:=(I.bs b v q).1;rw[e] at z;cases z;exact F2.keep b _ q
   | none=>exact (N2 (b,u) (Ai _ (zcp hb q e))).1
 have hk:∀ b o,H b≠none->s.heap.get? b=some o->h'.get? b=some o:=fun b o hb e=>keep F' N' b o (trkL b hb) e;obtain⟨fs,k1,k2,k3⟩:=ze4 (h':=h') I hk T rv;refine EY (s:={ s with heap:=h' }) (T:=.type "int") k1 (by omega) (fun v hv=>?_) rfl ?_
 . obtain⟨i,t,rfl⟩:=k3 v hv;exact D7 rfl
 have ok:=Srt.sort_ok (n:=its.length) (r:=rank ts) (by omega);refine zoj (n:=its.length) (r:=rank ts) (s:={ s with heap:=h' }) (fun i j hi hj C hC=>zmD (s':={ s with heap:=h' }) I hk T rv (by omega) (by omega) C hC) (fun q hq=>?_) ok;refine Ej F' N' (EK nD) fun h2 c F2 N2=>⟨rfl,?_⟩
 have hD2:=(N2 _ An).1;rw[hlen] at hq;have vals:Vals (q.toList.map fun i=>xs.getD i .non) (q.toList.map fun i=>its.getD i Bj):=by
   have hmem:∀ i∈q.toList,i < xs.length:=fun i hi=>by
     have:i∈(BL (AQ ts.length)).toList:=(Array.perm_iff_toList_perm.mp hq.1).mem_iff.mp hi;have hr:=rv.length;simp at this;omega
   generalize q.toList=ql at hmem
   induction ql with
   | nil=>exact .nil
   | cons i r ih =>
     refine .cons ?_ (ih fun j hj=>hmem j (Ai _ hj));have hi:=hmem i An;obtain⟨u,eu,ru⟩:=rv.get (Aw hi);show RelV (xs.getD i V.non) (its.getD i Bj);rw[AF,AF,Aw hi,eu];exact ru
 have hql:q.toList.length=ts.length:=by
   have:=(Array.perm_iff_toList_perm.mp hq.1).length_eq;simpa using this
 have J:Inv X pins σ (upd H D (.lst (q.toList.map fun i=>xs.getD i .non))) { s with heap:=h2 } :=
   Inv.laidAt (m:=m) I (keep F2 N2) (fun m' hm'=>by rw[zma hm' F.ns];exact F2.ns) (let ⟨o,_,_,e,_⟩:=F2.ns;⟨o,e⟩) hsD hHD n1 ⟨by rw[Aj,hql];exact lt64 h64,_,c,vals,hD2⟩
 exact⟨.ref D,_,J,rfl,h q D hq.1 hq.2 hHD⟩
end
section
variable {X:Cx} {K:Ab} {H:Hp} {io:List Addr} {st st':Sto}
theorem zfU{Q:VK}{xs:List V}{ts:List (List Int)}{p:Addr}{q:Array Nat}(S:StR K H io st)(r1:Reps K H io xs (ts.map tupD))(hq:q.Perm (BL (AQ ts.length)))(hu:Srt.Up (rank ts) q ts.length)(hf:H p=none)(k:Bh K io H (st++[.lst ((ziY ts).map tupD)]) (.ref st.length) Q):Q (.ref p) (upd H p (.lst (q.toList.map fun i=>xs.getD i .non))):=by
 have hm:∀ i∈q.toList,i < ts.length:=fun i hi=>by
   have:=(Array.perm_iff_toList_perm.mp hq).mem_iff.mp hi;simpa using this
 have rr:=zdV r1 hm;rw[zdq hq hu] at rr;exact k.lst S rr hf
noncomputable def zcY:GN
 | [.tup ds],st=>if decide (ds.length < 2)=true then some (.ref st.length,st++[.lst ds]) else (rowsOf ds).bind fun ts=>if (decide (2<=ts.length)&&decide (ts.length < 64))=true then some (.ref st.length,st++[.lst ((ziY ts).map tupD)]) else none
 | _,_=>none
theorem zeB:zcM X (.builtin "sorted") zcY:=by
 rintro pins s σ H xs us Q I r ⟨ds,st,io,d,st',R,S,e,k⟩;unfold zcY at e
 split at e
 . rename_i zs;obtain⟨v,rfl,p,ys,rfl,hp,r1⟩:=R.one;obtain⟨u,rfl,ru⟩:=r.one;cases ru;have hx:SqT X.K H p ys:=.inl (.inl hp)
   split at e
   . rename_i hl;cases e;have e2:=r1.length;obtain⟨its,rv,pl,hz⟩:=I.tuple hx;exact zfe pl (by have:=rv.length;omega) fun D h' k0 hD gD=>zjJ I rv (by rw[e2];exact of_decide_eq_true hl) k0 hD gD fun q hf=>k.lst S r1 hf
   . obtain⟨ts,e1,e⟩:=zad e;obtain⟨hl,e⟩:=zam e;cases e;rw[Ao] at hl;obtain⟨T,hd⟩:=zgG r1 e1;subst hd;obtain⟨its,rv,pl,hz⟩:=I.tuple hx;refine zfe pl (by have:=rv.length;omega) fun D h' k0 hD gD=>zjI I rv T (of_decide_eq_true hl.1) (of_decide_eq_true hl.2) k0 hD gD fun q p' hq hu hf=>zfU S r1 hq hu hf k
 . cases e
noncomputable def zbu:GN:=orN zcZ zcY
theorem zb2:zcM X (.builtin "sorted") zbu:=zcy ze7 zeB
noncomputable def zmQ:G2
 | .tup a,.tup b,st=>if (a.isEmpty&&fits b.length)=true then some (.tup b,st) else none
 | _,_,_=>none
theorem zkf:OpM X (binaryOp .Add) zmQ:=by
 rintro pins s σ H x y v u Q I rx ry ⟨dx,dy,st,io,d,st',Rx,Ry,S,e,k⟩;unfold zmQ at e
 split at e
 . rename_i i j;obtain⟨hf,e⟩:=zam e;cases e;rw[Ao] at hf;obtain⟨p,xs,rfl,hp,r1⟩:=Rx;obtain⟨q,ys,rfl,hq,r2⟩:=id Ry;cases rx;cases ry;obtain⟨m,F⟩:=I.fr;obtain⟨its,w1,p1,_⟩:=I.tuple (SqT.of hp);obtain⟨its2,w2,p2,_⟩:=I.tuple (SqT.of hq);have e0:its=[]:=by
     have a:=r1.length;have b:=w1.length;have c:i=[]:=by simpa using hf.1
     rw[c] at a;exact Bq (by have a':xs.length=0:=a;omega)
   have hz:its2.length<=sizeLine:=by
     have a:=r2.length;have b:=w2.length;have c:=of_decide_eq_true hf.2;omega
   exact PyProof.Rows.add_tuples F (news:=[]) (fun p hp=>nomatch hp) p1 p2 (fun _=>⟨.ref q,H,I,rfl,k.now S Ry⟩) (fun z _=>absurd e0 z) (fun z _=>absurd e0 z) (by rw[e0];simpa using hz)
 . cases e
noncomputable def addE:G2:=orG addD zmQ
theorem zds:OpM X (binaryOp .Add) addE:=zgT zaz zkf
end
end L2.MP
namespace L2.MP
open PySem PySem.Spec PyProof.Rows PySem.SeqAt PySem.MeetsSeq PySem.MeetsSeq2 PySem.MeetsSeq3
section
variable {prog:Program} {w:World} {A:Around} {E:Value->Shared->Prop} {s:Shared}
theorem zey{t sl:Addr}{items:Array Value}{vl vu:Value}{lo hi:Option Int}{Q:Value->Shared->Prop}(ht:IsTup s.heap t items)(hs:s.heap.IsSliceOf sl vl vu .none)(pl:IsPart vl lo)(pu:IsPart vu hi)
   (h0:HT.sIx items.size 0 lo=0) (h1:HT.sIx items.size items.size hi=items.size) (h:Q (.ref t) s):wpAny (model prog w) A (getItem (.ref t) (.ref sl)) Q E s:=by
 obtain⟨os,hos,hcs,hds⟩:=id hs;have hTs:s.TypeIs (.ref sl) "slice":=⟨os,hos,hcs⟩
 unfold getItem
 try with_reducible refine Bi ?_
 first | refine Aa (Ae ?_) | skip
 refine Aa (Dq ht.typeIs (by decide) (Aa (A5 (name:=BB "__getitem__") ht.typeIs Be (Bc Be ht.typeIs CZ ?_ (De _ _)))));show wpAny _ _ (Cf (.ref t) >>= _) _ _ s;refine Aa (El ht (Aa (DD hTs ?_)));rw[if_pos (by decide)];refine Aa (HT.sliceApplied_gen hs pl pu ?_);rw[h0,h1];have yes:((((0:Nat):Int)==0&&(1:Int)==1&&(items.size - 0)==items.size)=true):=by simp
 show wpAny _ _ (if (((0:Nat):Int)==0&&(1:Int)==1&&(items.size - 0)==items.size)=true then _ else _) _ _ s;rw[if_pos yes];refine Aa (m:=Builtin.Tuple.tupleIsExact _) (Aa (DD ht.typeIs (Ae ?_)));rw[if_pos (by decide)];exact Aa (m:=(pure (Fin.done (Flow.ret (A4 t))):Sem Fin)) (Ae (Ae ⟨_,rfl,Ae h⟩))
end
section
variable {X:Cx} {K:Ab} {H:Hp} {io:List Addr} {st st':Sto} {e:Expr} {m:ME} {pos:Pos}
noncomputable def rSlW(K:Ab):V->Option Int->Option Int->Hp->VK->Prop:=fun x lo hi H Q=>∃ a xs,x=.ref a/\SqT K H a xs/\HT.sIx xs.length 0 lo=0/\HT.sIx xs.length xs.length hi=xs.length/\Q (.ref a) H
theorem zjM:SlR X (rSlW X.K):=by
 intro pins s σ H x v vl vu lo hi sl Q I rx hs pl pu h;obtain⟨a,xs,rfl,hx,h0,h1,q⟩:=h;cases rx;obtain⟨its,r,ht,hz⟩:=I.tuple hx;have hlen:its.toArray.size=xs.length:=by rw[Am];exact r.length.symm
 exact⟨"tuple",_,PyProof.Rows.slot_tuple_getitem.lookup,ht.typeIs,zey ht hs pl pu (by rw[hlen];exact h0) (by rw[hlen];exact h1) ⟨.ref a,H,I,rfl,q⟩⟩
noncomputable def slW:D->Option Int->Option Int->Sto->Option (D×Sto):=fun x lo hi st=>match x with
 | .tup ds=>if (decide (HT.sIx ds.length 0 lo=0)&&decide (HT.sIx ds.length ds.length hi=ds.length))=true then some (.tup ds,st) else none
 | _=>none
noncomputable def slC:D->Option Int->Option Int->Sto->Option (D×Sto):=fun x lo hi st=>orO (slB x lo hi st) (slW x lo hi st)
noncomputable def mSlC(m:ME)(l h:MO):ME:=fun ρ st=>(m ρ st).bind fun (x,s1)=>(l ρ s1).bind fun (lo,s2)=>(h ρ s2).bind fun (hi,s3)=>slC x lo hi s3
theorem zaR{lo hi:Option Expr}{ml mh:MO}{p2:Pos}(he:SE X e m)(hl:SO X lo ml)(hu:SO X hi mh):SE X (.Subscript e (.Slice lo hi none p2) pos) (mSlC m ml mh):=by
 rintro pins s σ H Q I ⟨ρ,st,io,d,st',E,S,e0,k⟩;obtain⟨⟨x,s1⟩,e1,e0⟩:=zad e0;obtain⟨⟨lo',s2⟩,e2,e0⟩:=zad e0;obtain⟨⟨hi',s3⟩,e3,e0⟩:=zad e0
 rcases zbD e0 with e0 | e0
 . exact zh1 he hl hu pins s σ H Q I ⟨ρ,st,io,d,st',E,S,by simp only[mSlB,e1,e2,e3,Ac];exact e0,k⟩
 . refine zdW zjM he hl hu pins s σ H Q I ?_;refine⟨ρ,st,io,x,s1,E,S,e1,fun v1 H1 k1 X1 S1 R1=>⟨ρ,s1,io++k1,lo',s2,E.ext S X1,S1,e2,fun H2 k2 X2 S2=>⟨ρ,s2,(io++k1)++k2,hi',s3,(E.ext S X1).ext S1 X2,S2,e3,fun H3 k3 X3 S3=>?_⟩⟩⟩;have R3:=(R1.ext S1 X2).ext S2 X3;have k':=((k.on S1 X1).on S2 X2).on S3 X3;unfold slW at e0
   split at e0
   . rename_i ds;obtain⟨hw,e0⟩:=zam e0;cases e0;rw[Ao] at hw;obtain⟨p,xs,rfl,hp,r⟩:=id R3;exact⟨p,xs,rfl,SqT.of hp,by rw[r.length];exact of_decide_eq_true hw.1,by rw[r.length];exact of_decide_eq_true hw.2,k'.now S3 R3⟩
   . cases e0
end
end L2.MP
namespace L2.MP
open PySem L2 PySem.Spec PyProof.Rows
section
variable {K:Ab} {x:Str} {st:Stmt} {f:Addr}
structure FdIn(K:Ab)(x:Str)(st:Stmt)(f:Addr):Prop where
 ex:∃ (oc:Value) (od:Option Addr) (kV dc pm:Value) (an:Option Addr) (cd ct:Value) (sl:Array (Option Value)),K.lookup f=some ⟨oc,od,.func (BJ x x (zdb st) (zbQ st) (zar st) .none kV dc pm an cd ct),sl⟩/\Cz K cd x=true
 ns:A6 K mainGlobals x=some (some (.ref f))
 kp:BV K (.ref f)=true
theorem zef{oc kV dc pm cd ct:Value}{od an:Option Addr}{sl:Array (Option Value)}(a:A6 K mainGlobals x=some (some (.ref f)))(l:K.lookup f=some ⟨oc,od,.func (BJ x x (zdb st) (zbQ st) (zar st) .none kV dc pm an cd ct),sl⟩)(c:Cz K cd x=true)(k:BV K (.ref f)=true):FdIn K x st f :=
 ⟨⟨oc,od,kV,dc,pm,an,cd,ct,sl,l,c⟩,a,k⟩
theorem zbd{h:Heap}{mg:Str->Option Value}{ps:List Str}(F:FdIn K x st f)(X:K.In h)(G:h.Ns mainGlobals mg)(b:∀ (kV doc pm:Value) (an:Option Addr) (cdv ct:Value) (us:List Value),us.length=ps.length->bindArgs (BJ x x (zdb st) (zbQ st) (zar st) .none kV doc pm an cdv ct) ⟨us,[]⟩=pure (ps.zip us)):Laid K mg x st ps:=by
 obtain⟨⟨oc,od,kV,dc,pm,an,cd,ct,sl,l,c⟩,a,k⟩:=F;exact⟨_,_,zkB l c k,Fz X G a,(zkB l c k).binds b⟩
end
theorem len1{α:Type}{P:List α->Prop}(h:∀ a,P [a])(l:List α)(e:l.length=1):P l:=by
 rcases l with _ | ⟨a,_ | ⟨b,l⟩⟩
 . cases e
 . exact h a
 . cases e
theorem len2{α:Type}{P:List α->Prop}(h:∀ a b,P [a,b])(l:List α)(e:l.length=2):P l:=by
 rcases l with _ | ⟨a,l⟩
 . cases e
 . exact len1 (P:=fun l=>P (a::l)) (h a) l (FD e)
theorem len3{α:Type}{P:List α->Prop}(h:∀ a b c,P [a,b,c])(l:List α)(e:l.length=3):P l:=by
 rcases l with _ | ⟨a,l⟩
 . cases e
 . exact len2 (P:=fun l=>P (a::l)) (h a) l (FD e)
end L2.MP
namespace L2.MP
open PySem PySem.Spec PyProof.Rows
end L2.MP
namespace L2.MP
open PySem L2 PySem.Spec PyProof.Rows
end L2.MP
namespace L2.MP
open PySem PySem.Spec PyProof.Rows
section
variable {X:Cx} {K:Ab} {H:Hp} {io:List Addr}
noncomputable def ltSD:G2:=fun x y st=>match x,y with
 | .str a,.str b=>some (.bl (decide (a.cps.toList < b.cps.toList)),st)
 | _,_=>none
theorem zl3:OpM X (compareOp .Lt) ltSD:=by
 rintro pins s σ H x y v u Q I rx ry ⟨dx,dy,st,io,d,st',Rx,Ry,S,e,k⟩;unfold ltSD at e
 split at e
 . cases e
   cases (show x=_ from Rx)
   cases (show y=_ from Ry)
   obtain⟨t,rfl⟩:=rx;obtain⟨t,rfl⟩:=ry;exact lt_str ⟨.bl _,H,I,rfl,k.now S rfl⟩
 . cases e
noncomputable def ltTD:G2:=fun x y st=>match x,y with
 | .tup a,.tup b=>(intsOf a).bind fun ns=>(intsOf b).map fun ms=>(.bl (HT.lexLt ns ms),st)
 | _,_=>none
theorem zl2(hu:X.A.units+100 < cLine):OpM X (compareOp .Lt) ltTD:=by
 rintro pins s σ H x y v u Q I rx ry ⟨dx,dy,st,io,d,st',Rx,Ry,S,e,k⟩;unfold ltTD at e
 split at e
 . obtain⟨ns,e1,e⟩:=zad e;obtain⟨ms,e2,e⟩:=zag e;cases e;obtain⟨p,xs,ex,hp,r1⟩:=Rx;obtain⟨q,ys,ey,hq,r2⟩:=Ry
   cases (ints_rep r1 e1).1
   cases (ints_rep r2 e2).1
   exact znM (by omega) pins s σ H x y v u Q I rx ry ⟨p,q,ns,ms,ex,ey,SqT.of hp,SqT.of hq,k.now S rfl⟩
 . cases e
noncomputable def ltB:G2:=orG ltD (orG ltSD ltTD)
theorem zl5(hu:X.A.units+100 < cLine):OpM X (compareOp .Lt) ltB:=zgT zl4 (zgT zl3 (zl2 hu))
end
end L2.MP
namespace L2.MP
open PySem PySem.Spec
end L2.MP
namespace L2.MP
open PySem PySem.Spec PyProof.Rows
end L2.MP
namespace L2.MP
open PySem PySem.Spec
end L2.MP
namespace L2.MP
open PySem PySem.Spec PyProof.Rows
section
variable {X:Cx} {K:Ab} {H:Hp} {io:List Addr} {st st':Sto} {pos:Pos}
noncomputable def zkn(a b c:Str)(m1 m2 m3:ME):ME:=fun ρ st=>(m1 ρ (st++[.dk []])).bind fun (x,s1)=>(m2 ρ s1).bind fun (y,s2)=>(m3 ρ s2).bind fun (z,s3)=>match s3[st.length]? with
 | some (.dk [])=>some (.ref st.length,s3.set st.length (.dk [(.inr a,x),(.inr b,y),(.inr c,z)]))
 | _=>none
theorem znY{a b c:Str}(h:(a≠b/\a≠c)/\b≠c)(x y z:V):zeZ [] [(.inr a,x),(.inr b,y),(.inr c,z)]=[(.inr a,x),(.inr b,y),(.inr c,z)]:=by
 obtain⟨⟨h1,h2⟩,h3⟩:=h;simp[zeZ,putK,h1,h2,h3]
theorem zjT{e1 e2 e3 k1 k2 k3:Expr}{a b c:Str}{m1 m2 m3:ME}(q1:SE X k1 (mCon (.str a)))(h1:SE X e1 m1)(q2:SE X k2 (mCon (.str b)))(h2:SE X e2 m2)(q3:SE X k3 (mCon (.str c)))(h3:SE X e3 m3)(hd:(a≠b/\a≠c)/\b≠c) :
   SE X (.Dict [some k1,some k2,some k3] [e1,e2,e3] pos) (zkn a b c m1 m2 m3) :=
 PE.imp (zlU (zdU q1 h1 (zdU q2 h2 (zdU q3 h3 zi6))) rfl rfl (by simp) (by simp)) <| by
   rintro σ H Q ⟨ρ,st,io,d,st',E,S,e,k⟩;obtain⟨⟨x,s1⟩,e1,e⟩:=zad e;obtain⟨⟨y,s2⟩,e2,e⟩:=zad e;obtain⟨⟨z,s3⟩,e3,e⟩:=zad e;intro p hp;obtain⟨E',S'⟩:=ziq (o:=.dK []) (ob:=.dk []) S hp fun H' T e=>⟨[],e,.nil⟩
   have E0:=E.ext S E';refine⟨ρ,_,_,_,_,E0,S',rfl,fun w1 H1 j1 X1 S1 R1=>?_⟩;refine⟨ρ,_,_,x,s1,E0.ext S' X1,S1,e1,fun v1 H2 j2 X2 S2 R2=>?_⟩;have E2:=(E0.ext S' X1).ext S1 X2;refine⟨ρ,_,_,_,_,E2,S2,rfl,fun w2 H3 j3 X3 S3 R3=>?_⟩;refine⟨ρ,_,_,y,s2,E2.ext S2 X3,S3,e2,fun v2 H4 j4 X4 S4 R4=>?_⟩;have E4:=(E2.ext S2 X3).ext S3 X4;refine⟨ρ,_,_,_,_,E4,S4,rfl,fun w3 H5 j5 X5 S5 R5=>?_⟩;refine⟨ρ,_,_,z,s3,E4.ext S4 X5,S5,e3,fun v3 H6 j6 X6 S6 R6=>?_⟩;dsimp only at e
   split at e
   . rename_i eq2;cases e;have hlen:io.length=st.length:=S.len;have hp0:(((((((io++[p])++j1)++j2)++j3)++j4)++j5)++j6)[st.length]?=some p:=by
       simp only[Al];rw[AL (by omega),hlen,BX];rfl
     obtain⟨ps,hH,r⟩:=S6.ob st.length p _ hp0 eq2;cases r
     cases (show w1=.str a from R1)
     cases (show w2=.str b from R3)
     cases (show w3=.str c from R5)
     refine⟨hH,[(.inr a,v1),(.inr b,v2),(.inr c,v3)],rfl,by simp,?_⟩;rw[znY hd];have r1:=(((R2.ext S2 X3).ext S3 X4).ext S4 X5).ext S5 X6;have r2:=(R4.ext S4 X5).ext S5 X6;obtain⟨E7,S7⟩:=zdS (o:=.dK [(.inr a,v1),(.inr b,v2),(.inr c,v3)]) (ob:=.dk [(.inr a,x),(.inr b,y),(.inr c,z)]) S6 hp0 eq2 (fun o u z=>by rw[hH] at z;cases z) fun H' T e'=>⟨_,e',.cons ⟨rfl,Rep.mono T r1⟩ (.cons ⟨rfl,Rep.mono T r2⟩ (.cons ⟨rfl,Rep.mono T R6⟩ .nil))⟩
     have k':=((((((k.on S' E').on S1 X1).on S2 X2).on S3 X3).on S4 X4).on S5 X5).on S6 X6;exact k' _ _ [] E7 S7 ⟨p,rfl,by rw[Ah];exact hp0⟩
   . cases e
noncomputable def zkY:GN
 | [.tup [.int a,.int b]],st=>some (.int (min a b),st)
 | _,_=>none
noncomputable def zkZ:GN
 | [.tup [.int a,.int b]],st=>some (.int (max a b),st)
 | _,_=>none
theorem zfn{p:Addr}{a b:Int}{xs:List V}{pins:List (Addr×Obj)}{σ:L2.St}{s:Shared}(I:Inv X pins σ H s)(hp:H p=some (.tup xs))(r:Reps X.K H io xs [.int a,.int b]):∃ t u,IsTup s.heap p #[.int a t,.int b u]:=by
 obtain⟨its,w1,p1,_⟩:=I.tuple (SqT.of hp);obtain⟨v,u,rfl,h1,h2⟩:=r.two
 cases (show v=.int a from h1)
 cases (show u=.int b from h2)
 obtain⟨u1,u2,rfl,q1,q2⟩:=w1.two;obtain⟨t1,rfl⟩:=q1;obtain⟨t2,rfl⟩:=q2;exact⟨t1,t2,p1⟩
theorem zhN{a b:Int}{t u:Tok}{i:Nat}{v:Value}(h:(#[CL a t,.int b u]:Array Value)[i]?=some v):∃ tk,v=.int (if i=0 then a else b) tk:=by
 match i,h with
 | 0,h=>exact⟨t,by simpa using h.symm⟩
 | 1,h=>exact⟨u,by simpa using h.symm⟩
 | k+2,h=>simp at h
theorem zhu(hc:X.calm=true):zcM X (.builtin "min") zkY:=by
 rintro pins s σ H xs us Q I r ⟨ds,st,io,d,st',R,S,e,k⟩;unfold zkY at e
 split at e
 . rename_i a b;cases e;obtain⟨v,rfl,p,ys,rfl,hp,r1⟩:=R.one;obtain⟨u,rfl,ru⟩:=r.one;cases ru;obtain⟨t1,t2,ht⟩:=zfn I hp r1;have ht':s.heap.IsTuple p #[.int a t1,.int b t2]:=ht;have hlt:p < s.heap.objs.size:=by
     obtain⟨o,e,_⟩:=ht;exact Ak e
   refine PySem.call_min_walk (Da ht' ?_);refine⟨_,_,_,_,_,_,_,rfl,FI (A:=X.A.in1) (I.ok.hd hc) s.heap.objs.size p (AG hlt) #[.int a t1,.int b t2],⟨⟨_,Ar _ rfl,rfl,rfl⟩,?_⟩,?_,by simp,CmpOf.ints_lt (fun i=>if i=0 then a else b) (fun i v h=>zhN (t:=t1) (u:=t2) h),fun v h' tk hv hk=>?_⟩
   . obtain⟨o,e,c,nn,sq⟩:=ht;exact⟨o,Ad _ e,c,nn,sq⟩
   . intro b hb;rw[Bk];simp at hb
     rcases hb with hb | hb
     . rw[hb];exact CK _
     . rw[hb];exact CC hlt
   . obtain⟨tk',rfl⟩:=zhN hv;have em:(if argBest (fun i j=>decide ((if i=0 then a else b) < (if j=0 then a else b))) ((#[CL a t1,.int b t2]:Array Value).size - 1)=0 then a else b)=min a b:=by
       show (if argBest (fun i j=>decide ((if i=0 then a else b) < (if j=0 then a else b))) 1=0 then a else b)=min a b
       by_cases h:b < a
       . simp[argBest,h];omega
       . simp[argBest,h];omega
     rw[em];refine⟨.int _,H,I.kept (t':=tk) fun b o q=>hk b o ?_ (Ad _ q),⟨tk',rfl⟩,k.now S rfl⟩;simp;exact AG (Ak q)
 . cases e
theorem zhv(hc:X.calm=true):zcM X (.builtin "max") zkZ:=by
 rintro pins s σ H xs us Q I r ⟨ds,st,io,d,st',R,S,e,k⟩;unfold zkZ at e
 split at e
 . rename_i a b;cases e;obtain⟨v,rfl,p,ys,rfl,hp,r1⟩:=R.one;obtain⟨u,rfl,ru⟩:=r.one;cases ru;obtain⟨t1,t2,ht⟩:=zfn I hp r1;have ht':s.heap.IsTuple p #[.int a t1,.int b t2]:=ht;have hlt:p < s.heap.objs.size:=by
     obtain⟨o,e,_⟩:=ht;exact Ak e
   refine PySem.call_max_walk (Da ht' ?_);refine⟨_,_,_,_,_,_,_,rfl,FI (A:=X.A.in1) (I.ok.hd hc) s.heap.objs.size p (AG hlt) #[.int a t1,.int b t2],⟨⟨_,Ar _ rfl,rfl,rfl⟩,?_⟩,?_,by simp,CmpOf.ints_gt (fun i=>if i=0 then a else b) (fun i v h=>zhN (t:=t1) (u:=t2) h),fun v h' tk hv hk=>?_⟩
   . obtain⟨o,e,c,nn,sq⟩:=ht;exact⟨o,Ad _ e,c,nn,sq⟩
   . intro b hb;rw[Bk];simp at hb
     rcases hb with hb | hb
     . rw[hb];exact CK _
     . rw[hb];exact CC hlt
   . obtain⟨tk',rfl⟩:=zhN hv;have em:(if argBest (fun i j=>decide ((if i=0 then a else b) > (if j=0 then a else b))) ((#[CL a t1,.int b t2]:Array Value).size - 1)=0 then a else b)=max a b:=by
       show (if argBest (fun i j=>decide ((if i=0 then a else b) > (if j=0 then a else b))) 1=0 then a else b)=max a b
       by_cases h:a < b
       . simp[argBest,h];omega
       . simp[argBest,h];omega
     rw[em];refine⟨.int _,H,I.kept (t':=tk) fun b o q=>hk b o ?_ (Ad _ q),⟨tk',rfl⟩,k.now S rfl⟩;simp;exact AG (Ak q)
 . cases e
noncomputable def zmM:GN
 | [.ref n],st=>match st[n]? with
   | some (.dk [])=>some (.str (EU []).shown,st)
   | _=>none
 | _,_=>none
theorem zhs(hg:X.A.guards=some [])(hu:X.A.units+110 < cLine):zcM X (.builtin "repr") zmM:=by
 rintro pins s σ H xs us Q I r ⟨ds,st,io,d,st',R,S,e,k⟩;unfold zmM at e
 split at e
 . rename_i n
   split at e
   . rename_i en;cases e;obtain⟨v,rfl,p,rfl,hp⟩:=R.one;obtain⟨u,rfl,ru⟩:=r.one;cases ru;obtain⟨ps,hH,rk⟩:=S.ob n p _ hp en;cases rk;obtain⟨z,hd,vs0,r0,dd⟩:=zon I.hok hH;cases r0;obtain⟨o,es,ep,ho,hx,hdat,_,hpp,_⟩:=dd;have he:es.toList=[]:=by
       generalize es.toList=l at hpp;cases hpp;rfl
     have rd:Reads s.heap (.ref p) (.dict []) [p]:=Reads.dict (as:=[]) (bs:=[]) ho hx.1 hdat (by rw[he];exact .nil) (by rw[he];exact .nil);refine repr_of_reads' rd (by decide) (fun _=>by
       rw[List.mem_singleton];exact fun h=>by rw[<-h] at hd;simp at hd) hg (by
       have:(EU []).depth<=1:=by decide
       omega) (fun b o q=>q) (fun h' u tk hk=>⟨.str _,H,I.kept (t':=tk) fun b o q=>hk b o q,⟨u,rfl⟩,k.now S rfl⟩) (by decide)
   . cases e
 . cases e
noncomputable def zi4:GN:=orN zj1 zmM
theorem zeF(hg:X.A.guards=some [])(hu:X.A.units+110 < cLine):zcM X (.builtin "repr") zi4:=zcy (zht hg hu) (zhs hg hu)
end
section
variable {X:Cx} {K:Ab} {H:Hp} {io:List Addr} {st st':Sto} {pos:Pos} {a b:Expr}
noncomputable def zmZ(tk tv:TE):TE:=fun σ H Q=>∀ p,H p=none->zhS [(tk,tv)] σ (upd H p (.dT [])) fun ps H2=>H2 p=some (.dT [])/\∃ (q:List Key) (b:Addr) (y:V),ps=[(.ref b,y)]/\H2 b=some (.tup (q.map kV))/\Q (.ref p) (upd H2 p (.dT [(q,y)]))
theorem zkc{tk tv:TE}(hu:X.A.units+1 < cLine)(hk:PE X a tk)(hv:PE X b tv):PE X (.Dict [some a] [b] pos) (zmZ tk tv):=by
 intro pins s σ H Q I q;have hn:=I.hok.fresh (Af s.heap.objs.size);have I1:=I.laid (a:=s.heap.objs.size) (o:=.dT []) (h':=s.heap.push { cls:=.type "dict",data:=.dict #[] }) (t':=s.toks) (fun _ _ q=>Ad _ q) (Af _) (zkF s.heap I.big);rw[arm_eval_Dict,zip_pairTrees [some a] [b] X.env pos rfl rfl,dictDisplay_pairs _ (by simp[pairTrees]) (by simp[pairTrees])];refine Aa (CI (Aa ?_));unfold subDict;refine Aa (wpAny_alloc ?_);refine Aa (Bi ?_);rw[if_pos (by simp[pairTrees])];refine Aa (thn ((zdU hk hv zi6) pins _ σ _ _ I1 (q _ hn)) ?_);rintro ws s2 ⟨ps,H2,I2,rel,e,qk,bk,y,rfl,eb,q2⟩
 cases rel with
 | cons h0 t0 =>
   cases t0;rename_i w0;obtain⟨w1,w2⟩:=w0;obtain⟨r1,r2⟩:=h0
   cases (show w1=A4 bk from r1)
   obtain⟨z,hd,xs,rx,dd⟩:=zoK I2.hok e;cases rx;refine Bi ?_;refine Aa ?_;rw[CQ];refine Aa (Aa (wpAny_dictSet_heap (knd:=tupleKind (za5 X.prog X.w)) (hsz:=by simp[sizeLine]) (show X.A.units < cLine by omega) (zf6 I2.hok eb) dd fun h' dd' hs=>Ae ?_));dsimp only;rw[Cd];refine Ae (Ae (Ae (Ae ⟨.ref s.heap.objs.size,_,?_,rfl,q2⟩)));obtain⟨ob,es,ep,hq,h2,h3,h4,_,h5⟩:=dd';refine zfE I2 (by rw[e];exact CA) hs ⟨ob,hq⟩ ⟨by simp[sizeLine],hd,_,Paired.cons ⟨rfl,?_,r2⟩ .nil,ob,es,ep,hq,h2,h3,h4,h5⟩;rw[zaG (zmN eb e (fun z=>nomatch z))];exact eb
noncomputable def zkm(mk mv:ME):ME:=fun ρ st=>(mk ρ (st++[.dt []])).bind fun (k,s1)=>(mv ρ s1).bind fun (v,s2)=>match k with
 | .tup ds=>match keysOf ds,s2[st.length]? with
   | some q,some (.dt [])=>some (.ref st.length,s2.set st.length (.dt [(q,v)]))
   | _,_=>none
 | _=>none
theorem zjS{mk mv:ME}(hu:X.A.units+1 < cLine)(hk:SE X a mk)(hv:SE X b mv):SE X (.Dict [some a] [b] pos) (zkm mk mv) :=
 PE.imp (zkc hu hk hv) <| by
   rintro σ H Q ⟨ρ,st,io,d,st',E,S,e,k⟩;obtain⟨⟨x,s1⟩,e1,e⟩:=zad e;obtain⟨⟨y,s2⟩,e2,e⟩:=zad e;intro p hp;obtain⟨E',S'⟩:=ziq (o:=.dT []) (ob:=.dt []) S hp fun H' T e=>⟨[],e,.nil⟩
   refine⟨ρ,_,_,x,s1,E.ext S E',S',e1,fun v1 H1 k1 X1 S1 R1=>?_⟩;refine⟨ρ,s1,_,y,s2,(E.ext S E').ext S' X1,S1,e2,fun v2 H2 k2 X2 S2 R2=>?_⟩;dsimp only at e
   split at e
   . rename_i ds
     split at e
     . rename_i q eq1 eq2;cases e;have hlen:io.length=st.length:=S.len;have hp0:((io++[p])++k1++k2)[st.length]?=some p:=by
         rw[Al,Al,AL (by omega),hlen,BX];rfl
       obtain⟨ps,hH,r⟩:=S2.ob st.length p _ hp0 eq2;cases r;obtain⟨b,xs,rfl,hb,rs⟩:=R1.ext S1 X2;have ex:=zcf rs eq1;subst ex;refine⟨hH,q,b,v2,rfl,hb,?_⟩;obtain⟨E3,S3⟩:=zdS (o:=.dT [(q,v2)]) (ob:=.dt [(q,y)]) S2 hp0 eq2 (fun o u z=>by rw[hH] at z;cases z) fun H' T e'=>⟨_,e',.cons ⟨rfl,Rep.mono T R2⟩ .nil⟩
       have k':=((k.on S' E').on S1 X1).on S2 X2;exact k' _ _ [] E3 S3 ⟨p,rfl,by rw[Ah];exact hp0⟩
     . cases e
   . cases e
end
end L2.MP
namespace L2.MP.Hb
open PySem L2.MP
end L2.MP.Hb
namespace L2.MP
open PySem
theorem zfc{f:D->Option PyData}(hf:∀ x:Int,f (.int x)=some (.int x)):∀ as:List Int,toPs f (as.map D.int)=some (as.map FL)
 | []=>rfl
 | x::as=>by
   rw[Ax,toPs,hf x,Ac,zfc hf as];rfl
theorem zgn{n:Nat}{st:Sto}{k:Nat}{as:List Int}(hk:st[k]?=some (.lst (as.map D.int))):toP (n+2) st (.ref k)=some (.list (as.map FL)):=by
 rw[toP];simp only[zba,hk,Ac];rw[zfc (fun x=>by rw[toP])];rfl
theorem zja{st:Sto}{f g:Nat}{as:List Int}(hf:st[f]?=some (.lst (as.map D.int)))(hg:st[g]?=some (.lst [])):neD (.ref f) (.ref g) st=some (.bl (!as.isEmpty),st):=by
 unfold neD;rw[zgn (n:=98) hf,zgn (n:=98) (as:=[]) hg]
 cases as <;> rfl
end L2.MP
namespace L2.MP.Hb
open PySem L2.MP
structure FrB(n q:Nat)(st st':Sto):Prop where
 len:st.length<=st'.length
 old:∀ k,k < st.length->k≠n->k≠q->st'[k]?=st[k]?
theorem FrB.refl(n q:Nat)(st:Sto):FrB n q st st:=⟨Af _,fun _ _ _ _=>rfl⟩
theorem FrB.trans{n q:Nat}{a b c:Sto}(h:FrB n q a b)(h':FrB n q b c):FrB n q a c:=⟨AC h.len h'.len,fun k hk n1 n2=>(h'.old k (Ap hk h.len) n1 n2).trans (h.old k hk n1 n2)⟩
theorem FrB.app(n q:Nat)(st:Sto)(l:List O):FrB n q st (st++l):=⟨by simp,fun k hk _ _=>As hk⟩
theorem FrB.setN(n q:Nat)(st:Sto)(o:O):FrB n q st (st.set n o):=⟨by simp,fun k _ h1 h2=>by rw[Au (fun h=>h1 h.symm)]⟩
theorem FrB.setQ(n q:Nat)(st:Sto)(o:O):FrB n q st (st.set q o):=⟨by simp,fun k _ h1 h2=>by rw[Au (fun h=>h2 h.symm)]⟩
theorem FrB.of{n q:Nat}{a b:Sto}(h:Gr a b):FrB n q a b:=⟨h.len,fun k hk _ _=>h.old k hk⟩
theorem zkI(ns:List Int)(lo hi:Option Int):∃ ms:List Int,cutD (ns.map D.int) lo hi=ms.map D.int/\ms.length<=ns.length:=by
 unfold cutD;refine⟨(ns.drop (HT.sIx (ns.map D.int).length 0 lo)).take (HT.sIx (ns.map D.int).length (ns.map D.int).length hi - HT.sIx (ns.map D.int).length 0 lo),by simp,?_⟩;rw[AJ,AY];omega
theorem zm8{ds:List D}{lo hi:Option Int}{st:Sto}:slB (.kl ds) lo hi st=some (.ref st.length,st++[.lst (cutD ds lo hi)]):=by
 simp[slB,slA,slD,slS,slK,zfo]
theorem zbG{ds:List D}{st:Sto}:tyName st (.tup ds)=some "tuple":=rfl
theorem ty_str{x:Str}{st:Sto}:tyName st (.str x)=some "str":=rfl
theorem ty_int{i:Int}{st:Sto}:tyName st (.int i)=some "int":=rfl
theorem ne_int(a b:Int)(st:Sto):neD (.int a) (.int b) st=some (.bl (!(a==b)),st):=by
 unfold neD;rw[toP,toP];simp[BD]
end L2.MP.Hb
namespace L2.MP.Hd
open PySem L2.MP
noncomputable def zbT:MS:=mSeq (mAsg (mBin ixA (mVar 0) (mCon (.int 0))) (gNm 1)) (mSeq (mAsg (mBin ixA (mVar 0) (mCon (.int 1))) (gNm 2)) (mRet (mTup (zab (mTup (zab (mVar 1) (zab (mBin addD (mVar 2) (mCon (.int 1))) (mNil)))) (zab (mTup (zab (mBin addD (mVar 1) (mCon (.int 1))) (zab (mVar 2) (mNil)))) (zab (mTup (zab (mVar 1) (zab (mBin subD (mVar 2) (mCon (.int 1))) (mNil)))) (zab (mTup (zab (mBin subD (mVar 1) (mCon (.int 1))) (zab (mVar 2) (mNil)))) (mNil))))))))
noncomputable def zaJ:GN:=fnM 3 zbT
end L2.MP.Hd
namespace L2.MP
open PySem
@[simp] theorem zpt(n:Nat)(ds:List D):rho n ds=ds.map some++BW (n - ds.length) none:=rfl
@[simp] theorem zoI(ρ:Rho)(n:Nat)(l:List Nat):rho0 ρ n l=BW n none++l.map fun (j:Nat)=>(ρ[j]?).join:=rfl
@[simp] theorem zpK{a b:Int}{st:Sto}:ltD (.int a) (.int b) st=some (.bl (decide (a < b)),st):=rfl
@[simp] theorem zpL{a b:Int}{st:Sto}:leD (.int a) (.int b) st=some (.bl (decide (a<=b)),st):=rfl
@[simp] theorem zpO{a b:Int}{st:Sto}:gtD (.int a) (.int b) st=some (.bl (decide (b < a)),st):=rfl
@[simp] theorem zpP{a b:Int}{st:Sto}:geD (.int a) (.int b) st=some (.bl (decide (b<=a)),st):=rfl
@[simp] theorem zpN{a:Int}{st:Sto}:intC [.int a] st=some (.int a,st):=rfl
@[simp] theorem zpM{b:Bool}{st:Sto}:intC [.bl b] st=some (.int (if b then 1 else 0),st):=rfl
end L2.MP
namespace L2.MP.Hd
open PySem L2.MP
theorem zlH{m:ME}{ρ:Rho}{st:Sto}{k:Nat}(e:m ρ st=some (.int (k:Int),st))(hk:k<=1000):mR1 m ρ st=some (⟨run 0 k,[]⟩,st):=by
 have sm:small (k:Int)=true:=zdL (by omega) (by omega);rw[zoO,e,Ac];simp only[sm,if_true];rw[Bm]
theorem ziP{x y:Int}{st:Sto}:zaJ [.tup [.int x,.int y]] st=some (.tup [.tup [.int x,.int (y+1)],.tup [.int (x+1),.int y],.tup [.int x,.int (y - 1)],.tup [.int (x - 1),.int y]],st):=by
 have i0:ixA (.tup [.int x,.int y]) (.int 0) st=some (.int x,st):=zcu (by decide) rfl;have i1:ixA (.tup [.int x,.int y]) (.int 1) st=some (.int y,st):=zcu (by decide) rfl;refine zck ?_;unfold zbT;refine zaj (ρ1:=[some (.tup [.int x,.int y]),some (.int x),none]) (s1:=st) (by simp[i0]) ?_;refine zaj (ρ1:=[some (.tup [.int x,.int y]),some (.int x),some (.int y)]) (s1:=st) (by simp[i1]) ?_;simp
theorem zoc{d:Nat}{kvs:List (Key×D)}{a:Str}{v:D}{st:Sto}(h:st[d]?=some (.dk kvs))(hv:valD kvs (.inr a)=some v):ixA (.ref d) (.str a) st=some (v,st):=by
 have e1:idxD (.ref d) (.str a) st=none:=by simp[idxD,zba,h]
 unfold ixA orG;rw[e1,zfo];simp[zoL,look,h,keyOf,hv]
noncomputable def fl(p:Nat->Bool)(k:Nat):List D:=((AQ k).filter p).map fun (i:Nat)=>D.int (i:Int)
end L2.MP.Hd
namespace L2.MP
open PySem
theorem zoM{W:Wk}{g:MG}{c:MT}{m:ME}{α:Type}{f h:α->D}{R:Rho->Prop}:∀ {as:List α} {ρ:Rho} {st:Sto},R ρ->(∀ s,Gr st s->walked W s=true)->(∀ a∈as,∀ ρ s,R ρ->Gr st s->∃ ρ1 s1,g (f a) ρ s=some (ρ1,s)/\c ρ1 s=some (true,s)/\m ρ1 s=some (h a,s1)/\Gr s s1/\R ρ1) ->
   ∃ s',mCI W g c m (as.map f) ρ st=some (as.map h,s')/\Gr st s'
 | [],ρ,st,r,wk,_=>⟨st,by unfold mCI;rw[Br];simp only[wk st (Gr.refl st),if_true,Br],Gr.refl st⟩
 | a::as,ρ,st,r,wk,hs=>by
   obtain⟨ρ1,s1,e1,e2,e3,g1,r1⟩:=hs a An ρ st r (Gr.refl st);obtain⟨s',e,g'⟩:=zoM (W:=W) (g:=g) (c:=c) (m:=m) (f:=f) (h:=h) (R:=R) (as:=as) (st:=s1) r1 (fun s q=>wk s (g1.trans q)) fun b hb ρ s q z=>hs b (Ai _ hb) ρ s q (g1.trans z);refine⟨s',?_,g1.trans g'⟩;rw[Ax];unfold mCI;rw[if_pos (wk st (Gr.refl st)),e1];simp only[Ac,e2,if_true,e3,e,AD,Ax]
end L2.MP
namespace L2.MP.stickytiles_k52_shapes_or_not
open PySem L2.MP L2.MP.Hd
noncomputable def zeI:MS:=mRet (ziu (mIsi "int" (mVar 0)) (ziu (zme (mIsi "bool" (mVar 0))) (zbx leD leD (mVar 1) (mVar 0) (mVar 2))))
noncomputable def zbN:GN:=fnM 3 zeI
noncomputable def zeJ:MS:=mRet (ziu (mIsi "tuple" (mVar 0)) (mBin eqD (zat lenD (zab (mVar 0) (mNil))) (mVar 1)))
noncomputable def zcj:GN:=fnM 2 zeJ
noncomputable def zcR:ME:=mBin ltB (mVar 0) (mVar 1)
noncomputable def zhI:MS:=mRet (zat allC (zab (zd4 (mZip (mVar 0) (mSlC (mVar 0) (zbI (mCon (.int 1))) (zb6))) 2 [] (gTp 2 (gC (gNm 0) (gC (gNm 1) (gN0)))) (ze0) (zcR)) (mNil)))
noncomputable def zdE:GN:=fnM 1 zhI
noncomputable def zfL:MS:=mRet (ziu (zat zcj (zab (mVar 0) (zab (mCon (.int 2)) (mNil)))) (ziu (zat zbN (zab (mBin ixA (mVar 0) (mCon (.int 0))) (zab (mCon (.int 1)) (zab (mCon (.int 6)) (mNil))))) (zat zbN (zab (mBin ixA (mVar 0) (mCon (.int 1))) (zab (mCon (.int 1)) (zab (mCon (.int 6)) (mNil)))))))
noncomputable def zcQ:GN:=fnM 1 zfL
noncomputable def zav:MS:=mIf (zeu (mTst (mBin inA (mVar 6) (mVar 0))) (mTst (mBin zb1 (mVar 6) (mVar 2)))) (mSeq (putA (mVar 2) (mVar 6) (mCon (.bl true))) (mSeq (mExp (mApp (mVar 1) (zab (mTup (zab (mVar 4) (zab (mVar 5) (zab (mVar 6) (mNil))))) (mNil)))) (mExp (mApp (mVar 3) (zab (mVar 6) (mNil)))))) (zcO)
noncomputable def zaF:MT:=mTru (mVar 3)
noncomputable def za1:MS:=mSeq (mAsg (znZ (mVar 3)) (gNm 4)) (mFor (zmf (zat zaJ (zab (mVar 4) (mNil)))) (gTp 2 (gC (gNm 5) (gC (gNm 6) (gN0)))) (zav))
noncomputable def zbz:MS:=mSeq (mAsg (mLst (mNil)) (gNm 1)) (mSeq (mAsg (zkm (mBin ixA (mVar 0) (mCon (.int 0))) (mCon (.bl true))) (gNm 2)) (mSeq (mAsg (mLst (zab (mBin ixA (mVar 0) (mCon (.int 0))) (mNil))) (gNm 3)) (mSeq (mWhF (zaF) (za1) 100) (mRet (mVar 1)))))
noncomputable def zaZ:GN:=fnM 7 zbz
noncomputable def zbr:ME:=zat zcQ (zab (mVar 0) (mNil))
noncomputable def za9:MS:=mSeq (mIf (mOrT (zdj (mTst (mIsi "tuple" (mVar 0)))) (zdj (mTst (zbx leD leD (mCon (.int 1)) (zat lenD (zab (mVar 0) (mNil))) (mCon (.int 12)))))) (mRet (mCon (.bl false))) (zcO)) (mSeq (mIf (mOrT (zdj (mTst (zat allC (zab (zd4 (mWA (mVar 0)) 1 [] (gNm 0) (ze0) (zbr)) (mNil))))) (zdj (mTst (zat zdE (zab (mVar 0) (mNil)))))) (mRet (mCon (.bl false))) (zcO)) (mRet (mBin eqD (zat lenD (zab (zat zaZ (zab (mVar 0) (mNil))) (mNil))) (mBin subD (zat lenD (zab (mVar 0) (mNil))) (mCon (.int 1))))))
noncomputable def zbh:GN:=fnM 1 za9
noncomputable def za7:MS:=mAsg (mBin mulB (mVar 3) (mBin powB (mCon (.int 10)) (mCon (.int 60)))) (gNm 3)
noncomputable def za6:MS:=mSeq (mAsg (mBin modD (mVar 5) (mCon (.int 1000003))) (gNm 6)) (mAsg (mBin modD (mBin addD (mBin addD (mBin addD (mBin mulA (mVar 2) (mCon (.int 69069))) (mBin mulA (mVar 6) (mVar 6))) (mVar 5)) (mCon (.int 5))) (mCon (.int 2305843009213693951))) (gNm 2))
noncomputable def zaI:ME:=mBin modD (zat absC (zab (mVar 0) (mNil))) (mVar 1)
noncomputable def zbk:MS:=mSeq (mAsg (mTup (zab (mLst (mNil)) (zab (mCon (.int 4099)) (zab (mBin powB (mCon (.int 10)) (mCon (.int 60))) (mNil))))) (gTp 3 (gC (gNm 1) (gC (gNm 2) (gC (gNm 3) (gN0)))))) (mSeq (mFor (mR1 (mCon (.int 6))) (gNm 4) (za7)) (mSeq (mFor (mWA (mSlC (mVar 0) (zb6) (zbI (mCon (.int 63))))) (gNm 5) (za6)) (mSeq (mIf (zeu (mTst (mBin gtD (zat lenD (zab (mVar 0) (mNil))) (mCon (.int 0)))) (mTst (mBin geD (mBin ixA (mVar 0) (mCon (.int 0))) (mBin powB (mCon (.int 10)) (mCon (.int 18)))))) (mAsg (zd4 (mWA (mSlC (mVar 0) (zb6) (zbI (mCon (.int 63))))) 1 [3] (gNm 0) (ze0) (zaI)) (gNm 1)) (zcO)) (mRet (zkn "own" "seed" "turn" (mVar 1) (mVar 2) (mCon (.int 0)))))))
noncomputable def za2:GN:=fnM 7 zbk
noncomputable def zaH:MT:=zeu (mTst (mBin neD (mBin ixA (mVar 0) (mCon (.str "own"))) (mLst (mNil)))) (mTst (mBin eqD (mBin ixA (mBin ixA (mVar 0) (mCon (.str "own"))) (mCon (.int 0))) (mCon (.int 0))))
noncomputable def zbm:MS:=mExp (mPop (mBin ixA (mVar 0) (mCon (.str "own"))) (zab (mCon (.int 0)) (mNil)))
noncomputable def zbs:MS:=mSeq (mWhF (zaH) (zbm) 100) (mSeq (mIf (mTst (mBin neD (mBin ixA (mVar 0) (mCon (.str "own"))) (mLst (mNil)))) (mSeq (mAsg (mBin modD (mBin ixA (mBin ixA (mVar 0) (mCon (.str "own"))) (mCon (.int 0))) (mVar 1)) (gNm 2)) (mSeq (putA (mBin ixA (mVar 0) (mCon (.str "own"))) (mCon (.int 0)) (mBin zkC (mBin ixA (mBin ixA (mVar 0) (mCon (.str "own"))) (mCon (.int 0))) (mVar 1))) (mRet (mVar 2)))) (zcO)) (mSeq (putA (mVar 0) (mCon (.str "turn")) (mBin addE (mBin ixA (mVar 0) (mCon (.str "turn"))) (mCon (.int 1)))) (mSeq (mAsg (mBin modD (mBin mulA (mBin addE (mBin ixA (mVar 0) (mCon (.str "seed"))) (mBin mulA (mBin mulA (mCon (.int 7919)) (mBin ixA (mVar 0) (mCon (.str "turn")))) (mBin ixA (mVar 0) (mCon (.str "turn"))))) (mCon (.int 48271))) (mCon (.int 2305843009213693907))) (gNm 3)) (mSeq (mAsg (mBin modD (mBin mulA (mVar 3) (mBin addD (mBin addD (mBin modD (mVar 3) (mCon (.int 999983))) (mBin mulA (mCon (.int 131)) (mBin ixA (mVar 0) (mCon (.str "turn"))))) (mCon (.int 3)))) (mCon (.int 2305843009213693921))) (gNm 3)) (mRet (mBin modD (mBin addD (mBin zkC (mVar 3) (mCon (.int 89))) (mBin zkC (mVar 3) (mCon (.int 1000033)))) (mVar 1)))))))
noncomputable def zaf:GN:=fnM 4 zbs
noncomputable def zdi:MS:=mRet (mBin ixA (mVar 1) (zat zaf (zab (mVar 0) (zab (zat lenD (zab (mVar 1) (mNil))) (mNil)))))
noncomputable def zao:GN:=fnM 2 zdi
noncomputable def zay:MS:=mSeq (mAsg (zat zao (zab (mVar 0) (zab (mVar 2) (mNil)))) (gTp 2 (gC (gNm 4) (gC (gNm 5) (gN0))))) (mSeq (mAsg (zat zao (zab (mVar 0) (zab (mLst (zab (mTup (zab (mCon (.int 0)) (zab (mCon (.int 1)) (mNil)))) (zab (mTup (zab (mCon (.int 1)) (zab (mCon (.int 0)) (mNil)))) (zab (mTup (zab (mCon (.int 0)) (zab (mNeg (mCon (.int 1))) (mNil)))) (zab (mTup (zab (mNeg (mCon (.int 1))) (zab (mCon (.int 0)) (mNil)))) (mNil)))))) (mNil)))) (gTp 2 (gC (gNm 6) (gC (gNm 7) (gN0))))) (mSeq (mAsg (mTup (zab (mBin addD (mVar 4) (mVar 6)) (zab (mBin addD (mVar 5) (mVar 7)) (mNil)))) (gNm 8)) (mIf (zeu (mTst (mBin zb1 (mVar 8) (mVar 2))) (zeu (mTst (mBin leD (mCon (.int 1)) (zat zkY (zab (mVar 8) (mNil))))) (mTst (mBin leD (zat zkZ (zab (mVar 8) (mNil))) (mCon (.int 6)))))) (mExp (mApp (mVar 2) (zab (mVar 8) (mNil)))) (zcO))))
noncomputable def za8:MS:=mSeq (mAsg (mLst (zab (mTup (zab (mBin addD (mCon (.int 1)) (zat zaf (zab (mVar 0) (zab (mCon (.int 6)) (mNil))))) (zab (mBin addD (mCon (.int 1)) (zat zaf (zab (mVar 0) (zab (mCon (.int 6)) (mNil))))) (mNil)))) (mNil))) (gNm 2)) (mSeq (mFor (mR1 (mBin subD (mVar 1) (mCon (.int 1)))) (gNm 3) (zay)) (mRet (zat zcS (zab (zat zbu (zab (mVar 2) (mNil))) (mNil)))))
noncomputable def zaw:GN:=fnM 9 za8
noncomputable def zcI:MS:=mRet (ziu (mIsi "int" (mVar 0)) (ziu (zme (mIsi "bool" (mVar 0))) (zbx leD leD (mCon (.int 1)) (mVar 0) (mCon (.int 6)))))
noncomputable def zbg:GN:=fnM 1 zcI
noncomputable def zbw:ME:=mVar 0
noncomputable def zbe:MT:=mTst (mBin inA (mVar 0) (mVar 1))
noncomputable def za3:MS:=mSeq (mAsg (mLst (zab (mTup (zab (mVar 3) (zab (mBin addD (mVar 4) (mCon (.int 1))) (mNil)))) (zab (mTup (zab (mVar 3) (zab (mBin subD (mVar 4) (mCon (.int 1))) (mNil)))) (zab (mTup (zab (mBin addD (mVar 3) (mCon (.int 1))) (zab (mVar 4) (mNil)))) (zab (mTup (zab (mBin subD (mVar 3) (mCon (.int 1))) (zab (mVar 4) (mNil)))) (mNil)))))) (gNm 5)) (mIf (zeu (mTst (mBin zb1 (mTup (zab (mVar 3) (zab (mVar 4) (mNil)))) (mVar 1))) (mTst (mBin neD (zd4 (mWA (mVar 5)) 1 [1] (gNm 0) (zbe) (zbw)) (mLst (mNil))))) (mExp (mApp (mVar 1) (zab (mTup (zab (mVar 3) (zab (mVar 4) (mNil)))) (mNil)))) (zcO))
noncomputable def zbf:MS:=mFor (mWA (mVar 0)) (gTp 2 (gC (gNm 3) (gC (gNm 4) (gN0)))) (za3)
noncomputable def zcC:MS:=mSeq (mAsg (mLst (zab (mBin ixA (mVar 0) (mCon (.int 0))) (mNil))) (gNm 1)) (mSeq (mFor (mR1 (zat lenD (zab (mVar 0) (mNil)))) (gNm 2) (zbf)) (mRet (zat lenD (zab (mVar 1) (mNil)))))
noncomputable def zbB:GN:=fnM 6 zcC
noncomputable def zaP:MS:=mIf (mOrT (zdj (mTst (mIsi "tuple" (mVar 1)))) (mOrT (mTst (mBin neD (zat lenD (zab (mVar 1) (mNil))) (mCon (.int 2)))) (mOrT (zdj (mTst (zat zbg (zab (mBin ixA (mVar 1) (mCon (.int 0))) (mNil))))) (zdj (mTst (zat zbg (zab (mBin ixA (mVar 1) (mCon (.int 1))) (mNil)))))))) (mRet (mCon (.bl false))) (zcO)
noncomputable def zaD:MS:=mIf (zdj (mTst (mBin ltB (mVar 2) (mVar 3)))) (mRet (mCon (.bl false))) (zcO)
noncomputable def zax:MS:=mSeq (mIf (mOrT (zdj (mTst (mIsi "tuple" (mVar 0)))) (zdj (mTst (zbx leD leD (mCon (.int 1)) (zat lenD (zab (mVar 0) (mNil))) (mCon (.int 12)))))) (mRet (mCon (.bl false))) (zcO)) (mSeq (mFor (mWA (mVar 0)) (gNm 1) (zaP)) (mSeq (mFor (mZip (mVar 0) (mSlC (mVar 0) (zbI (mCon (.int 1))) (zb6))) (gTp 2 (gC (gNm 2) (gC (gNm 3) (gN0)))) (zaD)) (mRet (mBin eqD (zat zbB (zab (mVar 0) (mNil))) (zat lenD (zab (mVar 0) (mNil)))))))
noncomputable def zaV:GN:=fnM 4 zax
noncomputable def zcB:MS:=mRet (mBin addD (mBin addE (mSlC (mVar 0) (zb6) (zbI (mVar 1))) (mTup (zab (mVar 2) (mNil)))) (mSlC (mVar 0) (zbI (mBin addD (mVar 1) (mCon (.int 1)))) (zb6)))
noncomputable def zak:GN:=fnM 3 zcB
noncomputable def zaA:MS:=mSeq (mPar 2 3 (zab (zat zaf (zab (mVar 0) (zab (zat lenD (zab (mVar 1) (mNil))) (mNil)))) (zab (mTup (zab (mBin addD (mCon (.int 1)) (zat zaf (zab (mVar 0) (zab (mCon (.int 6)) (mNil))))) (zab (mBin addD (mCon (.int 1)) (zat zaf (zab (mVar 0) (zab (mCon (.int 6)) (mNil))))) (mNil)))) (mNil)))) (mSeq (mAsg (mBin ixA (mVar 1) (mVar 2)) (gTp 2 (gC (gNm 4) (gC (gNm 5) (gN0))))) (mSeq (mAsg (zat zaf (zab (mVar 0) (zab (mCon (.int 12)) (mNil)))) (gNm 6)) (mSeq (mIf (mTst (mBin eqD (mVar 6) (mCon (.int 0)))) (mRet (zat zak (zab (mVar 1) (zab (mVar 2) (zab (zat zao (zab (mVar 0) (zab (mLst (zab (mTup (zab (mVar 4) (zab (mBin addD (mVar 5) (mCon (.int 1))) (mNil)))) (zab (mTup (zab (mBin addD (mVar 4) (mCon (.int 1))) (zab (mVar 5) (mNil)))) (zab (mTup (zab (mVar 4) (zab (mBin subD (mVar 5) (mCon (.int 1))) (mNil)))) (zab (mTup (zab (mBin subD (mVar 4) (mCon (.int 1))) (zab (mVar 5) (mNil)))) (mNil)))))) (mNil)))) (mNil)))))) (zcO)) (mSeq (mIf (mTst (mBin eqD (mVar 6) (mCon (.int 1)))) (mRet (mBin addD (mBin addE (mSlC (mVar 1) (zb6) (zbI (mVar 2))) (mSlC (mVar 1) (zbI (mVar 2)) (zbI (mBin addD (mVar 2) (mCon (.int 1)))))) (mSlC (mVar 1) (zbI (mVar 2)) (zb6)))) (zcO)) (mSeq (mIf (mTst (mBin eqD (mVar 6) (mCon (.int 2)))) (mRet (mBin addE (mSlC (mVar 1) (zb6) (zbI (mVar 2))) (mSlC (mVar 1) (zbI (mBin addD (mVar 2) (mCon (.int 1)))) (zb6)))) (zcO)) (mSeq (mIf (mTst (mBin eqD (mVar 6) (mCon (.int 3)))) (mRet (zat zcS (zab (zat zbu (zab (mBin addD (mVar 1) (mTup (zab (mVar 3) (mNil)))) (mNil))) (mNil)))) (zcO)) (mSeq (mIf (mTst (mBin eqD (mVar 6) (mCon (.int 4)))) (mRet (mBin addD (mBin addE (mSlC (mVar 1) (zb6) (zbI (mVar 2))) (mTup (zab (mVar 3) (mNil)))) (mSlC (mVar 1) (zbI (mVar 2)) (zb6)))) (zcO)) (mSeq (mIf (mTst (mBin eqD (mVar 6) (mCon (.int 5)))) (mSeq (mAsg (zat zaf (zab (mVar 0) (zab (zat lenD (zab (mVar 1) (mNil))) (mNil)))) (gNm 7)) (mRet (zat zak (zab (zat zak (zab (mVar 1) (zab (mVar 2) (zab (mBin ixA (mVar 1) (mVar 7)) (mNil))))) (zab (mVar 7) (zab (mBin ixA (mVar 1) (mVar 2)) (mNil))))))) (zcO)) (mSeq (mAsg (zat zao (zab (mVar 0) (zab (mLst (zab (mCon (.int 0)) (zab (mCon (.int 7)) (zab (mNeg (mVar 4)) (zab (mBin addD (mBin powB (mCon (.int 10)) (mCon (.int 30))) (mVar 4)) (zab (mCon (.bl true)) (zab (mCon (.str "1")) (zab (mCon .non) (zab (mTup (zab (mVar 4) (mNil))) (zab (mCon (.int 1)) (mNil))))))))))) (mNil)))) (gNm 8)) (mSeq (mIf (mTst (mBin ltD (mVar 6) (mCon (.int 8)))) (mRet (zat zak (zab (mVar 1) (zab (mVar 2) (zab (zat zao (zab (mVar 0) (zab (mLst (zab (mTup (zab (mVar 8) (zab (mVar 5) (mNil)))) (zab (mTup (zab (mVar 4) (zab (mVar 8) (mNil)))) (mNil)))) (mNil)))) (mNil)))))) (zcO)) (mRet (zat zao (zab (mVar 0) (zab (mLst (zab (zat zak (zab (mVar 1) (zab (mVar 2) (zab (mTup (zab (mVar 4) (mNil))) (mNil))))) (zab (zat zak (zab (mVar 1) (zab (mVar 2) (zab (mTup (zab (mVar 4) (zab (mVar 5) (zab (mVar 8) (mNil))))) (mNil))))) (zab (zat zak (zab (mVar 1) (zab (mVar 2) (zab (mLst (zab (mVar 4) (zab (mVar 5) (mNil)))) (mNil))))) (zab (zat zk1 (zab (mVar 1) (mNil))) (zab (zat zak (zab (mVar 1) (zab (mVar 2) (zab (mVar 8) (mNil))))) (zab (mTup (zab (mVar 1) (mNil))) (zab (mBin addD (mVar 1) (mTup (zab (mTup (mNil)) (mNil)))) (zab (zk0 (mVar 1) (mNeg (mCon (.int 1)))) (mNil)))))))))) (mNil)))))))))))))))
noncomputable def zbc:GN:=fnM 9 zaA
noncomputable def za0:ME:=mTup (zab (mVar 1) (zab (mVar 0) (mNil)))
noncomputable def zaN:MT:=mOrT (mTst (mBin inA (mVar 1) (mTup (zab (mCon (.int 1)) (zab (mBin addD (mCon (.int 1)) (mVar 2)) (mNil)))))) (mTst (mBin inA (mVar 0) (mTup (zab (mCon (.int 1)) (zab (mBin addD (mCon (.int 1)) (mVar 3)) (mNil))))))
noncomputable def zaY:MS:=mExp (mExt (mVar 3) (zab (zd4 (mR2 (mCon (.int 1)) (mBin addD (mCon (.int 2)) (mVar 2))) 1 [4,1,2] (gNm 0) (zaN) (za0)) (mNil)))
noncomputable def zbO:MS:=mSeq (mAsg (mTup (zab (mBin addD (mCon (.int 1)) (zat zaf (zab (mVar 0) (zab (mCon (.int 4)) (mNil))))) (zab (mBin addD (mCon (.int 1)) (zat zaf (zab (mVar 0) (zab (mCon (.int 4)) (mNil))))) (mNil)))) (gTp 2 (gC (gNm 1) (gC (gNm 2) (gN0))))) (mSeq (mAsg (mLst (mNil)) (gNm 3)) (mSeq (mFor (mR2 (mCon (.int 1)) (mBin addD (mCon (.int 2)) (mVar 1))) (gNm 4) (zaY)) (mRet (zat zcS (zab (zat zbu (zab (mVar 3) (mNil))) (mNil))))))
noncomputable def zaQ:GN:=fnM 5 zbO
noncomputable def zeH:MS:=mExp (mApp (mVar 4) (zab (zat zbc (zab (mVar 1) (zab (mVar 3) (mNil)))) (mNil)))
noncomputable def zdD:MS:=mSeq (mAsg (zat zi4 (zab (mVar 6) (mNil))) (gNm 7)) (mSeq (mAsg (zat zbh (zab (mVar 6) (mNil))) (gNm 8)) (mIf (mOrT (zdj (mTst (mIsi "bool" (mVar 8)))) (mOrT (mTst (mBin neD (mVar 8) (zat zaV (zab (mVar 6) (mNil))))) (mTst (mBin neS (zat zi4 (zab (mVar 6) (mNil))) (mVar 7))))) (mRet (mCon (.bl false))) (zcO)))
noncomputable def zfK:MS:=mSeq (mAsg (zat zao (zab (mVar 1) (zab (mLst (zab (zat zaw (zab (mVar 1) (zab (mBin addD (mCon (.int 1)) (zat zaf (zab (mVar 1) (zab (mCon (.int 12)) (mNil))))) (mNil)))) (zab (zat zaQ (zab (mVar 1) (mNil))) (mNil)))) (mNil)))) (gNm 3)) (mSeq (mAsg (mLst (zab (mVar 3) (zab (mCon .non) (zab (mTup (mNil)) (zab (mLst (mNil)) (zab (mCon (.int 7)) (zab (mCon (.str "")) (zab (mTup (zab (mCon (.int 1)) (zab (mCon (.int 1)) (mNil)))) (zab (mTup (zab (mTup (zab (mCon (.int 1)) (zab (mCon (.int 1)) (mNil)))) (mNil))) (zab (mTup (zab (mTup (zab (mCon (.int 1)) (zab (mCon (.int 1)) (mNil)))) (zab (mCon .non) (mNil)))) (zab (mCon (.bl true)) (zab (zmh false) (mNil))))))))))))) (gNm 4)) (mSeq (mFor (mR1 (mCon (.int 8))) (gNm 5) (zeH)) (mFor (mWA (mVar 4)) (gNm 6) (zdD))))
noncomputable def zoB:MS:=mSeq (mAsg (zat za2 (zab (mVar 0) (mNil))) (gNm 1)) (mSeq (mFor (mR1 (mCon (.int 6))) (gNm 2) (zfK)) (mRet (mCon (.bl true))))
noncomputable def zkU:GN:=fnM 9 zoB
end L2.MP.stickytiles_k52_shapes_or_not
namespace L2.MP.stickytiles_k52_shapes_or_not
open PySem L2 L2.MP L2.MP.Hd PySem.Spec PyProof.Rows
noncomputable def top(i:Nat):Stmt:=PySem.Challenge.pw_stickytiles_k52_shapes_or_not.main.body.getD i (.Pass ⟨0,0,0,0⟩)
section
variable {P:Program} {w:World} {K:Ab} {mg:Str->Option Value} {base:Heap}
theorem nd_0:(["one","other"]:List Str).Nodup:=by decide +kernel
theorem nd_1:(["place","x","y"]:List Str).Nodup:=by decide +kernel
theorem nd_2:(["places","steps","reached","ahead","place","side","near"]:List Str).Nodup:=by decide +kernel
theorem nd_3:(["part"]:List Str).Nodup:=by decide +kernel
theorem nd_4:(["_law_script","_law_own","_law_seed","_law_far","_law_k","_law_cell","_law_part"]:List Str).Nodup:=by decide +kernel
theorem nd_5:(["_law_cell","_law_far"]:List Str).Nodup:=by decide +kernel
theorem nd_6:(["_law_spring","_law_many","_law_digit","_law_once"]:List Str).Nodup:=by decide +kernel
theorem nd_7:(["_law_spring","_law_many","_law_spots","_law_k","_law_x","_law_y","_law_right","_law_up","_law_spot"]:List Str).Nodup:=by decide +kernel
theorem nd_8:(["_law_spots","_law_met","_law_k","_law_x","_law_y","_law_near"]:List Str).Nodup:=by decide +kernel
theorem nd_9:(["_law_spot","_law_met"]:List Str).Nodup:=by decide +kernel
theorem znV:(["_law_thing","_law_spot","_law_one","_law_other"]:List Str).Nodup:=by decide +kernel
theorem zkX:(["_law_spring","_law_shape","_law_at","_law_far","_law_x","_law_y","_law_way","_law_other","_law_odd"]:List Str).Nodup:=by decide +kernel
theorem zmO:(["_law_spring","_law_wide","_law_high","_law_spots","_law_x"]:List Str).Nodup:=by decide +kernel
theorem zpl:(["_law_y","_law_x","_law_wide","_law_high"]:List Str).Nodup:=by decide +kernel
theorem zjb:(["_law_script","_law_spring","_law_turn","_law_shape","_law_some","_law_k","_law_thing","_law_kept","_law_told"]:List Str).Nodup:=by decide +kernel
theorem zfX:FnScope ["thing","least","most"] ["thing","least","most"] (zar (top 1)):=⟨rfl,rfl,rfl,by decide +kernel,rfl,by decide +kernel,by decide +kernel⟩
theorem zf1(L:Laid K mg "is_whole" (top 1) ["thing","least","most"])(b_isinstance:mg "isinstance"=none)(b_int:mg "int"=none)(b_bool:mg "bool"=none):zbA P w K mg base 1 "is_whole" 3 zbN :=
 zbM (k:=0) L zfX fun f cdv A outer s H E hr=>JSs.out (zan (JS.mk (zaX (zeQ (zdN (T:="int") (x:="isinstance") (by decide) rfl b_isinstance (zac 0) rfl b_int zmw) (zeQ (zly (zdN (T:="bool") (x:="isinstance") (by decide) rfl b_isinstance (zac 0) rfl b_bool zhA)) (zfj (zgC zdl zdl (zac 1) (zac 0) (zac 2))))))))
theorem zfY:FnScope ["thing","size"] ["thing","size"] (zar (top 2)):=⟨rfl,rfl,rfl,by decide +kernel,rfl,by decide +kernel,by decide +kernel⟩
theorem zf2(L:Laid K mg "is_tuple" (top 2) ["thing","size"])(b_isinstance:mg "isinstance"=none)(b_tuple:mg "tuple"=none)(b_len:mg "len"=none):zbA P w K mg base 1 "is_tuple" 2 zcj :=
 zbM (k:=0) L zfY fun f cdv A outer s H E hr=>JSs.out (zan (JS.mk (zaX (zeQ (zdN (T:="tuple") (x:="isinstance") (by decide) rfl b_isinstance (zac 0) rfl b_tuple zb5) (zfj (zh5 (zdm (zaO hr)) (zaC zaT rfl b_len zcz (zaa (zac 0) (zae))) (zac 1) rfl))))))
theorem zjU:FnScope ["parts"] ["parts"] (zar (top 3)):=⟨rfl,rfl,rfl,by decide +kernel,rfl,by decide +kernel,by decide +kernel⟩
theorem zkg(L:Laid K mg "rises" (top 3) ["parts"])(b_zip:mg "zip"=none)(b_all:mg "all"=none):zbA P w K mg base 1 "rises" 1 zdE :=
 zbM (k:=0) L zjU fun f cdv A outer s H E hr=>JSs.out (zan (JS.mk (zaX (zaC (zfF rfl) rfl b_all zmx (zaa (zfi rfl rfl (zdc (N':=["one","other"]) (nt:=2) (fr:=[]) [] rfl (by decide +kernel) (by decide +kernel) (by decide +kernel) rfl trivial trivial) (zls rfl b_zip (zac 0) (zaR (zac 0) (zbv (zah)) (zbF))) (fun C s0 H0 fp=>zdM rfl (zaL (zaB (i:=0) nd_0 rfl (by first | exact AA rfl | exact Az rfl)) (zaL (zaB (i:=1) nd_0 rfl (by first | exact AA rfl | exact Az rfl)) (zcc)))) (fun C s0 H0 fp=>zjV) (fun C s0 H0 fp=>zh5 (zl5 (zaO hr)) (zac 0) (zac 1) rfl)) (zae))))))
theorem zc2:FnScope ["place","x","y"] ["place"] (zar (top 5)):=⟨rfl,rfl,rfl,by decide +kernel,rfl,by decide +kernel,by decide +kernel⟩
theorem zc7(L:Laid K mg "places_around" (top 5) ["place"]):zbA P w K mg base 1 "places_around" 1 zaJ :=
 zbM (k:=0) L zc2 fun f cdv A outer s H E hr=>JSs.out (zai (JS.mk (zbi (i:=1) nd_1 rfl (by first | exact AA rfl | exact Az rfl) (za4 (zbP hr) (zac 0) (zah)))) (zai (JS.mk (zbi (i:=2) nd_1 rfl (by first | exact AA rfl | exact Az rfl) (za4 (zbP hr) (zac 0) (zah)))) (zan (JS.mk (zaX (zaE (JA.out (zas (zaE (zaa (zac 1) (zaa (zap zaz (zac 2) (zah)) (zae)))) (zas (zaE (zaa (zap zaz (zac 1) (zah)) (zaa (zac 2) (zae)))) (zas (zaE (zaa (zac 1) (zaa (zap zcE (zac 2) (zah)) (zae)))) (zas (zaE (zaa (zap zcE (zac 1) (zah)) (zaa (zac 2) (zae)))) (ze5))))))))))))
theorem zgE:FnScope ["thing"] ["thing"] (zar (top 7)):=⟨rfl,rfl,rfl,by decide +kernel,rfl,by decide +kernel,by decide +kernel⟩
theorem zgY(L:Laid K mg "is_spot" (top 7) ["thing"])(h_is_tuple:zbA P w K mg base 1 "is_tuple" 2 zcj)(h_is_whole:zbA P w K mg base 1 "is_whole" 3 zbN):zbA P w K mg base 2 "is_spot" 1 zcQ :=
 zbM (k:=1) L zgE fun f cdv A outer s H E hr=>JSs.out (zan (JS.mk (zaX (zeQ (zal h_is_tuple (hr.mono (by decide)) rfl (zaa (zac 0) (zaa (zah) (zae))) (zau.cons (zau.cons zau.nil))) (zeQ (zal h_is_whole (hr.mono (by decide)) rfl (zaa (za4 (zbP hr) (zac 0) (zah)) (zaa (zah) (zaa (zah) (zae)))) (zau.cons (zau.cons (zau.cons zau.nil)))) (zfj (zal h_is_whole (hr.mono (by decide)) rfl (zaa (za4 (zbP hr) (zac 0) (zah)) (zaa (zah) (zaa (zah) (zae)))) (zau.cons (zau.cons (zau.cons zau.nil))))))))))
theorem zc1:FnScope ["places","steps","reached","ahead","place","side","near"] ["places"] (zar (top 8)):=⟨rfl,rfl,rfl,by decide +kernel,rfl,by decide +kernel,by decide +kernel⟩
theorem zc6(L:Laid K mg "steps_through" (top 8) ["places"])(b_enumerate:mg "enumerate"=none)(h_places_around:zbA P w K mg base 1 "places_around" 1 zaJ):zbA P w K mg base 2 "steps_through" 1 zaZ :=
 zbM (k:=1) L zc1 fun f cdv A outer s H E hr=>JSs.out (zai (JS.mk (zbi (i:=1) nd_2 rfl (by first | exact AA rfl | exact Az rfl) (zbC (zae)))) (zai (JS.mk (zbi (i:=2) nd_2 rfl (by first | exact AA rfl | exact Az rfl) (zjS (zbP hr) (za4 (zbP hr) (zac 0) (zah)) (zgD)))) (zai (JS.mk (zbi (i:=3) nd_2 rfl (by first | exact AA rfl | exact Az rfl) (zbC (zaa (za4 (zbP hr) (zac 0) (zah)) (zae))))) (zai (zhb A2 (znf (zac 3)) (zai (JS.mk (zbi (i:=4) nd_2 rfl (by first | exact AA rfl | exact Az rfl) (zlx (zac 3)))) (zan (zcJ A2 rfl (zlv rfl b_enumerate (zal h_places_around (hr.mono (by decide)) rfl (zaa (zac 4) (zae)) (zau.cons zau.nil))) (zdM rfl (zaL (zaB (i:=5) nd_2 rfl (by first | exact AA rfl | exact Az rfl)) (zaL (zaB (i:=6) nd_2 rfl (by first | exact AA rfl | exact Az rfl)) (zcc)))) (zan (zee (SW.sb (zfN (zh8 (zaO hr) (zac 6) (zac 0)) (zei (zdQ (zaO hr) (zac 6) (zac 2))))) (zai (JS.mk (zjD (zbP hr) (zac 2) (zac 6) (zgD))) (zai (JS.mk (zcV (zcd (zac 1) (zaa (zaE (zaa (zac 4) (zaa (zac 5) (zaa (zac 6) (zae))))) (zae))))) (zan (JS.mk (zcV (zcd (zac 3) (zaa (zac 6) (zae)))))))) (zbb))))))) (zan (JS.mk (zaX (zac 1))))))))
theorem zfZ:FnScope ["thing"] ["thing"] (zar (top 9)):=⟨rfl,rfl,rfl,by decide +kernel,rfl,by decide +kernel,by decide +kernel⟩
theorem zf3(L:Laid K mg "is_shape" (top 9) ["thing"])(b_isinstance:mg "isinstance"=none)(b_tuple:mg "tuple"=none)(b_len:mg "len"=none)(b_all:mg "all"=none)(h_is_spot:zbA P w K mg base 2 "is_spot" 1 zcQ)(h_rises:zbA P w K mg base 1 "rises" 1 zdE)(h_steps_through:zbA P w K mg base 2 "steps_through" 1 zaZ):zbA P w K mg base 3 "is_shape" 1 zbh :=
 zbM (k:=2) L zfZ fun f cdv A outer s H E hr=>JSs.out (zai (zee (SW.sb (zhT (zc3 (zi2 (zdN (T:="tuple") (x:="isinstance") (by decide) rfl b_isinstance (zac 0) rfl b_tuple zb5))) (zfM (zc3 (zgF zdl zdl (zah) (zaC zaT rfl b_len zcz (zaa (zac 0) (zae))) (zah)))))) (zan (JS.mk (zaX (zgD)))) (zbb)) (zai (zee (SW.sb (zhT (zc3 (zi2 (zaC (zfF rfl) rfl b_all zmx (zaa (zfi rfl rfl (zdc (N':=["part"]) (nt:=1) (fr:=[]) [] rfl (by decide +kernel) (by decide +kernel) (by decide +kernel) rfl trivial trivial) (zbV (zac 0)) (fun C s0 H0 fp=>zaB (i:=0) nd_3 rfl (by first | exact AA rfl | exact Az rfl)) (fun C s0 H0 fp=>zjV) (fun C s0 H0 fp=>zal h_is_spot (hr.mono (by decide)) rfl (zaa (zac 0) (zae)) (zau.cons zau.nil))) (zae))))) (zfM (zc3 (zi2 (zal h_rises (hr.mono (by decide)) rfl (zaa (zac 0) (zae)) (zau.cons zau.nil))))))) (zan (JS.mk (zaX (zgD)))) (zbb)) (zan (JS.mk (zaX (zh5 (zdm (zaO hr)) (zaC zaT rfl b_len zcz (zaa (zal h_steps_through (hr.mono (by decide)) rfl (zaa (zac 0) (zae)) (zau.cons zau.nil)) (zae))) (zap zcE (zaC zaT rfl b_len zcz (zaa (zac 0) (zae))) (zah)) rfl))))))
theorem zcm:FnScope ["_law_script","_law_own","_law_seed","_law_far","_law_k","_law_cell","_law_part"] ["_law_script"] (zar (top 11)):=⟨rfl,rfl,rfl,by decide +kernel,rfl,by decide +kernel,by decide +kernel⟩
theorem zco(L:Laid K mg "_law_spring_of" (top 11) ["_law_script"])(b_range:mg "range"=none)(b_len:mg "len"=none)(b_abs:mg "abs"=none):zbA P w K mg base 1 "_law_spring_of" 1 za2 :=
 zbM (k:=0) L zcm fun f cdv A outer s H E hr=>JSs.out (zai (JS.mk (zfQ (zaE (zaa (zbC (zae)) (zaa (zah) (zaa (zap zfp (zah) (zah)) (zae))))) (zdM rfl (zaL (zaB (i:=1) nd_4 rfl (by first | exact AA rfl | exact Az rfl)) (zaL (zaB (i:=2) nd_4 rfl (by first | exact AA rfl | exact Az rfl)) (zaL (zaB (i:=3) nd_4 rfl (by first | exact AA rfl | exact Az rfl)) (zcc))))))) (zai (zcJ A2 rfl (zcb rfl b_range (zah)) (zaB (i:=4) nd_4 rfl (by first | exact AA rfl | exact Az rfl)) (zan (JS.mk (zbi (i:=3) nd_4 rfl (by first | exact AA rfl | exact Az rfl) (zap zl1 (zac 3) (zap zfp (zah) (zah))))))) (zai (zcJ A2 rfl (zbV (zaR (zac 0) (zbF) (zbv (zah)))) (zaB (i:=5) nd_4 rfl (by first | exact AA rfl | exact Az rfl)) (zai (JS.mk (zbi (i:=6) nd_4 rfl (by first | exact AA rfl | exact Az rfl) (zap zcF (zac 5) (zah)))) (zan (JS.mk (zbi (i:=2) nd_4 rfl (by first | exact AA rfl | exact Az rfl) (zap zcF (zap zaz (zap zaz (zap zaz (zap zc5 (zac 2) (zah)) (zap zc5 (zac 6) (zac 6))) (zac 5)) (zah)) (zah))))))) (zai (zee (SW.sb (zfN (zbt znO (zaC zaT rfl b_len zcz (zaa (zac 0) (zae))) (zah) rfl) (zei (zbt znP (za4 (zbP hr) (zac 0) (zah)) (zap zfp (zah) (zah)) rfl)))) (zan (JS.mk (zfP (i:=1) rfl rfl (zdc (N':=["_law_cell","_law_far"]) (nt:=1) (fr:=[3]) ["_law_far"] rfl (by decide +kernel) (by decide +kernel) (by decide +kernel) rfl ⟨⟨rfl,by decide⟩,trivial⟩ ⟨by first | exact AA rfl | exact Az rfl,trivial⟩) (zbV (zaR (zac 0) (zbF) (zbv (zah)))) (fun C s0 H0 fp=>zaB (i:=0) nd_5 rfl (by first | exact AA rfl | exact Az rfl)) (fun C s0 H0 fp=>zjV) (fun C s0 H0 fp=>zap zcF (zaC ziN rfl b_abs zoq (zaa (zac 0) (zae))) (zac 1)) nd_4 rfl rfl))) (zbb)) (zan (JS.mk (zaX (zjT (zbH) (zac 1) (zbH) (zac 2) (zbH) (zah) (by decide)))))))))
theorem zen:FnScope ["_law_spring","_law_many","_law_digit","_law_once"] ["_law_spring","_law_many"] (zar (top 12)):=⟨rfl,rfl,rfl,by decide +kernel,rfl,by decide +kernel,by decide +kernel⟩
theorem zes(L:Laid K mg "_law_take" (top 12) ["_law_spring","_law_many"]):zbA P w K mg base 1 "_law_take" 2 zaf :=
 zbM (k:=0) L zen fun f cdv A outer s H E hr=>JSs.out (zai (zhb A2 (SW.sb (zfN (zbt (zgV (zaO hr)) (za4 (zbP hr) (zac 0) (zbH)) (zbC (zae)) rfl) (zei (zbt (zdm (zaO hr)) (za4 (zbP hr) (za4 (zbP hr) (zac 0) (zbH)) (zah)) (zah) rfl)))) (zan (JS.mk (zcV (znc (za4 (zbP hr) (zac 0) (zbH)) (zaa (zah) (zae))))))) (zai (zee (zbt (zgV (zaO hr)) (za4 (zbP hr) (zac 0) (zbH)) (zbC (zae)) rfl) (zai (JS.mk (zbi (i:=2) nd_6 rfl (by first | exact AA rfl | exact Az rfl) (zap zcF (za4 (zbP hr) (za4 (zbP hr) (zac 0) (zbH)) (zah)) (zac 1)))) (zai (JS.mk (zjD (zbP hr) (za4 (zbP hr) (zac 0) (zbH)) (zah) (zap zeV (za4 (zbP hr) (za4 (zbP hr) (zac 0) (zbH)) (zah)) (zac 1)))) (zan (JS.mk (zaX (zac 2)))))) (zbb)) (zai (JS.mk (zjD (zbP hr) (zac 0) (zbH) (zap zds (za4 (zbP hr) (zac 0) (zbH)) (zah)))) (zai (JS.mk (zbi (i:=3) nd_6 rfl (by first | exact AA rfl | exact Az rfl) (zap zcF (zap zc5 (zap zds (za4 (zbP hr) (zac 0) (zbH)) (zap zc5 (zap zc5 (zah) (za4 (zbP hr) (zac 0) (zbH))) (za4 (zbP hr) (zac 0) (zbH)))) (zah)) (zah)))) (zai (JS.mk (zbi (i:=3) nd_6 rfl (by first | exact AA rfl | exact Az rfl) (zap zcF (zap zc5 (zac 3) (zap zaz (zap zaz (zap zcF (zac 3) (zah)) (zap zc5 (zah) (za4 (zbP hr) (zac 0) (zbH)))) (zah))) (zah)))) (zan (JS.mk (zaX (zap zcF (zap zaz (zap zeV (zac 3) (zah)) (zap zeV (zac 3) (zah))) (zac 1))))))))))
theorem zfW:FnScope ["_law_spring","_law_some"] ["_law_spring","_law_some"] (zar (top 13)):=⟨rfl,rfl,rfl,by decide +kernel,rfl,by decide +kernel,by decide +kernel⟩
theorem zf0(L:Laid K mg "_law_of" (top 13) ["_law_spring","_law_some"])(b_len:mg "len"=none)(h_q_law_take:zbA P w K mg base 1 "_law_take" 2 zaf):zbA P w K mg base 2 "_law_of" 2 zao :=
 zbM (k:=1) L zfW fun f cdv A outer s H E hr=>JSs.out (zan (JS.mk (zaX (za4 (zbP hr) (zac 1) (zal h_q_law_take (hr.mono (by decide)) rfl (zaa (zac 0) (zaa (zaC zaT rfl b_len zcz (zaa (zac 1) (zae))) (zae))) (zau.cons (zau.cons zau.nil)))))))
theorem zbX:FnScope ["_law_spring","_law_many","_law_spots","_law_k","_law_x","_law_y","_law_right","_law_up","_law_spot"] ["_law_spring","_law_many"] (zar (top 14)):=⟨rfl,rfl,rfl,by decide +kernel,rfl,by decide +kernel,by decide +kernel⟩
theorem zb0(L:Laid K mg "_law_grown_shape" (top 14) ["_law_spring","_law_many"])(b_range:mg "range"=none)(b_min:mg "min"=none)(b_max:mg "max"=none)(b_sorted:mg "sorted"=none)(b_tuple:mg "tuple"=none)(h_q_law_take:zbA P w K mg base 1 "_law_take" 2 zaf)(h_q_law_of:zbA P w K mg base 2 "_law_of" 2 zao):zbA P w K mg base 3 "_law_grown_shape" 2 zaw :=
 zbM (k:=2) L zbX fun f cdv A outer s H E hr=>JSs.out (zai (JS.mk (zbi (i:=2) nd_7 rfl (by first | exact AA rfl | exact Az rfl) (zbC (zaa (zaE (zaa (zap zaz (zah) (zal h_q_law_take (hr.mono (by decide)) rfl (zaa (zac 0) (zaa (zah) (zae))) (zau.cons (zau.cons zau.nil)))) (zaa (zap zaz (zah) (zal h_q_law_take (hr.mono (by decide)) rfl (zaa (zac 0) (zaa (zah) (zae))) (zau.cons (zau.cons zau.nil)))) (zae)))) (zae))))) (zai (zcJ A2 rfl (zcb rfl b_range (zap zcE (zac 1) (zah))) (zaB (i:=3) nd_7 rfl (by first | exact AA rfl | exact Az rfl)) (zai (JS.mk (zfQ (zal h_q_law_of (hr.mono (by decide)) rfl (zaa (zac 0) (zaa (zac 2) (zae))) (zau.cons (zau.cons zau.nil))) (zdM rfl (zaL (zaB (i:=4) nd_7 rfl (by first | exact AA rfl | exact Az rfl)) (zaL (zaB (i:=5) nd_7 rfl (by first | exact AA rfl | exact Az rfl)) (zcc)))))) (zai (JS.mk (zfQ (zal h_q_law_of (hr.mono (by decide)) rfl (zaa (zac 0) (zaa (zbC (JA.out (zas (zaE (zaa (zah) (zaa (zah) (zae)))) (zas (zaE (zaa (zah) (zaa (zah) (zae)))) (zas (zaE (zaa (zah) (zaa (zh3 (zah)) (zae)))) (zas (zaE (zaa (zh3 (zah)) (zaa (zah) (zae)))) (ze5))))))) (zae))) (zau.cons (zau.cons zau.nil))) (zdM rfl (zaL (zaB (i:=6) nd_7 rfl (by first | exact AA rfl | exact Az rfl)) (zaL (zaB (i:=7) nd_7 rfl (by first | exact AA rfl | exact Az rfl)) (zcc)))))) (zai (JS.mk (zbi (i:=8) nd_7 rfl (by first | exact AA rfl | exact Az rfl) (zaE (zaa (zap zaz (zac 4) (zac 6)) (zaa (zap zaz (zac 5) (zac 7)) (zae)))))) (zan (zee (SW.sb (zfN (zdQ (zaO hr) (zac 8) (zac 2)) (zfN (zbt zdl (zah) (zaC (zhu rfl) rfl b_min zoo (zaa (zac 8) (zae))) rfl) (zei (zbt zdl (zaC (zhv rfl) rfl b_max zop (zaa (zac 8) (zae))) (zah) rfl))))) (zan (JS.mk (zcV (zcd (zac 2) (zaa (zac 8) (zae)))))) (zbb))))))) (zan (JS.mk (zaX (zcN zcx rfl b_tuple zb5 (zaa (zaC zb2 rfl b_sorted zd9 (zaa (zac 2) (zae))) (zae))))))))
theorem zdO:FnScope ["_law_thing"] ["_law_thing"] (zar (top 15)):=⟨rfl,rfl,rfl,by decide +kernel,rfl,by decide +kernel,by decide +kernel⟩
theorem zdZ(L:Laid K mg "_law_whole" (top 15) ["_law_thing"])(b_isinstance:mg "isinstance"=none)(b_int:mg "int"=none)(b_bool:mg "bool"=none):zbA P w K mg base 1 "_law_whole" 1 zbg :=
 zbM (k:=0) L zdO fun f cdv A outer s H E hr=>JSs.out (zan (JS.mk (zaX (zeQ (zdN (T:="int") (x:="isinstance") (by decide) rfl b_isinstance (zac 0) rfl b_int zmw) (zeQ (zly (zdN (T:="bool") (x:="isinstance") (by decide) rfl b_isinstance (zac 0) rfl b_bool zhA)) (zfj (zgC zdl zdl (zah) (zac 0) (zah))))))))
theorem zeS:FnScope ["_law_spots","_law_met","_law_k","_law_x","_law_y","_law_near"] ["_law_spots"] (zar (top 16)):=⟨rfl,rfl,rfl,by decide +kernel,rfl,by decide +kernel,by decide +kernel⟩
theorem zeX(L:Laid K mg "_law_led" (top 16) ["_law_spots"])(b_len:mg "len"=none)(b_range:mg "range"=none):zbA P w K mg base 1 "_law_led" 1 zbB :=
 zbM (k:=0) L zeS fun f cdv A outer s H E hr=>JSs.out (zai (JS.mk (zbi (i:=1) nd_8 rfl (by first | exact AA rfl | exact Az rfl) (zbC (zaa (za4 (zbP hr) (zac 0) (zah)) (zae))))) (zai (zcJ A2 rfl (zcb rfl b_range (zaC zaT rfl b_len zcz (zaa (zac 0) (zae)))) (zaB (i:=2) nd_8 rfl (by first | exact AA rfl | exact Az rfl)) (zan (zcJ A2 rfl (zbV (zac 0)) (zdM rfl (zaL (zaB (i:=3) nd_8 rfl (by first | exact AA rfl | exact Az rfl)) (zaL (zaB (i:=4) nd_8 rfl (by first | exact AA rfl | exact Az rfl)) (zcc)))) (zai (JS.mk (zbi (i:=5) nd_8 rfl (by first | exact AA rfl | exact Az rfl) (zbC (JA.out (zas (zaE (zaa (zac 3) (zaa (zap zaz (zac 4) (zah)) (zae)))) (zas (zaE (zaa (zac 3) (zaa (zap zcE (zac 4) (zah)) (zae)))) (zas (zaE (zaa (zap zaz (zac 3) (zah)) (zaa (zac 4) (zae)))) (zas (zaE (zaa (zap zcE (zac 3) (zah)) (zaa (zac 4) (zae)))) (ze5))))))))) (zan (zee (SW.sb (zfN (zdQ (zaO hr) (zaE (zaa (zac 3) (zaa (zac 4) (zae)))) (zac 1)) (zei (zbt (zgV (zaO hr)) (zfi rfl rfl (zdc (N':=["_law_spot","_law_met"]) (nt:=1) (fr:=[1]) ["_law_met"] rfl (by decide +kernel) (by decide +kernel) (by decide +kernel) rfl ⟨⟨rfl,by decide⟩,trivial⟩ ⟨by first | exact AA rfl | exact Az rfl,trivial⟩) (zbV (zac 5)) (fun C s0 H0 fp=>zaB (i:=0) nd_9 rfl (by first | exact AA rfl | exact Az rfl)) (fun C s0 H0 fp=>zlB (zh8 (zaO hr) (zac 0) (zac 1))) (fun C s0 H0 fp=>zac 0)) (zbC (zae)) rfl)))) (zan (JS.mk (zcV (zcd (zac 1) (zaa (zaE (zaa (zac 3) (zaa (zac 4) (zae)))) (zae)))))) (zbb))))))) (zan (JS.mk (zaX (zaC zaT rfl b_len zcz (zaa (zac 1) (zae))))))))
theorem zdk:FnScope ["_law_thing","_law_spot","_law_one","_law_other"] ["_law_thing"] (zar (top 17)):=⟨rfl,rfl,rfl,by decide +kernel,rfl,by decide +kernel,by decide +kernel⟩
theorem zdn(L:Laid K mg "_law_looked" (top 17) ["_law_thing"])(b_isinstance:mg "isinstance"=none)(b_tuple:mg "tuple"=none)(b_len:mg "len"=none)(b_zip:mg "zip"=none)(h_q_law_whole:zbA P w K mg base 1 "_law_whole" 1 zbg)(h_q_law_led:zbA P w K mg base 1 "_law_led" 1 zbB):zbA P w K mg base 2 "_law_looked" 1 zaV :=
 zbM (k:=1) L zdk fun f cdv A outer s H E hr=>JSs.out (zai (zee (SW.sb (zhT (zc3 (zi2 (zdN (T:="tuple") (x:="isinstance") (by decide) rfl b_isinstance (zac 0) rfl b_tuple zb5))) (zfM (zc3 (zgF zdl zdl (zah) (zaC zaT rfl b_len zcz (zaa (zac 0) (zae))) (zah)))))) (zan (JS.mk (zaX (zgD)))) (zbb)) (zai (zcJ A2 rfl (zbV (zac 0)) (zaB (i:=1) znV rfl (by first | exact AA rfl | exact Az rfl)) (zan (zee (SW.sb (zhT (zc3 (zi2 (zdN (T:="tuple") (x:="isinstance") (by decide) rfl b_isinstance (zac 1) rfl b_tuple zb5))) (zhT (zbt (zgV (zaO hr)) (zaC zaT rfl b_len zcz (zaa (zac 1) (zae))) (zah) rfl) (zhT (zc3 (zi2 (zal h_q_law_whole (hr.mono (by decide)) rfl (zaa (za4 (zbP hr) (zac 1) (zah)) (zae)) (zau.cons zau.nil)))) (zfM (zc3 (zi2 (zal h_q_law_whole (hr.mono (by decide)) rfl (zaa (za4 (zbP hr) (zac 1) (zah)) (zae)) (zau.cons zau.nil))))))))) (zan (JS.mk (zaX (zgD)))) (zbb)))) (zai (zcJ A2 rfl (zls rfl b_zip (zac 0) (zaR (zac 0) (zbv (zah)) (zbF))) (zdM rfl (zaL (zaB (i:=2) znV rfl (by first | exact AA rfl | exact Az rfl)) (zaL (zaB (i:=3) znV rfl (by first | exact AA rfl | exact Az rfl)) (zcc)))) (zan (zee (zc3 (zbt (zl5 (zaO hr)) (zac 2) (zac 3) rfl)) (zan (JS.mk (zaX (zgD)))) (zbb)))) (zan (JS.mk (zaX (zh5 (zdm (zaO hr)) (zal h_q_law_led (hr.mono (by decide)) rfl (zaa (zac 0) (zae)) (zau.cons zau.nil)) (zaC zaT rfl b_len zcz (zaa (zac 0) (zae))) rfl)))))))
theorem zeR:FnScope ["_law_some","_law_at","_law_thing"] ["_law_some","_law_at","_law_thing"] (zar (top 18)):=⟨rfl,rfl,rfl,by decide +kernel,rfl,by decide +kernel,by decide +kernel⟩
theorem zeW(L:Laid K mg "_law_put" (top 18) ["_law_some","_law_at","_law_thing"]):zbA P w K mg base 1 "_law_put" 3 zak :=
 zbM (k:=0) L zeR fun f cdv A outer s H E hr=>JSs.out (zan (JS.mk (zaX (zap zaz (zap zds (zaR (zac 0) (zbF) (zbv (zac 1))) (zaE (zaa (zac 2) (zae)))) (zaR (zac 0) (zbv (zap zaz (zac 1) (zah))) (zbF))))))
theorem zeo:FnScope ["_law_spring","_law_shape","_law_at","_law_far","_law_x","_law_y","_law_way","_law_other","_law_odd"] ["_law_spring","_law_shape"] (zar (top 19)):=⟨rfl,rfl,rfl,by decide +kernel,rfl,by decide +kernel,by decide +kernel⟩
theorem zet(L:Laid K mg "_law_bent" (top 19) ["_law_spring","_law_shape"])(b_len:mg "len"=none)(b_sorted:mg "sorted"=none)(b_tuple:mg "tuple"=none)(b_list:mg "list"=none)(h_q_law_take:zbA P w K mg base 1 "_law_take" 2 zaf)(h_q_law_of:zbA P w K mg base 2 "_law_of" 2 zao)(h_q_law_put:zbA P w K mg base 1 "_law_put" 3 zak):zbA P w K mg base 3 "_law_bent" 2 zbc :=
 zbM (k:=2) L zeo fun f cdv A outer s H E hr=>JSs.out (zai (JS.mk (zm1 (i:=2) (j:=3) rfl zkX rfl rfl (by decide) rfl rfl (zaa (zal h_q_law_take (hr.mono (by decide)) rfl (zaa (zac 0) (zaa (zaC zaT rfl b_len zcz (zaa (zac 1) (zae))) (zae))) (zau.cons (zau.cons zau.nil))) (zaa (zaE (zaa (zap zaz (zah) (zal h_q_law_take (hr.mono (by decide)) rfl (zaa (zac 0) (zaa (zah) (zae))) (zau.cons (zau.cons zau.nil)))) (zaa (zap zaz (zah) (zal h_q_law_take (hr.mono (by decide)) rfl (zaa (zac 0) (zaa (zah) (zae))) (zau.cons (zau.cons zau.nil)))) (zae)))) (zae))))) (zai (JS.mk (zfQ (za4 (zbP hr) (zac 1) (zac 2)) (zdM rfl (zaL (zaB (i:=4) zkX rfl (by first | exact AA rfl | exact Az rfl)) (zaL (zaB (i:=5) zkX rfl (by first | exact AA rfl | exact Az rfl)) (zcc)))))) (zai (JS.mk (zbi (i:=6) zkX rfl (by first | exact AA rfl | exact Az rfl) (zal h_q_law_take (hr.mono (by decide)) rfl (zaa (zac 0) (zaa (zah) (zae))) (zau.cons (zau.cons zau.nil))))) (zai (zee (zbt (zdm (zaO hr)) (zac 6) (zah) rfl) (zan (JS.mk (zaX (zal h_q_law_put (hr.mono (by decide)) rfl (zaa (zac 1) (zaa (zac 2) (zaa (zal h_q_law_of (hr.mono (by decide)) rfl (zaa (zac 0) (zaa (zbC (JA.out (zas (zaE (zaa (zac 4) (zaa (zap zaz (zac 5) (zah)) (zae)))) (zas (zaE (zaa (zap zaz (zac 4) (zah)) (zaa (zac 5) (zae)))) (zas (zaE (zaa (zac 4) (zaa (zap zcE (zac 5) (zah)) (zae)))) (zas (zaE (zaa (zap zcE (zac 4) (zah)) (zaa (zac 5) (zae)))) (ze5))))))) (zae))) (zau.cons (zau.cons zau.nil))) (zae)))) (zau.cons (zau.cons (zau.cons zau.nil))))))) (zbb)) (zai (zee (zbt (zdm (zaO hr)) (zac 6) (zah) rfl) (zan (JS.mk (zaX (zap zaz (zap zds (zaR (zac 1) (zbF) (zbv (zac 2))) (zaR (zac 1) (zbv (zac 2)) (zbv (zap zaz (zac 2) (zah))))) (zaR (zac 1) (zbv (zac 2)) (zbF)))))) (zbb)) (zai (zee (zbt (zdm (zaO hr)) (zac 6) (zah) rfl) (zan (JS.mk (zaX (zap zds (zaR (zac 1) (zbF) (zbv (zac 2))) (zaR (zac 1) (zbv (zap zaz (zac 2) (zah))) (zbF)))))) (zbb)) (zai (zee (zbt (zdm (zaO hr)) (zac 6) (zah) rfl) (zan (JS.mk (zaX (zcN zcx rfl b_tuple zb5 (zaa (zaC zb2 rfl b_sorted zd9 (zaa (zap zaz (zac 1) (zaE (zaa (zac 3) (zae)))) (zae))) (zae)))))) (zbb)) (zai (zee (zbt (zdm (zaO hr)) (zac 6) (zah) rfl) (zan (JS.mk (zaX (zap zaz (zap zds (zaR (zac 1) (zbF) (zbv (zac 2))) (zaE (zaa (zac 3) (zae)))) (zaR (zac 1) (zbv (zac 2)) (zbF)))))) (zbb)) (zai (zee (zbt (zdm (zaO hr)) (zac 6) (zah) rfl) (zai (JS.mk (zbi (i:=7) zkX rfl (by first | exact AA rfl | exact Az rfl) (zal h_q_law_take (hr.mono (by decide)) rfl (zaa (zac 0) (zaa (zaC zaT rfl b_len zcz (zaa (zac 1) (zae))) (zae))) (zau.cons (zau.cons zau.nil))))) (zan (JS.mk (zaX (zal h_q_law_put (hr.mono (by decide)) rfl (zaa (zal h_q_law_put (hr.mono (by decide)) rfl (zaa (zac 1) (zaa (zac 2) (zaa (za4 (zbP hr) (zac 1) (zac 7)) (zae)))) (zau.cons (zau.cons (zau.cons zau.nil)))) (zaa (zac 7) (zaa (za4 (zbP hr) (zac 1) (zac 2)) (zae)))) (zau.cons (zau.cons (zau.cons zau.nil)))))))) (zbb)) (zai (JS.mk (zbi (i:=8) zkX rfl (by first | exact AA rfl | exact Az rfl) (zal h_q_law_of (hr.mono (by decide)) rfl (zaa (zac 0) (zaa (zbC (JA.out (zas (zah) (zas (zah) (zas (zh3 (zac 4)) (zas (zap zaz (zap zfp (zah) (zah)) (zac 4)) (zas (zgD) (zas (zbH) (zas (zjQ) (zas (zaE (zaa (zac 4) (zae))) (zas (zah) (ze5)))))))))))) (zae))) (zau.cons (zau.cons zau.nil))))) (zai (zee (zbt zl4 (zac 6) (zah) rfl) (zan (JS.mk (zaX (zal h_q_law_put (hr.mono (by decide)) rfl (zaa (zac 1) (zaa (zac 2) (zaa (zal h_q_law_of (hr.mono (by decide)) rfl (zaa (zac 0) (zaa (zbC (zaa (zaE (zaa (zac 8) (zaa (zac 5) (zae)))) (zaa (zaE (zaa (zac 4) (zaa (zac 8) (zae)))) (zae)))) (zae))) (zau.cons (zau.cons zau.nil))) (zae)))) (zau.cons (zau.cons (zau.cons zau.nil))))))) (zbb)) (zan (JS.mk (zaX (zal h_q_law_of (hr.mono (by decide)) rfl (zaa (zac 0) (zaa (zbC (JA.out (zas (zal h_q_law_put (hr.mono (by decide)) rfl (zaa (zac 1) (zaa (zac 2) (zaa (zaE (zaa (zac 4) (zae))) (zae)))) (zau.cons (zau.cons (zau.cons zau.nil)))) (zas (zal h_q_law_put (hr.mono (by decide)) rfl (zaa (zac 1) (zaa (zac 2) (zaa (zaE (zaa (zac 4) (zaa (zac 5) (zaa (zac 8) (zae))))) (zae)))) (zau.cons (zau.cons (zau.cons zau.nil)))) (zas (zal h_q_law_put (hr.mono (by decide)) rfl (zaa (zac 1) (zaa (zac 2) (zaa (zbC (zaa (zac 4) (zaa (zac 5) (zae)))) (zae)))) (zau.cons (zau.cons (zau.cons zau.nil)))) (zas (zcN (zhx rfl) rfl b_list zmv (zaa (zac 1) (zae))) (zas (zal h_q_law_put (hr.mono (by decide)) rfl (zaa (zac 1) (zaa (zac 2) (zaa (zac 8) (zae)))) (zau.cons (zau.cons (zau.cons zau.nil)))) (zas (zaE (zaa (zac 1) (zae))) (zas (zap zaz (zac 1) (zaE (zaa (zaE (zae)) (zae)))) (zas (zlw (zac 1) (zh3 (zah))) (ze5))))))))))) (zae))) (zau.cons (zau.cons zau.nil)))))))))))))))))
theorem zdP:FnScope ["_law_spring","_law_wide","_law_high","_law_spots","_law_x"] ["_law_spring"] (zar (top 20)):=⟨rfl,rfl,rfl,by decide +kernel,rfl,by decide +kernel,by decide +kernel⟩
theorem zd0(L:Laid K mg "_law_rings" (top 20) ["_law_spring"])(b_range:mg "range"=none)(b_sorted:mg "sorted"=none)(b_tuple:mg "tuple"=none)(h_q_law_take:zbA P w K mg base 1 "_law_take" 2 zaf):zbA P w K mg base 2 "_law_rings" 1 zaQ :=
 zbM (k:=1) L zdP fun f cdv A outer s H E hr=>JSs.out (zai (JS.mk (zfQ (zaE (zaa (zap zaz (zah) (zal h_q_law_take (hr.mono (by decide)) rfl (zaa (zac 0) (zaa (zah) (zae))) (zau.cons (zau.cons zau.nil)))) (zaa (zap zaz (zah) (zal h_q_law_take (hr.mono (by decide)) rfl (zaa (zac 0) (zaa (zah) (zae))) (zau.cons (zau.cons zau.nil)))) (zae)))) (zdM rfl (zaL (zaB (i:=1) zmO rfl (by first | exact AA rfl | exact Az rfl)) (zaL (zaB (i:=2) zmO rfl (by first | exact AA rfl | exact Az rfl)) (zcc)))))) (zai (JS.mk (zbi (i:=3) zmO rfl (by first | exact AA rfl | exact Az rfl) (zbC (zae)))) (zai (zcJ A2 rfl (zfh rfl b_range (zah) (zap zaz (zah) (zac 1))) (zaB (i:=4) zmO rfl (by first | exact AA rfl | exact Az rfl)) (zan (JS.mk (zcV (zh4 (zac 3) (zaa (zfi rfl rfl (zdc (N':=["_law_y","_law_x","_law_wide","_law_high"]) (nt:=1) (fr:=[4,1,2]) ["_law_x","_law_wide","_law_high"] rfl (by decide +kernel) (by decide +kernel) (by decide +kernel) rfl ⟨⟨rfl,by decide⟩,⟨⟨rfl,by decide⟩,⟨⟨rfl,by decide⟩,trivial⟩⟩⟩ ⟨by first | exact AA rfl | exact Az rfl,⟨by first | exact AA rfl | exact Az rfl,⟨by first | exact AA rfl | exact Az rfl,trivial⟩⟩⟩) (zfh rfl b_range (zah) (zap zaz (zah) (zac 2))) (fun C s0 H0 fp=>zaB (i:=0) zpl rfl (by first | exact AA rfl | exact Az rfl)) (fun C s0 H0 fp=>zlB (SW.sb (zhT (zh8 (zaO hr) (zac 1) (zaE (zaa (zah) (zaa (zap zaz (zah) (zac 2)) (zae))))) (zfM (zh8 (zaO hr) (zac 0) (zaE (zaa (zah) (zaa (zap zaz (zah) (zac 3)) (zae))))))))) (fun C s0 H0 fp=>zaE (zaa (zac 1) (zaa (zac 0) (zae))))) (zae))))))) (zan (JS.mk (zaX (zcN zcx rfl b_tuple zb5 (zaa (zaC zb2 rfl b_sorted zd9 (zaa (zac 3) (zae))) (zae)))))))))
theorem zne:FnScope ["_law_script","_law_spring","_law_turn","_law_shape","_law_some","_law_k","_law_thing","_law_kept","_law_told"] ["_law_script"] (zar (top 21)):=⟨rfl,rfl,rfl,by decide +kernel,rfl,by decide +kernel,by decide +kernel⟩
theorem zok{f:Addr}{fd:FuncData}(F:Fun K "law" "law" (top 21) f fd)(b_range:mg "range"=none)(b_repr:mg "repr"=none)(b_isinstance:mg "isinstance"=none)(b_bool:mg "bool"=none)(h_q_law_spring_of:zbA P w K mg base 1 "_law_spring_of" 1 za2)(h_q_law_rings:zbA P w K mg base 2 "_law_rings" 1 zaQ)(h_q_law_take:zbA P w K mg base 1 "_law_take" 2 zaf)(h_q_law_grown_shape:zbA P w K mg base 3 "_law_grown_shape" 2 zaw)(h_q_law_of:zbA P w K mg base 2 "_law_of" 2 zao)(h_q_law_bent:zbA P w K mg base 3 "_law_bent" 2 zbc)(h_is_shape:zbA P w K mg base 3 "is_shape" 1 zbh)(h_q_law_looked:zbA P w K mg base 2 "_law_looked" 1 zaV):FnOk P w K mg base CX0 4 f fd ["_law_script"] (spM K 1 zkU) :=
 fn_m (k:=3) F zne fun cdv A outer s H E hr=>JSs.out (zai (JS.mk (zbi (i:=1) zjb rfl (by first | exact AA rfl | exact Az rfl) (zal h_q_law_spring_of (hr.mono (by decide)) rfl (zaa (zac 0) (zae)) (zau.cons zau.nil)))) (zai (zcJ A2 rfl (zcb rfl b_range (zah)) (zaB (i:=2) zjb rfl (by first | exact AA rfl | exact Az rfl)) (zai (JS.mk (zbi (i:=3) zjb rfl (by first | exact AA rfl | exact Az rfl) (zal h_q_law_of (hr.mono (by decide)) rfl (zaa (zac 1) (zaa (zbC (zaa (zal h_q_law_grown_shape (hr.mono (by decide)) rfl (zaa (zac 1) (zaa (zap zaz (zah) (zal h_q_law_take (hr.mono (by decide)) rfl (zaa (zac 1) (zaa (zah) (zae))) (zau.cons (zau.cons zau.nil)))) (zae))) (zau.cons (zau.cons zau.nil))) (zaa (zal h_q_law_rings (hr.mono (by decide)) rfl (zaa (zac 1) (zae)) (zau.cons zau.nil)) (zae)))) (zae))) (zau.cons (zau.cons zau.nil))))) (zai (zmm (i:=4) zjb rfl (by first | exact AA rfl | exact Az rfl) (zas (zac 3) (zas (zjQ) (zas (zaE (zae)) (zas (zbC (zae)) (zas (zah) (zas (zbH) (zas (zaE (zaa (zah) (zaa (zah) (zae)))) (zas (zaE (zaa (zaE (zaa (zah) (zaa (zah) (zae)))) (zae))) (zas (zaE (zaa (zaE (zaa (zah) (zaa (zah) (zae)))) (zaa (zjQ) (zae)))) (zas (zgD) (zas (zjR) (ze5))))))))))))) (zai (zcJ A2 rfl (zcb rfl b_range (zah)) (zaB (i:=5) zjb rfl (by first | exact AA rfl | exact Az rfl)) (zan (JS.mk (zcV (zcd (zac 4) (zaa (zal h_q_law_bent (hr.mono (by decide)) rfl (zaa (zac 1) (zaa (zac 3) (zae))) (zau.cons (zau.cons zau.nil))) (zae))))))) (zan (zcJ A2 rfl (zbV (zac 4)) (zaB (i:=6) zjb rfl (by first | exact AA rfl | exact Az rfl)) (zai (JS.mk (zbi (i:=7) zjb rfl (by first | exact AA rfl | exact Az rfl) (zaC (zeF hr.gd (zi3 hr)) rfl b_repr zjn (zaa (zac 6) (zae))))) (zai (JS.mk (zbi (i:=8) zjb rfl (by first | exact AA rfl | exact Az rfl) (zal h_is_shape (hr.mono (by decide)) rfl (zaa (zac 6) (zae)) (zau.cons zau.nil)))) (zan (zee (SW.sb (zhT (zc3 (zi2 (zdN (T:="bool") (x:="isinstance") (by decide) rfl b_isinstance (zac 8) rfl b_bool zhA))) (zhT (zbt (zgV (zaO hr)) (zac 8) (zal h_q_law_looked (hr.mono (by decide)) rfl (zaa (zac 6) (zae)) (zau.cons zau.nil)) rfl) (zfM (zbt znJ (zaC (zeF hr.gd (zi3 hr)) rfl b_repr zjn (zaa (zac 6) (zae))) (zac 7) rfl))))) (zan (JS.mk (zaX (zgD)))) (zbb))))))))))) (zan (JS.mk (zaX (zgD))))))
end
theorem zoz{P:Program}{w:World}{K:Ab}{mg:Str->Option Value}{base:Heap}{f:Addr}{fd:FuncData}(b_isinstance:mg "isinstance"=none)(b_int:mg "int"=none)(b_bool:mg "bool"=none)(b_tuple:mg "tuple"=none)(b_len:mg "len"=none)(b_zip:mg "zip"=none)(b_all:mg "all"=none)(b_enumerate:mg "enumerate"=none)(b_range:mg "range"=none)(b_abs:mg "abs"=none)(b_min:mg "min"=none)(b_max:mg "max"=none)(b_sorted:mg "sorted"=none)(b_list:mg "list"=none)(b_repr:mg "repr"=none)(L_is_whole:Laid K mg "is_whole" (top 1) ["thing","least","most"])(L_is_tuple:Laid K mg "is_tuple" (top 2) ["thing","size"])(L_rises:Laid K mg "rises" (top 3) ["parts"])(L_places_around:Laid K mg "places_around" (top 5) ["place"])(L_is_spot:Laid K mg "is_spot" (top 7) ["thing"])(L_steps_through:Laid K mg "steps_through" (top 8) ["places"])(L_is_shape:Laid K mg "is_shape" (top 9) ["thing"])(L_q_law_spring_of:Laid K mg "_law_spring_of" (top 11) ["_law_script"])(L_q_law_take:Laid K mg "_law_take" (top 12) ["_law_spring","_law_many"])(L_q_law_of:Laid K mg "_law_of" (top 13) ["_law_spring","_law_some"])(L_q_law_grown_shape:Laid K mg "_law_grown_shape" (top 14) ["_law_spring","_law_many"])(L_q_law_whole:Laid K mg "_law_whole" (top 15) ["_law_thing"])(L_q_law_led:Laid K mg "_law_led" (top 16) ["_law_spots"])(L_q_law_looked:Laid K mg "_law_looked" (top 17) ["_law_thing"])(L_q_law_put:Laid K mg "_law_put" (top 18) ["_law_some","_law_at","_law_thing"])(L_q_law_bent:Laid K mg "_law_bent" (top 19) ["_law_spring","_law_shape"])(L_q_law_rings:Laid K mg "_law_rings" (top 20) ["_law_spring"])(F:Fun K "law" "law" (top 21) f fd):FnOk P w K mg base CX0 4 f fd ["_law_script"] (spM K 1 zkU):=by
 have h_is_whole:=zf1 (P:=P) (w:=w) (base:=base) L_is_whole  b_isinstance b_int b_bool;have h_is_tuple:=zf2 (P:=P) (w:=w) (base:=base) L_is_tuple  b_isinstance b_tuple b_len;have h_rises:=zkg (P:=P) (w:=w) (base:=base) L_rises  b_zip b_all;have h_places_around:=zc7 (P:=P) (w:=w) (base:=base) L_places_around;have h_is_spot:=zgY (P:=P) (w:=w) (base:=base) L_is_spot    h_is_tuple h_is_whole;have h_steps_through:=zc6 (P:=P) (w:=w) (base:=base) L_steps_through  b_enumerate  h_places_around;have h_is_shape:=zf3 (P:=P) (w:=w) (base:=base) L_is_shape  b_isinstance b_tuple b_len b_all  h_is_spot h_rises h_steps_through;have h_q_law_spring_of:=zco (P:=P) (w:=w) (base:=base) L_q_law_spring_of  b_range b_len b_abs;have h_q_law_take:=zes (P:=P) (w:=w) (base:=base) L_q_law_take;have h_q_law_of:=zf0 (P:=P) (w:=w) (base:=base) L_q_law_of  b_len  h_q_law_take;have h_q_law_grown_shape:=zb0 (P:=P) (w:=w) (base:=base) L_q_law_grown_shape  b_range b_min b_max b_sorted b_tuple  h_q_law_take h_q_law_of;have h_q_law_whole:=zdZ (P:=P) (w:=w) (base:=base) L_q_law_whole  b_isinstance b_int b_bool;have h_q_law_led:=zeX (P:=P) (w:=w) (base:=base) L_q_law_led  b_len b_range;have h_q_law_looked:=zdn (P:=P) (w:=w) (base:=base) L_q_law_looked  b_isinstance b_tuple b_len b_zip  h_q_law_whole h_q_law_led;have h_q_law_put:=zeW (P:=P) (w:=w) (base:=base) L_q_law_put;have h_q_law_bent:=zet (P:=P) (w:=w) (base:=base) L_q_law_bent  b_len b_sorted b_tuple b_list  h_q_law_take h_q_law_of h_q_law_put;have h_q_law_rings:=zd0 (P:=P) (w:=w) (base:=base) L_q_law_rings  b_range b_sorted b_tuple  h_q_law_take;exact zok F b_range b_repr b_isinstance b_bool h_q_law_spring_of h_q_law_rings h_q_law_take h_q_law_grown_shape h_q_law_of h_q_law_bent h_is_shape h_q_law_looked
theorem all_mk{l:DL}{w:World}{K:Ab}{h:Heap}{mg:Str->Option Value}{fa:Addr}(X:K.In h)(G:h.Ns mainGlobals mg)(hfa:mg "law"=some (.ref fa)){f0 f1 f2 f3 f4 f5 f6 f7 f8 f9 f10 f11 f12 f13 f14 f15 f16 f17:Addr}
   (a0:FdIn K "is_whole" (top 1) f0)
   (a1:FdIn K "is_tuple" (top 2) f1)
   (a2:FdIn K "rises" (top 3) f2)
   (a3:FdIn K "places_around" (top 5) f3)
   (a4:FdIn K "is_spot" (top 7) f4)
   (a5:FdIn K "steps_through" (top 8) f5)
   (a6:FdIn K "is_shape" (top 9) f6)
   (a7:FdIn K "_law_spring_of" (top 11) f7)
   (a8:FdIn K "_law_take" (top 12) f8)
   (a9:FdIn K "_law_of" (top 13) f9)
   (a10:FdIn K "_law_grown_shape" (top 14) f10)
   (a11:FdIn K "_law_whole" (top 15) f11)
   (a12:FdIn K "_law_led" (top 16) f12)
   (a13:FdIn K "_law_looked" (top 17) f13)
   (a14:FdIn K "_law_put" (top 18) f14)
   (a15:FdIn K "_law_bent" (top 19) f15)
   (a16:FdIn K "_law_rings" (top 20) f16)
   (a17:FdIn K "law" (top 21) f17)
   (z0:A6 K mainGlobals "isinstance"=some none)
   (z1:A6 K mainGlobals "int"=some none)
   (z2:A6 K mainGlobals "bool"=some none)
   (z3:A6 K mainGlobals "tuple"=some none)
   (z4:A6 K mainGlobals "len"=some none)
   (z5:A6 K mainGlobals "zip"=some none)
   (z6:A6 K mainGlobals "all"=some none)
   (z7:A6 K mainGlobals "enumerate"=some none)
   (z8:A6 K mainGlobals "range"=some none)
   (z9:A6 K mainGlobals "abs"=some none)
   (z10:A6 K mainGlobals "min"=some none)
   (z11:A6 K mainGlobals "max"=some none)
   (z12:A6 K mainGlobals "sorted"=some none)
   (z13:A6 K mainGlobals "list"=some none)
   (z14:A6 K mainGlobals "repr"=some none) :
   ∃ fd:FuncData,(∀ (s:Shared) (v:Value),BindsTo s fd ⟨[v],[]⟩ [("_law_script",v)])/\∀ base:Heap,K.In base->base.Ns mainGlobals mg->FnOk l.prog w K mg base CX0 4 fa fd ["_law_script"] (spM K 1 zkU):=by
 obtain⟨⟨oc,od,kV,dc,pm,an,cd,ct,sl,l,c⟩,n,k⟩:=a17;have e:=hfa.symm.trans (Fz X G n);cases e;exact⟨_,fun s v=>.of_eq rfl,fun base _ _=>zoz (AO X G z0) (AO X G z1) (AO X G z2) (AO X G z3) (AO X G z4) (AO X G z5) (AO X G z6) (AO X G z7) (AO X G z8) (AO X G z9) (AO X G z10) (AO X G z11) (AO X G z12) (AO X G z13) (AO X G z14)
   (zbd (ps:=["thing","least","most"]) a0 X G fun _ _ _ _ _ _=>len3 fun _ _ _=>rfl)
   (zbd (ps:=["thing","size"]) a1 X G fun _ _ _ _ _ _=>len2 fun _ _=>rfl)
   (zbd (ps:=["parts"]) a2 X G fun _ _ _ _ _ _=>len1 fun _=>rfl)
   (zbd (ps:=["place"]) a3 X G fun _ _ _ _ _ _=>len1 fun _=>rfl)
   (zbd (ps:=["thing"]) a4 X G fun _ _ _ _ _ _=>len1 fun _=>rfl)
   (zbd (ps:=["places"]) a5 X G fun _ _ _ _ _ _=>len1 fun _=>rfl)
   (zbd (ps:=["thing"]) a6 X G fun _ _ _ _ _ _=>len1 fun _=>rfl)
   (zbd (ps:=["_law_script"]) a7 X G fun _ _ _ _ _ _=>len1 fun _=>rfl)
   (zbd (ps:=["_law_spring","_law_many"]) a8 X G fun _ _ _ _ _ _=>len2 fun _ _=>rfl)
   (zbd (ps:=["_law_spring","_law_some"]) a9 X G fun _ _ _ _ _ _=>len2 fun _ _=>rfl)
   (zbd (ps:=["_law_spring","_law_many"]) a10 X G fun _ _ _ _ _ _=>len2 fun _ _=>rfl)
   (zbd (ps:=["_law_thing"]) a11 X G fun _ _ _ _ _ _=>len1 fun _=>rfl)
   (zbd (ps:=["_law_spots"]) a12 X G fun _ _ _ _ _ _=>len1 fun _=>rfl)
   (zbd (ps:=["_law_thing"]) a13 X G fun _ _ _ _ _ _=>len1 fun _=>rfl)
   (zbd (ps:=["_law_some","_law_at","_law_thing"]) a14 X G fun _ _ _ _ _ _=>len3 fun _ _ _=>rfl)
   (zbd (ps:=["_law_spring","_law_shape"]) a15 X G fun _ _ _ _ _ _=>len2 fun _ _=>rfl)
   (zbd (ps:=["_law_spring"]) a16 X G fun _ _ _ _ _ _=>len1 fun _=>rfl)
   (zkB (st:=top 21) l c k)⟩
end L2.MP.stickytiles_k52_shapes_or_not
namespace L2.MP.stickytiles_k52_shapes_or_not
open PySem L2.MP L2.MP.Hd
open L2.MP.Hb (FrB)
noncomputable def spr(q:Nat)(b t:Int):List (Key×D):=[(.inr "own",.ref q),(.inr "seed",.int b),(.inr "turn",.int t)]
theorem os:(("own":Str)="seed")=False:=by decide
theorem ot:(("own":Str)="turn")=False:=by decide
theorem stn:(("seed":Str)="turn")=False:=by decide
section
variable {n q:Nat} {st:Sto} {b t:Int}
theorem ziC(h:st[n]?=some (.dk (spr q b t))):ixA (.ref n) (.str "own") st=some (.ref q,st):=Hd.zoc h (by simp[valD,spr])
theorem zmn(h:st[n]?=some (.dk (spr q b t))):ixA (.ref n) (.str "seed") st=some (.int b,st):=Hd.zoc h (by simp[valD,spr,os])
theorem zjf(h:st[n]?=some (.dk (spr q b t))):ixA (.ref n) (.str "turn") st=some (.int t,st):=Hd.zoc h (by simp[valD,spr,ot,stn])
theorem zj3(c:Int)(h:st[n]?=some (.dk (spr q b t))):dput st n (.str "turn") (.int c)=some (st.set n (.dk (spr q b c))):=by
 unfold dput;simp only[h];have:3 < sizeLine:=by decide
 simp[keyOf,this,putD,spr,ot,stn]
def PotS(n q m:Nat)(st:Sto):Prop:=∃ (as:List Int) (b t:Int),st[n]?=some (.dk (spr q b t))/\st[q]?=some (.lst (as.map D.int))/\q≠n/\(∀ a∈as,0<=a)/\as.length<=63/\(0<=b/\b < 2305843009213693951)/\0<=t/\t<=m
theorem PotS.gr{m:Nat}{st st':Sto}(h:PotS n q m st)(g:Gr st st'):PotS n q m st':=by
 obtain⟨as,b,t,e1,e2,r⟩:=h;exact⟨as,b,t,by rw[g.old n (getElem?_lt e1)];exact e1,by rw[g.old q (getElem?_lt e2)];exact e2,r⟩
theorem PotS.up{m k:Nat}(h:PotS n q m st)(hk:m<=k):PotS n q k st:=by
 obtain⟨as,b,t,e1,e2,e3,e4,e5,e6,e7,e8⟩:=h;exact⟨as,b,t,e1,e2,e3,e4,e5,e6,e7,by omega⟩
theorem PotS.ne{m:Nat}(h:PotS n q m st):n≠st.length/\q≠st.length:=by
 obtain⟨as,b,t,e1,e2,r⟩:=h;exact⟨AG (getElem?_lt e1),AG (getElem?_lt e2)⟩
theorem PotS.set{m l:Nat}{o:O}(h:PotS n q m st)(h1:l≠n)(h2:l≠q):PotS n q m (st.set l o):=by
 obtain⟨as,b,t,e1,e2,r⟩:=h;exact⟨as,b,t,by rw[Au h1];exact e1,by rw[Au h2];exact e2,r⟩
theorem zi1{many:Int}{v w:Option D}(hqn:q≠n):∀ (as:List Int) (st:Sto) (k:Nat),st[n]?=some (.dk (spr q b t))->st[q]?=some (.lst (as.map D.int))->as.length < k ->
   ∃ (as':List Int) (st':Sto),mWhF zaH zbm k [some (.ref n),some (.int many),v,w] st=some (.nx [some (.ref n),some (.int many),v,w],st')/\st'[n]?=some (.dk (spr q b t))/\st'[q]?=some (.lst (as'.map D.int))/\(∀ a∈as',a∈as)/\as'.length<=as.length/\FrB n q st st'
 | as,st,0,_,_,h=>absurd h (DP _)
 | as,st,k+1,h1,h2,hk=>by
   have i0:=ziC h1;have e1:=zja (st:=st++[.lst []]) (f:=q) (g:=st.length) (as:=as) (by rw[As (getElem?_lt h2)];exact h2) (zaU st _);have h1':(st++[O.lst []])[n]?=some (.dk (spr q b t)):=by rw[As (getElem?_lt h1)];exact h1
   have h2':(st++[O.lst []])[q]?=some (.lst (as.map D.int)):=by rw[As (getElem?_lt h2)];exact h2
   have i0':=ziC h1';generalize hs:st++[O.lst []]=s1 at e1 h1' h2' i0';have f1:FrB n q st s1:=by rw[<-hs];exact Hb.FrB.app _ _ _ _
   cases as with
   | nil =>
     refine⟨[],s1,?_,h1',h2',by simp,by simp,f1⟩;have et:zaH [some (.ref n),some (.int many),v,w] st=some (false,s1):=by
       unfold zaH;simp[i0,hs,e1]
     rw[mWhF];simp[et]
   | cons a as =>
     have i1:ixA (.ref q) (.int 0) s1=some (.int a,s1):=zkw h2' (by decide) rfl
     by_cases ha:a=0
     . subst ha;have et:zaH [some (.ref n),some (.int many),v,w] st=some (true,s1):=by
         unfold zaH;simp[i0,hs,e1,i0',i1,eq_int]
       have hl:zbm [some (.ref n),some (.int many),v,w] s1=some (.nx [some (.ref n),some (.int many),v,w],s1.set q (.lst (as.map D.int))):=by
         unfold zbm;have:seqIndex? 0 ((0:Int)::as).length=some 0:=by
           unfold seqIndex?;simp
         simp[zou,i0',zba,h2',popD,show small 0=true by decide];simp at this;rw[this];simp
       obtain⟨as',s',e,g1,g2,g3,g4,g5⟩:=zi1 (many:=many) (v:=v) (w:=w) hqn as (s1.set q (.lst (as.map D.int))) k (by rw[Au hqn];exact h1') (by simp[getElem?_lt h2']) (by simp at hk;omega);refine⟨as',s',?_,g1,g2,fun x hx=>Ai _ (g3 x hx),by simp;omega,(f1.trans (Hb.FrB.setQ _ _ _ _)).trans g5⟩;rw[mWhF];simp[et,hl,e]
     . refine⟨a::as,s1,?_,h1',h2',by simp,by simp,f1⟩;have et:zaH [some (.ref n),some (.int many),v,w] st=some (false,s1):=by
         unfold zaH;simp[i0,hs,e1,i0',i1,eq_int,ha]
       rw[mWhF];simp[et]
theorem zbJ{m:Nat}{many:Int}(h:PotS n q m st)(h1:0 < many)(h2:many < 18446744073709551616)(hm:m<=1000000):∃ (r:Int) (st':Sto),zaf [.ref n,.int many] st=some (.int r,st')/\0<=r/\r < many/\PotS n q (m+1) st'/\FrB n q st st':=by
 obtain⟨as0,b,t,en,eq0,hqn,hpos0,hlen0,⟨hb,hb2⟩,ht,ht2⟩:=h;have hm2:many < 340282366920938463463374607431768211456:=by omega
 obtain⟨as,s1,ew,en1,eq1,hsub,hlen,f1⟩:=zi1 (many:=many) (v:=none) (w:=none) hqn as0 st 100 en eq0 (by omega);have hpos:∀ a∈as,0<=a:=fun a ha=>hpos0 a (hsub a ha);have i0:=ziC en1;have e1:=zja (st:=s1++[.lst []]) (f:=q) (g:=s1.length) (as:=as) (by rw[As (getElem?_lt eq1)];exact eq1) (zaU s1 _);have en2:(s1++[O.lst []])[n]?=some (.dk (spr q b t)):=by rw[As (getElem?_lt en1)];exact en1
 have eq2:(s1++[O.lst []])[q]?=some (.lst (as.map D.int)):=by rw[As (getElem?_lt eq1)];exact eq1
 generalize hs:s1++[O.lst []]=s2 at e1 en2 eq2;have f2:FrB n q st s2:=f1.trans (by rw[<-hs];exact Hb.FrB.app _ _ _ _);have j0:=ziC en2;have hn2:=getElem?_lt en2;have hq2:=getElem?_lt eq2
 cases as with
 | cons a as =>
   have j1:ixA (.ref q) (.int 0) s2=some (.int a,s2):=zkw eq2 (by decide) rfl;have ha:=hpos a An;refine⟨a % many,s2.set q (.lst ((a / many::as).map D.int)),zck ?_,B8 _ (by omega),B9 _ h1,⟨a / many::as,b,t,by rw[Au hqn];exact en2,by simp[hq2],hqn,?_,by simp at hlen ⊢;omega,⟨hb,hb2⟩,ht,by omega⟩,f2.trans (Hb.FrB.setQ _ _ _ _)⟩
   . show zbs [some (.ref n),some (.int many),none,none] st=_;unfold zbs;refine zaj ew ?_;refine zbW ?_;have hset:setD (.ref q) (.int 0) (.int (a / many)) s2=some (s2.set q (.lst ((a / many::as).map D.int))):=by
       simp[setD,eq2,ixN]
     have et:mTst (mBin neD (mBin ixA (mVar 0) (mCon (.str "own"))) (mLst (mNil))) [some (.ref n),some (.int many),none,none] s1=some (true,s2):=by simp[i0,hs,e1]
     rw[zdB,et];show mSeq _ _ [some (.ref n),some (.int many),none,none] s2=_;refine zaj (ρ1:=[some (.ref n),some (.int many),some (.int (a % many)),none]) (s1:=s2) (by simp[j0,j1,modD,intD,h1]) ?_;refine zaj (ρ1:=[some (.ref n),some (.int many),some (.int (a % many)),none]) (s1:=s2.set q (.lst ((a / many::as).map D.int))) (by
       simp only[zkS,zci,zby,zot,zaM,zbj,Ag,Av,Ac,j0,j1,zkC,intD,h1];simp[j0,j1,h1,hm2,hset,zbZ]) ?_
     simp
   . intro x hx
     rcases List.mem_cons.mp hx with rfl | hx
     . exact Int.ediv_nonneg ha (by omega)
     . exact hpos x (Ai _ hx)
 | nil =>
   have ep:=zj3 (t+1) en2;have en3:(s2.set n (.dk (spr q b (t+1))))[n]?=some (.dk (spr q b (t+1))):=by simp[hn2]
   have eq3:(s2.set n (.dk (spr q b (t+1))))[q]?=some (.lst (([]:List Int).map D.int)):=by rw[Au (fun h=>hqn h.symm)];exact eq2
   have f3:FrB n q st (s2.set n (.dk (spr q b (t+1)))):=f2.trans (Hb.FrB.setN _ _ _ _);have jt:=zjf en2;generalize hs3:s2.set n (.dk (spr q b (t+1)))=s3 at ep en3 eq3 f3;have k1:=zmn en3;have k2:=zjf en3;have c1:in64 (t+1)=true:=by unfold in64;simp;omega
   generalize hx1:(b+7919*(t+1)*(t+1))*48271 % 2305843009213693907=x1;have x10:0<=x1:=by rw[<-hx1];exact B8 _ (by decide)
   have x11:x1 < 2305843009213693907:=by rw[<-hx1];exact B9 _ (by decide)
   have c2:in64 x1=true:=by unfold in64;simp;omega
   generalize hx2:x1*(x1 % 999983+131*(t+1)+3) % 2305843009213693921=x2;generalize hx3:x2 / 89+x2 / 1000033=x3;have c3:in64 48271=true:=by decide
   have c4:in64 7919=true:=by decide
   have c5:in64 131=true:=by decide
   refine⟨x3 % many,s3,zck ?_,B8 _ (by omega),B9 _ h1,⟨[],b,t+1,en3,eq3,hqn,by simp,by simp,⟨hb,hb2⟩,by omega,by push_cast;omega⟩,f3⟩;show zbs [some (.ref n),some (.int many),none,none] st=_;unfold zbs;refine zaj ew ?_;have et:mTst (mBin neD (mBin ixA (mVar 0) (mCon (.str "own"))) (mLst (mNil))) [some (.ref n),some (.int many),none,none] s1=some (false,s2):=by simp[i0,hs,e1]
   refine zaj (ρ1:=[some (.ref n),some (.int many),none,none]) (s1:=s2) (by rw[zdB,et];rfl) ?_;have aE:∀ (u v:Int) (s:Sto),addE (.int u) (.int v) s=some (.int (u+v),s):=fun u v s=>rfl;have mA:∀ (u v:Int) (s:Sto),in64 u=true\/in64 v=true->mulA (.int u) (.int v) s=some (.int (u*v),s):=fun u v s h=>by
     have:(in64 u || in64 v)=true:=by rcases h with h | h <;> simp[h]
     simp[mulA,orG,mulD,intD,this,zbZ]
   have mD:∀ (u v:Int) (s:Sto),0 < v->modD (.int u) (.int v) s=some (.int (u % v),s):=fun u v s h=>by simp[modD,intD,h]
   have fD:∀ (u v:Int) (s:Sto),0 < v->v < 1000000000->zkC (.int u) (.int v) s=some (.int (u / v),s):=fun u v s h h'=>by
     have:v < 340282366920938463463374607431768211456:=by omega
     simp[zkC,intD,h,this]
   refine zaj (ρ1:=[some (.ref n),some (.int many),none,none]) (s1:=s3) (by
     have en:∀ d k,setD (.ref n) (.str k) d s2=none:=fun d k=>by simp[setD,en2]
     simp only[zkS,zci,zby,zot,zaM,zbj,Ag,Av,Ac,jt,aE,en,Fo,zfo];unfold zmg;simp only[zby,zaM,zbj,Ag,Av,Ac,jt,aE,ep,AD]) ?_
   refine zaj (ρ1:=[some (.ref n),some (.int many),none,some (.int x1)]) (s1:=s3) (by
     simp only[zci,zby,zaM,zbj,Ag,Av,Ac,k1,k2,mA 7919 _ _ (.inl c4),mA _ _ _ (.inr c1),aE,mA _ _ _ (.inr c3),mD _ _ _ (show (0:Int) < 2305843009213693907 by decide),hx1]
     rfl) ?_
   refine zaj (ρ1:=[some (.ref n),some (.int many),none,some (.int x2)]) (s1:=s3) (by
     simp only[zci,zby,zaM,zbj,Ag,Av,Ac,k2,mD _ _ _ (show (0:Int) < 999983 by decide),mA 131 _ _ (.inl c5),add_int,mA _ _ _ (.inl c2),mD _ _ _ (show (0:Int) < 2305843009213693921 by decide),hx2]
     rfl) ?_
   simp only[zgd,zby,zaM,zbj,Ag,Av,Ac,fD _ _ _ (show (0:Int) < 89 by decide) (by decide),fD _ _ _ (show (0:Int) < 1000033 by decide) (by decide),add_int,hx3,mD _ _ _ h1];rfl
end
theorem zlr{ds:List D}{lo hi:Option Int}{st:Sto}:slC (.kl ds) lo hi st=some (.ref st.length,st++[.lst (cutD ds lo hi)]):=by
 unfold slC;rw[Hb.zm8,zbZ]
theorem zea{m:ME}{ml mh:MO}{ρ:Rho}{st:Sto}:mSlC m ml mh ρ st=(m ρ st).bind fun p=>(ml ρ p.2).bind fun q=>(mh ρ q.2).bind fun r=>slC p.1 q.1 r.1 r.2:=rfl
theorem p60(st:Sto):powB (.int 10) (.int 60) st=some (.int (10 ^ 60),st):=by
 have:(decide ((0:Int)<=60)&&decide ((Bg 10:Int)*60<=2 ^ 27))=true:=by decide +kernel
 unfold powB intD;dsimp only;rw[if_pos this];rfl
theorem mulF{F P:Int}{k:Nat}{st:Sto}(h0:0 < F)(hF:F.natAbs < 2 ^ (200*k))(hk:k<=10)(p0:0 < P)(hP:P.natAbs < 2 ^ 200):mulB (.int F) (.int P) st=some (.int (F*P),st)/\0 < F*P/\(F*P).natAbs < 2 ^ (200*(k+1)):=by
 have b1:Bg F<=2 ^ 20:=AC (DJ hF) (by omega);have b2:Bg P<=2 ^ 20:=AC (DJ hP) (by decide);refine⟨?_,Int.mul_pos h0 p0,?_⟩
 . unfold mulB intD;dsimp only;rw[if_pos (by rw[decide_eq_true b1,decide_eq_true b2];rfl)]
 . rw[Int.natAbs_mul,Nat.mul_add,Nat.mul_one,Nat.pow_add];exact Nat.mul_lt_mul'' hF hP
theorem pP:(0:Int) < 10 ^ 60/\((10:Int) ^ 60).natAbs < 2 ^ 200:=by decide +kernel
theorem zhV{ns:List Int}(st:Sto)(hl:ns.length<=63):∃ (n q:Nat) (st':Sto),za2 [.kl (ns.map D.int)] st=some (.ref n,st')/\PotS n q 0 st'/\Gr st st':=by
 obtain⟨ms,hms,hml⟩:=Hb.zkI ns none (some 63);have hp:=p60;obtain⟨p0,p1⟩:=pP;generalize hP:(10:Int) ^ 60=P at hp p0 p1;have hp18:∀ s:Sto,powB (.int 10) (.int 18) s=some (.int 1000000000000000000,s):=fun s=>rfl;have a1:=zaU st (.lst []);have g1:=Gr.app st [.lst []];generalize hs1:st++[O.lst []]=s1 at a1 g1
 -- the far number
 have key1:=zbL (W:=⟨run 0 6,[]⟩) (g:=gNm 4) (m:=za7) (ds:=run 0 6) (ρ:=[some (.kl (ns.map D.int)),some (.ref st.length),some (.int 4099),some (.int P),none,none,none]) (st:=s1)
   (Inv:=fun i ρ s=>∃ (F:Int) (x:Option D),ρ=[some (.kl (ns.map D.int)),some (.ref st.length),some (.int 4099),some (.int F),x,none,none]/\0 < F/\F.natAbs < 2 ^ (200*(i+1))/\s=s1)
   ⟨P,none,rfl,p0,p1,rfl⟩ (fun _ _ _ _ _=>rfl) (fun i d ρ s hd hI=>by
     obtain⟨F,x,rfl,hF0,hF,rfl⟩:=hI;have hi:i < 6:=by have:=getElem?_lt hd;rwa [zbK] at this
     obtain⟨e,q1,q2⟩:=mulF (k:=i+1) (st:=s) hF0 hF (by omega) p0 p1;refine⟨[some (.kl (ns.map D.int)),some (.ref st.length),some (.int 4099),some (.int F),some d,none,none],s,[some (.kl (ns.map D.int)),some (.ref st.length),some (.int 4099),some (.int (F*P)),some d,none,none],s,rfl,?_,F*P,_,rfl,q1,q2,rfl⟩;unfold za7;simp only[zci,zby,zaM,zbj,Ag,Av,Ac,hp,e]
     rfl)
 obtain⟨ρ',s',el1,F,x4,rfl,hF0,_,rfl⟩:=key1
 -- the seed
 have e2:=zlr (ds:=ns.map D.int) (lo:=none) (hi:=some 63) (st:=s');rw[hms] at e2;have a2:=zaU s' (.lst (ms.map D.int));have g2:=Gr.app s' [.lst (ms.map D.int)];generalize hs2:s'++[O.lst (ms.map D.int)]=s2 at e2 a2 g2;have key2:=zbL (W:=⟨ms.map D.int,[(s'.length,ms.map D.int)]⟩) (g:=gNm 5) (m:=za6) (ds:=ms.map D.int) (ρ:=[some (.kl (ns.map D.int)),some (.ref st.length),some (.int 4099),some (.int F),x4,none,none]) (st:=s2)
   (Inv:=fun i ρ s=>∃ (b:Int) (x y:Option D),ρ=[some (.kl (ns.map D.int)),some (.ref st.length),some (.int b),some (.int F),x4,x,y]/\(0<=b/\b < 2305843009213693951)/\s=s2)
   ⟨4099,none,none,rfl,by decide,rfl⟩ (fun k ρ s hk hI=>by obtain⟨b,x,y,_,_,rfl⟩:=hI;exact zb7 a2) (fun i d ρ s hd hI=>by
     obtain⟨b,x,y,rfl,hb,rfl⟩:=hI;rw[AE] at hd;obtain⟨c,hc,rfl⟩:=zag hd;have c0:0<=c % 1000003:=B8 _ (by decide);have c1:c % 1000003 < 1000003:=B9 _ (by decide);have mD:∀ (u v:Int) (s:Sto),0 < v->modD (.int u) (.int v) s=some (.int (u % v),s):=fun u v s h=>by simp[modD,intD,h]
     have mm:∀ s,mulA (.int (c % 1000003)) (.int (c % 1000003)) s=some (.int (c % 1000003*(c % 1000003)),s):=fun s=>by
       have:in64 (c % 1000003)=true:=by unfold in64;simp;omega
       simp[mulA,orG,mulD,intD,this,zbZ]
     have mb:∀ s,mulA (.int b) (.int 69069) s=some (.int (b*69069),s):=fun s=>by
       have:in64 69069=true:=by decide
       simp[mulA,orG,mulD,intD,this,zbZ]
     refine⟨[some (.kl (ns.map D.int)),some (.ref st.length),some (.int b),some (.int F),x4,some (.int c),y],s,[some (.kl (ns.map D.int)),some (.ref st.length),some (.int ((b*69069+c % 1000003*(c % 1000003)+c+5) % 2305843009213693951)),some (.int F),x4,some (.int c),some (.int (c % 1000003))],s,rfl,?_,_,_,_,rfl,⟨B8 _ (by decide),B9 _ (by decide)⟩,rfl⟩;unfold za6;refine zaj (ρ1:=[some (.kl (ns.map D.int)),some (.ref st.length),some (.int b),some (.int F),x4,some (.int c),some (.int (c % 1000003))]) (s1:=s) (by
       simp only[zci,zby,zaM,zbj,Ag,Av,Ac,mD _ _ _ (show (0:Int) < 1000003 by decide)]
       rfl) ?_
     generalize c % 1000003=p at *;simp only[zci,zby,zaM,zbj,Ag,Av,Ac,mb,mm,add_int,mD _ _ _ (show (0:Int) < 2305843009213693951 by decide)]
     rfl)
 obtain⟨ρ',s3,el2,b,x5,x6,rfl,hb,rfl⟩:=key2
 -- the script's own numbers
 have hif:∃ (q:Nat) (as:List Int) (s4:Sto),mIf (zeu (mTst (mBin gtD (zat lenD (zab (mVar 0) (mNil))) (mCon (.int 0)))) (mTst (mBin geD (mBin ixA (mVar 0) (mCon (.int 0))) (mBin powB (mCon (.int 10)) (mCon (.int 18)))))) (mAsg (zd4 (mWA (mSlC (mVar 0) (zb6) (zbI (mCon (.int 63))))) 1 [3] (gNm 0) (ze0) (zaI)) (gNm 1)) (zcO) [some (.kl (ns.map D.int)),some (.ref st.length),some (.int b),some (.int F),x4,x5,x6] s3
    =some (.nx [some (.kl (ns.map D.int)),some (.ref q),some (.int b),some (.int F),x4,x5,x6],s4)/\s4[q]?=some (.lst (as.map D.int))/\(∀ a∈as,0<=a)/\as.length<=63/\Gr s3 s4:=by
   have eL:lenD [.kl (ns.map D.int)] s3=some (.int (ns.length:Int),s3):=by rw[zn4,Aj]
   have own0:s3[st.length]?=some (.lst (([]:List Int).map D.int)):=(g2.old _ (getElem?_lt a1)).trans a1
   cases ns with
   | nil =>
     refine⟨st.length,[],s3,?_,own0,by simp,by simp,Gr.refl _⟩;have eL0:lenD [.kl []] s3=some (.int 0,s3):=rfl;simp[eL0,gtD,cmpD]
   | cons c0 cs =>
     have i0:ixA (.kl ((c0::cs).map D.int)) (.int 0) s3=some (.int c0,s3):=zpm (by decide) rfl;have cl:(0:Int) < ((c0::cs).length:Int):=by simp
     by_cases hc:1000000000000000000<=c0
     . have e3:=zlr (ds:=(c0::cs).map D.int) (lo:=none) (hi:=some 63) (st:=s3);rw[hms] at e3;have a3:=zaU s3 (.lst (ms.map D.int));have g3:=Gr.app s3 [.lst (ms.map D.int)];generalize hs4:s3++[O.lst (ms.map D.int)]=s4 at e3 a3 g3;have ec:=zkM (W:=⟨ms.map D.int,[(s3.length,ms.map D.int)]⟩) (g:=gNm 0) (c:=ze0) (m:=zaI) (f:=D.int) (h:=fun c:Int=>D.int ((if c < 0 then -c else c) % F)) (R:=fun r=>∃ x,r=[x,some (.int F)]) (as:=ms) (ρ:=[none,some (.int F)]) (st:=s4) ⟨none,rfl⟩ (zb7 a3) (fun c hc r hr=>by
         obtain⟨x,rfl⟩:=hr;refine⟨[some (.int c),some (.int F)],rfl,rfl,?_,_,rfl⟩;have mD:modD (.int (if c < 0 then -c else c)) (.int F) s4=some (.int ((if c < 0 then -c else c) % F),s4):=by simp[modD,intD,hF0]
         have eA:absC [.int c] s4=some (.int (if c < 0 then -c else c),s4):=by simp[absC]
         unfold zaI;simp only[zby,zbS,zbq,zcL,zaM,Ag,Av,Ac,eA,mD])
       have em:(ms.map fun c:Int=>D.int ((if c < 0 then -c else c) % F))=(ms.map fun c:Int=>(if c < 0 then -c else c) % F).map D.int:=by rw[Cw];rfl
       rw[em] at ec;have fl:fits ((ms.map fun c:Int=>(if c < 0 then -c else c) % F).map D.int).length=true:=zaK (by rw[Aj,Aj];omega);refine⟨s4.length,ms.map fun c:Int=>(if c < 0 then -c else c) % F,s4++[.lst ((ms.map fun c:Int=>(if c < 0 then -c else c) % F).map D.int)],?_,zaU _ _,?_,by rw[Aj];omega,g3.trans (Gr.app _ _)⟩
       . have ecm:zd4 (mWA (mSlC (mVar 0) (zb6) (zbI (mCon (.int 63))))) 1 [3] (gNm 0) (ze0) (zaI) [some (.kl ((c0::cs).map D.int)),some (.ref st.length),some (.int b),some (.int F),x4,x5,x6] s3=some (.ref s4.length,s4++[.lst ((ms.map fun c:Int=>(if c < 0 then -c else c) % F).map D.int)]):=by
           rw[zeG,zk6,zea];simp only[zaM,ziR,ziQ,zbj,Ac,Ag,e3,zhL,zba,a3,AD,zbZ];rw[show rho0 [some (.kl ((c0::cs).map D.int)),some (.ref st.length),some (.int b),some (.int F),x4,x5,x6] 1 [3]=[none,some (.int F)] from rfl,ec];simp only[Ac,fl,if_true]
         have et:zeu (mTst (mBin gtD (zat lenD (zab (mVar 0) (mNil))) (mCon (.int 0)))) (mTst (mBin geD (mBin ixA (mVar 0) (mCon (.int 0))) (mBin powB (mCon (.int 10)) (mCon (.int 18))))) [some (.kl ((c0::cs).map D.int)),some (.ref st.length),some (.int b),some (.int F),x4,x5,x6] s3=some (true,s3):=by
           generalize ((c0::cs).length:Int)=L at eL cl;simp only[zhF,zhE,zby,zbS,zbq,zcL,zaM,zbj,Ag,Ac,eL,i0,hp18,gtD,geD,cmpD,decide_eq_true cl,decide_eq_true hc,if_true]
         rw[zdB,et];simp only[Ac,if_true,zci,ecm];rfl
       . intro a ha;obtain⟨c,_,rfl⟩:=List.mem_map.mp ha;exact B8 _ (by omega)
     . refine⟨st.length,[],s3,?_,own0,by simp,by simp,Gr.refl _⟩;have et:zeu (mTst (mBin gtD (zat lenD (zab (mVar 0) (mNil))) (mCon (.int 0)))) (mTst (mBin geD (mBin ixA (mVar 0) (mCon (.int 0))) (mBin powB (mCon (.int 10)) (mCon (.int 18))))) [some (.kl ((c0::cs).map D.int)),some (.ref st.length),some (.int b),some (.int F),x4,x5,x6] s3=some (false,s3):=by
         generalize ((c0::cs).length:Int)=L at eL cl;simp only[zhF,zhE,zby,zbS,zbq,zcL,zaM,zbj,Ag,Ac,eL,i0,hp18,gtD,geD,cmpD,decide_eq_true cl,decide_eq_false hc,if_true]
       rw[zdB,et];rfl
 obtain⟨q,as,s4,eif,aq,hpos,hal,g4⟩:=hif;have a5:=zaU s4 (.dk []);have hq:=getElem?_lt aq;refine⟨s4.length,q,(s4++[O.dk []]).set s4.length (.dk (spr q b 0)),zck ?_,⟨as,b,0,by simp,by rw[Au (by omega),As hq];exact aq,by omega,hpos,hal,hb,by decide,by decide⟩,?_⟩
 . show zbk [some (.kl (ns.map D.int)),none,none,none,none,none,none] st=_;unfold zbk;refine zaj (ρ1:=[some (.kl (ns.map D.int)),some (.ref st.length),some (.int 4099),some (.int P),none,none,none]) (s1:=s') (by simp[hs1,hp]) ?_;refine zaj (ρ1:=[some (.kl (ns.map D.int)),some (.ref st.length),some (.int 4099),some (.int F),x4,none,none]) (s1:=s') (by
     have e6:mR1 (mCon (.int 6)) [some (.kl (ns.map D.int)),some (.ref st.length),some (.int 4099),some (.int P),none,none,none] s'=some (⟨run 0 6,[]⟩,s'):=rfl;rw[zeb,e6];exact el1) ?_
   refine zaj (ρ1:=[some (.kl (ns.map D.int)),some (.ref st.length),some (.int b),some (.int F),x4,x5,x6]) (s1:=s3) (by
     rw[zeb,zk6,zea];simp only[zaM,ziR,ziQ,zbj,Ac,Ag,e2,zhL,zba,a2,AD,zbZ];exact el2) ?_
   refine zaj eif ?_;rw[zgd];unfold zkn;simp only[zaM,zbj,Ag,Av,Ac,a5,AD];rfl
 . refine⟨by simp;have:=((g1.trans g2).trans g4).len;omega,fun k hk=>?_⟩;have hk4:k < s4.length:=Ap hk ((g1.trans g2).trans g4).len;rw[Au (by omega),As hk4];exact ((g1.trans g2).trans g4).old k hk
end L2.MP.stickytiles_k52_shapes_or_not
namespace L2.MP.stickytiles_k52_shapes_or_not
open PySem L2.MP
open L2.MP.Hb (FrB zbG ty_str ty_int ne_int)
structure FrE(E:Nat->Prop)(st st':Sto):Prop where
 len:st.length<=st'.length
 old:∀ k,k < st.length->¬ E k->st'[k]?=st[k]?
theorem FrE.trans{E:Nat->Prop}{a b c:Sto}(h:FrE E a b)(h':FrE E b c):FrE E a c:=⟨AC h.len h'.len,fun k hk z=>(h'.old k (Ap hk h.len) z).trans (h.old k hk z)⟩
theorem FrE.refl(E:Nat->Prop)(st:Sto):FrE E st st:=⟨Af _,fun _ _ _=>rfl⟩
theorem FrE.of{E:Nat->Prop}{st st':Sto}(g:Gr st st'):FrE E st st':=⟨g.len,fun k hk _=>g.old k hk⟩
theorem FrE.b{E:Nat->Prop}{n q:Nat}{st st':Sto}(hn:E n)(hq:E q)(f:FrB n q st st'):FrE E st st':=⟨f.len,fun k hk z=>f.old k hk (fun e=>z (e ▸ hn)) fun e=>z (e ▸ hq)⟩
inductive Fit (E:Nat->Prop) (st:Sto):D->Prop
 | non:Fit E st .non
 | bl (b:Bool):Fit E st (.bl b)
 | int (i:Int):Fit E st (.int i)
 | str (z:Str) (h:z.cps.toList.length<=100) (ok:∀ c∈z.cps.toList,c < 1114112):Fit E st (.str z)
 | tup (ds:List D) (h:ds.length<=100) (f:∀ d∈ds,Fit E st d):Fit E st (.tup ds)
 | lst (k:Nat) (xs:List D) (h:st[k]?=some (.lst xs)) (h1:¬ E k) (h2:True):Fit E st (.ref k)
 | dk (k:Nat) (xs:List (Key×D)) (h:st[k]?=some (.dk xs)) (h1:¬ E k) (h2:True):Fit E st (.ref k)
theorem Fit.fr{E:Nat->Prop}{st st':Sto}{d:D}(F:FrE E st st')(h:Fit E st d):Fit E st' d:=by
 induction h with
 | non=>exact .non
 | bl b=>exact .bl b
 | int i=>exact .int i
 | str z h ok=>exact .str z h ok
 | tup ds h f ih=>exact .tup ds h ih
 | lst k xs h h1 h2=>exact .lst k xs ((F.old k (getElem?_lt h) h1).trans h) h1 h2
 | dk k xs h h1 h2=>exact .dk k xs ((F.old k (getElem?_lt h) h1).trans h) h1 h2
theorem Fit.gr{E:Nat->Prop}{st st':Sto}{d:D}(g:Gr st st')(h:Fit E st d):Fit E st' d:=h.fr (FrE.of g)
theorem Fit.at{E:Nat->Prop}{st:Sto}{ds:List D}(h:Fit E st (.tup ds)):∀ d∈ds,Fit E st d:=by
 cases h with
 | tup ds h f=>exact f
section
variable {E:Nat->Prop} {st:Sto} {d:D}
theorem zjs:tyName st .non=some "NoneType":=rfl
theorem zmT{b:Bool}:tyName st (.bl b)=some "bool":=rfl
theorem zhM{k:Nat}{xs:List D}(h:st[k]?=some (.lst xs)):tyName st (.ref k)=some "list":=by unfold tyName;simp only[h]
theorem zmK{k:Nat}{xs:List (Key×D)}(h:st[k]?=some (.dk xs)):tyName st (.ref k)=some "dict":=by unfold tyName;simp only[h]
noncomputable def whB(lo hi:Int):D->Bool
 | .int x=>decide (lo<=x)&&decide (x<=hi)
 | _=>false
theorem zgf{lo hi:Int}(h:Fit E st d):zbN [d,.int lo,.int hi] st=some (.bl (whB lo hi d),st):=by
 refine zck ?_;unfold zeI
 cases h with
 | non=>simp[zjs,subT,whB]
 | bl b=>simp[zmT,subT,whB]
 | int x =>
   unfold whB
   by_cases h1:lo<=x
   . by_cases h2:x<=hi
     . simp[zbx,ty_int,subT,h1,h2]
     . simp[zbx,ty_int,subT,h1,h2]
   . simp[zbx,ty_int,subT,h1]
 | str z h ok=>simp[ty_str,subT,whB]
 | tup ds h f=>simp[zbG,subT,whB]
 | lst k xs h h1 h2=>simp[zhM h,subT,whB]
 | dk k xs h h1 h2=>simp[zmK h,subT,whB]
noncomputable def tupB(N:Int):D->Bool
 | .tup ds=>(ds.length:Int)==N
 | _=>false
theorem zjv{N:Int}(h:Fit E st d):zcj [d,.int N] st=some (.bl (tupB N d),st):=by
 refine zck ?_;unfold zeJ
 cases h with
 | non=>simp[zjs,subT,tupB]
 | bl b=>simp[zmT,subT,tupB]
 | int x=>simp[ty_int,subT,tupB]
 | str z h ok=>simp[ty_str,subT,tupB]
 | tup ds h f=>simp[zbG,subT,tupB,zdu,eq_int]
 | lst k xs h h1 h2=>simp[zhM h,subT,tupB]
 | dk k xs h h1 h2=>simp[zmK h,subT,tupB]
theorem zlc(d:D):(∃ x y,d=.tup [x,y])\/tupB 2 d=false:=by
 cases d with
 | tup ds =>
   match ds with
   | [x,y]=>exact .inl ⟨x,y,rfl⟩
   | []=>exact .inr rfl
   | [x]=>exact .inr rfl
   | x::y::z::r =>
     refine .inr ?_;show (((x::y::z::r).length:Int)==2)=false;apply beq_false_of_ne;simp only[AX];omega
 | _=>exact .inr rfl
theorem zjo{α:Type}(f:α->Bool):∀ as:List α,zkP (as.map fun a=>D.bl (f a))=some (as.map f)
 | []=>rfl
 | a::as=>by
   show (zkP (as.map fun a=>D.bl (f a))).map _=_;rw[zjo f as];rfl
theorem zmJ{α:Type}{f:α->Bool}{as:List α}{n:Nat}{st:Sto}(h:st[n]?=some (.lst (as.map fun a=>D.bl (f a)))):allC [.ref n] st=some (.bl (as.all f),st):=by
 unfold allC;simp only[zba,h,Ac,zjo,AD,List.all_map];rfl
theorem zkT{mi:MI}{b:D->Bool}{as:List D}{fr:List Nat}{m:ME}{ρ0 ρ:Rho}{st:Sto}{gd:List (Nat×List D)}(hw:mi ρ st=some (⟨as,gd⟩,st))(hg:∀ s,Gr st s->walked ⟨as,gd⟩ s=true)(hρ:rho0 ρ 1 fr=none::ρ0)(hl:as.length<=10000)
   (h:∀ a∈as,∀ s,Gr st s->∃ s1,m (some a::ρ0) s=some (.bl (b a),s1)/\Gr s s1) :
   ∃ st',zat allC (zab (zd4 mi 1 fr (gNm 0) ze0 m) mNil) ρ st=some (.bl (as.all b),st')/\Gr st st':=by
 obtain⟨s1,e,g⟩:=zoM (W:=⟨as,gd⟩) (g:=gNm 0) (c:=ze0) (m:=m) (f:=fun x:D=>x) (h:=fun a=>D.bl (b a)) (R:=fun r=>∃ x,r=x::ρ0) (as:=as) (ρ:=none::ρ0) (st:=st) ⟨none,rfl⟩ hg (fun a ha r s hr gs=>by
   obtain⟨x,rfl⟩:=hr;obtain⟨s1,e,g⟩:=h a ha s gs;exact⟨some a::ρ0,s1,rfl,rfl,e,g,_,rfl⟩)
 rw[List.map_id'] at e;have fl:fits (as.map fun a=>D.bl (b a)).length=true:=zaK (by rw[Aj];exact hl);have ec:zd4 mi 1 fr (gNm 0) ze0 m ρ st=some (.ref s1.length,s1++[.lst (as.map fun a=>D.bl (b a))]):=by
   rw[zeG,hw];simp only[Ac];rw[hρ,e];simp only[Ac,fl,if_true]
 refine⟨_,?_,g.trans (Gr.app s1 [.lst (as.map fun a=>D.bl (b a))])⟩;simp only[zbS,zbq,zcL,ec,Ac];exact zmJ (zaU s1 _)
noncomputable def istB:D->Bool
 | .tup _=>true
 | _=>false
theorem zmS(h:Fit E st d):∃ ty,tyName st d=some ty/\subT ty "tuple"=istB d:=by
 cases h with
 | non=>exact⟨_,rfl,by simp[subT,istB]⟩
 | bl b=>exact⟨_,rfl,by simp[subT,istB]⟩
 | int x=>exact⟨_,rfl,by simp[subT,istB]⟩
 | str z h ok=>exact⟨_,rfl,by simp[subT,istB]⟩
 | tup ds h f=>exact⟨_,rfl,by simp[subT,istB]⟩
 | lst k xs h h1 h2=>exact⟨_,zhM h,by simp[subT,istB]⟩
 | dk k xs h h1 h2=>exact⟨_,zmK h,by simp[subT,istB]⟩
noncomputable def zfR:D->Bool
 | .tup [x,y]=>whB 1 6 x&&whB 1 6 y
 | _=>false
theorem zgs(h:tupB 2 d=false):zfR d=false:=by
 unfold zfR
 split
 . exact absurd h (by simp[tupB])
 . rfl
theorem zlp(h:Fit E st d):zcQ [d] st=some (.bl (zfR d),st):=by
 refine zck ?_;have e:=zjv (N:=2) h;unfold zfL
 rcases zlc d with ⟨x,y,rfl⟩ | h2
 . have e0:=zgf (lo:=1) (hi:=6) (h.at x (by simp));have e1:=zgf (lo:=1) (hi:=6) (h.at y (by simp));have t:tupB 2 (.tup [x,y])=true:=rfl;have i0:ixA (.tup [x,y]) (.int 0) st=some (x,st):=zcu (by decide) rfl;have i1:ixA (.tup [x,y]) (.int 1) st=some (y,st):=zcu (by decide) rfl;rw[t] at e;rw[show zfR (.tup [x,y])=(whB 1 6 x&&whB 1 6 y) from rfl]
   cases hx:whB 1 6 x
   . rw[hx] at e0;simp[e,i0,e0]
   . rw[hx] at e0;simp[e,i0,i1,e0,e1]
 . rw[zgs h2];rw[h2] at e;simp[e]
noncomputable def prD(p:Int×Int):D:=.tup [.int p.1,.int p.2]
theorem zgr:∀ ds:List D,ds.all zfR=true->∃ ps:List (Int×Int),ds=ps.map prD/\∀ p∈ps,(1<=p.1/\p.1<=6)/\1<=p.2/\p.2<=6
 | [],_=>⟨[],rfl,by simp⟩
 | d::ds,h=>by
   rw[Dl,Ao] at h;obtain⟨ps,rfl,hp⟩:=zgr ds h.2;have h1:=h.1;unfold zfR at h1
   split at h1
   . rename_i x y;rw[Ao] at h1;obtain⟨hx,hy⟩:=h1
     cases x with
     | int a =>
       cases y with
       | int b =>
         have hx:(decide (1<=a)&&decide (a<=6))=true:=hx;have hy:(decide (1<=b)&&decide (b<=6))=true:=hy;rw[Ao,decide_eq_true_iff,decide_eq_true_iff] at hx hy;refine⟨(a,b)::ps,rfl,fun p hp'=>?_⟩
         rcases List.mem_cons.mp hp' with rfl | hp'
         . exact⟨hx,hy⟩
         . exact hp p hp'
       | _=>simp[whB] at hy
     | _=>simp[whB] at hx
   . cases h1
end
noncomputable def slT(ds:List D)(lo hi:Option Int):List D:=if (decide (HT.sIx ds.length 0 lo=0)&&decide (HT.sIx ds.length ds.length hi=ds.length))=true then ds else cutD ds lo hi
theorem zcD{ds:List D}{lo hi:Option Int}{st:Sto}:slC (.tup ds) lo hi st=some (.tup (slT ds lo hi),st):=by
 unfold slC slB slA slD slS slK slW slT
 by_cases h:(decide (HT.sIx ds.length 0 lo=0)&&decide (HT.sIx ds.length ds.length hi=ds.length))=true
 . simp only[h,if_true,zfo]
 . simp only[h,if_false,zbZ,Bt]
theorem zgx(ds:List D):slT ds (some 1) none=ds.drop 1:=by
 cases ds with
 | nil=>rfl
 | cons a r =>
   have h1:HT.sIx (a::r).length 0 (some 1)=1:=by
     unfold HT.sIx;simp
   unfold slT cutD;rw[h1];simp[HT.sIx]
noncomputable def ltP(p r:Int×Int):Bool:=HT.lexLt [p.1,p.2] [r.1,r.2]
theorem zn0{p r:Int×Int}{st:Sto}:ltB (prD p) (prD r) st=some (.bl (ltP p r),st):=by
 have e1:ltD (prD p) (prD r) st=none:=rfl;have e2:ltSD (prD p) (prD r) st=none:=rfl;have e3:ltTD (prD p) (prD r) st=some (.bl (ltP p r),st):=rfl;unfold ltB orG;rw[e1,e2,e3,zfo,zfo]
noncomputable def zmL(ps:List (Int×Int)):Bool:=(ps.zip (ps.drop 1)).all fun p=>ltP p.1 p.2
theorem zk7{ps:List (Int×Int)}{st:Sto}:zipW (.tup (ps.map prD)) (.tup ((ps.drop 1).map prD)) st=some (⟨(ps.zip (ps.drop 1)).map fun p=>D.tup [prD p.1,prD p.2],[]⟩,st):=by
 have ep:pairD (ps.map prD) ((ps.drop 1).map prD)=(ps.zip (ps.drop 1)).map fun p=>D.tup [prD p.1,prD p.2]:=by
   unfold pairD;rw[List.zip_map,Cw];rfl
 unfold zipW;simp only[seqD,AD,Ac,ep];rfl
theorem zjX{ps:List (Int×Int)}{st:Sto}(hl:ps.length<=100):∃ st',zdE [.tup (ps.map prD)] st=some (.bl (zmL ps),st')/\Gr st st':=by
 have ec:=zkM (W:=⟨(ps.zip (ps.drop 1)).map fun p=>D.tup [prD p.1,prD p.2],[]⟩) (g:=gTp 2 (gC (gNm 0) (gC (gNm 1) (gN0)))) (c:=ze0) (m:=zcR) (f:=fun p:(Int×Int)×(Int×Int)=>D.tup [prD p.1,prD p.2]) (h:=fun p:(Int×Int)×(Int×Int)=>D.bl (ltP p.1 p.2)) (R:=fun r=>∃ x y,r=[x,y]) (as:=ps.zip (ps.drop 1)) (ρ:=[none,none]) (st:=st) ⟨_,_,rfl⟩ rfl (fun p hp r hr=>by
   obtain⟨x,y,rfl⟩:=hr;refine⟨[some (prD p.1),some (prD p.2)],rfl,rfl,?_,_,_,rfl⟩;unfold zcR;simp[zn0])
 have fl:fits ((ps.zip (ps.drop 1)).map fun p=>D.bl (ltP p.1 p.2)).length=true:=zaK (by rw[Aj,Fn];omega);have ezz:mZip (mVar 0) (mSlC (mVar 0) (zbI (mCon (.int 1))) (zb6)) [some (.tup (ps.map prD))] st=some (⟨(ps.zip (ps.drop 1)).map fun p=>D.tup [prD p.1,prD p.2],[]⟩,st):=by
   have e2:mSlC (mVar 0) (zbI (mCon (.int 1))) (zb6) [some (.tup (ps.map prD))] st=some (.tup ((ps.drop 1).map prD),st):=by
     rw[zea];simp only[zaM,ziR,ziQ,zbj,Ac,Ag,zcD,zgx,FA]
   have v0:mVar 0 [some (.tup (ps.map prD))] st=some (.tup (ps.map prD),st):=rfl;rw[zmF,v0,Ac,e2,Ac,zk7]
 have ecm:zd4 (mZip (mVar 0) (mSlC (mVar 0) (zbI (mCon (.int 1))) (zb6))) 2 [] (gTp 2 (gC (gNm 0) (gC (gNm 1) (gN0)))) (ze0) (zcR) [some (.tup (ps.map prD))] st=some (.ref st.length,st++[.lst ((ps.zip (ps.drop 1)).map fun p=>D.bl (ltP p.1 p.2))]):=by
   rw[zeG,ezz];simp only[Ac];rw[show rho0 [some (.tup (ps.map prD))] 2 []=[none,none] from rfl,ec];simp only[Ac,fl,if_true]
 have ea:=zmJ (zaU st (.lst ((ps.zip (ps.drop 1)).map fun p=>D.bl (ltP p.1 p.2))));refine⟨_,zck ?_,Gr.app st [.lst ((ps.zip (ps.drop 1)).map fun p=>D.bl (ltP p.1 p.2))]⟩;show zhI [some (.tup (ps.map prD))] st=_;unfold zhI zmL;rw[zgd];simp only[zbS,zbq,zcL,ecm,Ac,ea,AD]
section
variable {E:Nat->Prop} {st:Sto} {d:D}
theorem zfw(h:Fit E st d):zbg [d] st=some (.bl (whB 1 6 d),st):=by
 refine zck ?_;unfold zcI
 cases h with
 | non=>simp[zjs,subT,whB]
 | bl b=>simp[zmT,subT,whB]
 | int x =>
   unfold whB
   by_cases h1:1<=x
   . by_cases h2:x<=6
     . simp[zbx,ty_int,subT,h1,h2]
     . simp[zbx,ty_int,subT,h1,h2]
   . simp[zbx,ty_int,subT,h1]
 | str z h ok=>simp[ty_str,subT,whB]
 | tup ds h f=>simp[zbG,subT,whB]
 | lst k xs h h1 h2=>simp[zhM h,subT,whB]
 | dk k xs h h1 h2=>simp[zmK h,subT,whB]
theorem zko{a0 a2 a3:Option D}(h:Fit E st d):zaP [a0,some d,a2,a3] st=some (if zfR d=true then .nx [a0,some d,a2,a3] else .rt (.bl false),st):=by
 obtain⟨ty,y1,y2⟩:=zmS h;unfold zaP
 rcases zlc d with ⟨x,y,rfl⟩ | h2
 . have l1:lenD [.tup [x,y]] st=some (.int 2,st):=rfl;have n1:=ne_int 2 2 st;have i0:ixA (.tup [x,y]) (.int 0) st=some (x,st):=zcu (by decide) rfl;have i1:ixA (.tup [x,y]) (.int 1) st=some (y,st):=zcu (by decide) rfl;have e0:=zfw (h.at x (by simp));have e1:=zfw (h.at y (by simp));rw[show zfR (.tup [x,y])=(whB 1 6 x&&whB 1 6 y) from rfl]
   cases hx:whB 1 6 x with
   | false =>
     rw[hx] at e0;simp[zbG,subT,l1,n1,i0,e0]
   | true =>
     rw[hx] at e0
     cases hy:whB 1 6 y with
     | false =>
       rw[hy] at e1;simp[zbG,subT,l1,n1,i0,e0,i1,e1]
     | true =>
       rw[hy] at e1;simp[zbG,subT,l1,n1,i0,e0,i1,e1]
 . rw[zgs h2]
   cases d with
   | tup ds =>
     have l1:lenD [.tup ds] st=some (.int (ds.length:Int),st):=zdu;have n1:=ne_int (ds.length:Int) 2 st;have h2':((ds.length:Int)==2)=false:=h2;rw[h2'] at n1;simp[zbG,subT,l1,n1]
   | _=>simp[y1,y2,istB]
theorem zfx{a0 a2 a3:Option D}{W:Wk}(hW:W.g=[]):∀ (ds:List D) (x:Option D),(∀ d∈ds,Fit E st d) ->
   ∃ y,zdt W (gNm 1) zaP ds [a0,x,a2,a3] st=some (if ds.all zfR=true then .nx [a0,y,a2,a3] else .rt (.bl false),st)
 | [],x,_=>⟨x,by
   have wk:walked W st=true:=by unfold walked;rw[hW];rfl
   rw[zdt,if_pos wk];rfl⟩
 | e::ds,x,h=>by
   have wk:walked W st=true:=by unfold walked;rw[hW];rfl
   have e1:=zko (a0:=a0) (a2:=a2) (a3:=a3) (h e An);have t:gNm 1 e [a0,x,a2,a3] st=some ([a0,some e,a2,a3],st):=rfl;rw[Dl]
   cases hb:zfR e with
   | false =>
     rw[hb,if_neg (by simp)] at e1;refine⟨x,?_⟩;rw[zdt,if_pos wk,t];simp only[Ac,e1];rfl
   | true =>
     rw[hb,if_pos rfl] at e1;obtain⟨y,e2⟩:=zfx (a0:=a0) (a2:=a2) (a3:=a3) hW ds (some e) fun d hd=>h d (Ai _ hd);refine⟨y,?_⟩;rw[zdt,if_pos wk,t];simp only[Ac,e1];rw[e2,FB]
theorem zg5{a0 a1:Option D}{W:Wk}(hW:W.g=[]):∀ (as:List ((Int×Int)×(Int×Int))) (x y:Option D),
   ∃ x' y',zdt W (gTp 2 (gC (gNm 2) (gC (gNm 3) (gN0)))) zaD (as.map fun p=>D.tup [prD p.1,prD p.2]) [a0,a1,x,y] st=some (if as.all (fun p=>ltP p.1 p.2)=true then .nx [a0,a1,x',y'] else .rt (.bl false),st)
 | [],x,y=>⟨x,y,by
   have wk:walked W st=true:=by unfold walked;rw[hW];rfl
   rw[Br,zdt,if_pos wk];rfl⟩
 | p::as,x,y=>by
   have wk:walked W st=true:=by unfold walked;rw[hW];rfl
   have t:gTp 2 (gC (gNm 2) (gC (gNm 3) (gN0))) (D.tup [prD p.1,prD p.2]) [a0,a1,x,y] st=some ([a0,a1,some (prD p.1),some (prD p.2)],st):=by simp
   rw[Dl,Ax]
   cases hb:ltP p.1 p.2 with
   | false =>
     have e1:zaD [a0,a1,some (prD p.1),some (prD p.2)] st=some (.rt (.bl false),st):=by
       unfold zaD;simp[zn0,hb]
     refine⟨x,y,?_⟩;rw[zdt,if_pos wk,t];simp only[Ac,e1];rfl
   | true =>
     have e1:zaD [a0,a1,some (prD p.1),some (prD p.2)] st=some (.nx [a0,a1,some (prD p.1),some (prD p.2)],st):=by
       unfold zaD;simp[zn0,hb]
     obtain⟨x',y',e2⟩:=zg5 (a0:=a0) (a1:=a1) hW as (some (prD p.1)) (some (prD p.2));refine⟨x',y',?_⟩;rw[zdt,if_pos wk,t];simp only[Ac,e1];rw[e2,FB]
end
end L2.MP.stickytiles_k52_shapes_or_not
namespace L2.MP.stickytiles_k52_shapes_or_not
open PySem L2.MP L2.MP.Hd
open L2.MP.Hb (FrB zbG ty_str ty_int ne_int)
noncomputable abbrev Pt:=Int×Int
noncomputable def nb(p:Pt):List Pt:=[(p.1,p.2+1),(p.1+1,p.2),(p.1,p.2 - 1),(p.1 - 1,p.2)]
theorem zmc{p r:Pt}(h:r∈nb p):p∈nb r:=by
 obtain⟨a,b⟩:=p;obtain⟨c,d⟩:=r;simp[nb] at h ⊢;omega
inductive Rch (ps:List Pt) (p0:Pt):Pt->Prop
 | base:Rch ps p0 p0
 | step {p r:Pt} (h:Rch ps p0 p) (hn:r∈nb p) (hp:r∈ps):Rch ps p0 r
def zdh(ps R:List Pt):Prop:=∀ p∈R,∀ r∈nb p,r∈ps->r∈R
structure Part(ps:List Pt)(p0:Pt)(R:List Pt):Prop where
 nd:R.Nodup
 sub:∀ p∈R,p∈ps
 fst:p0∈R
 rc:∀ p∈R,Rch ps p0 p
theorem Part.all{ps R:List Pt}{p0 p:Pt}(h:Part ps p0 R)(c:zdh ps R)(hr:Rch ps p0 p):p∈R:=by
 induction hr with
 | base=>exact h.fst
 | step h1 hn hp ih=>exact c _ ih _ hn hp
theorem Part.same{ps R M:List Pt}{p0:Pt}(h:Part ps p0 R)(c:zdh ps R)(h':Part ps p0 M)(c':zdh ps M):R.length=M.length :=
 ((List.perm_ext_iff_of_nodup h.nd h'.nd).mpr fun t=>⟨fun z=>h'.all c' (h.rc t z),fun z=>h.all c (h'.rc t z)⟩).length_eq
theorem len_sub{α:Type}[DecidableEq α]:∀ {a b:List α},a.Nodup->(∀ x∈a,x∈b)->a.length<=b.length
 | [],_,_,_=>Bu _
 | x::a,b,h,hs=>by
   rw[DM] at h;have hx:=hs x An;have ih:=len_sub (a:=a) (b:=b.erase x) h.2 fun y hy=>by
     have hne:y≠x:=fun e=>h.1 (e ▸ hy);exact (List.mem_erase_of_ne hne).mpr (hs y (Ai _ hy))
   rw[List.length_erase_of_mem hx] at ih;have:=D2 hx;rw[AX];omega
theorem Part.len{ps R:List Pt}{p0:Pt}(h:Part ps p0 R):R.length<=ps.length:=len_sub h.nd h.sub
theorem Part.add{ps R:List Pt}{p0 p w:Pt}(h:Part ps p0 R)(hp:p∈R)(hw:w∈nb p)(hs:w∈ps)(hn:w ∉ R):Part ps p0 (R++[w]):=by
 refine⟨?_,fun x hx=>?_,AK _ h.fst,fun x hx=>?_⟩
 . rw[Dt];refine⟨h.nd,by simp,fun a ha b hb=>?_⟩;rw[List.mem_singleton.mp hb];rintro rfl;exact hn ha
 . rcases List.mem_append.mp hx with hx | hx
   . exact h.sub x hx
   . rw[List.mem_singleton.mp hx];exact hs
 . rcases List.mem_append.mp hx with hx | hx
   . exact h.rc x hx
   . rw[List.mem_singleton.mp hx];exact .step (h.rc p hp) hw hs
noncomputable def prP(p:Pt):PyData:=.tuple [.int p.1,.int p.2]
theorem zom(p r:Pt):BD (prP p) (prP r)=decide (p=r):=by
 obtain⟨a,b⟩:=p;obtain⟨c,d⟩:=r;unfold prP
 by_cases h1:a=c
 . by_cases h2:b=d
   . simp[BD,Eo,h1,h2]
   . simp[BD,Eo,h1,h2]
 . simp[BD,Eo,h1]
theorem zfb(m:Nat)(st:Sto):∀ ps:List Pt,toPs (toP (m+2) st) (ps.map prD)=some (ps.map prP)
 | []=>rfl
 | p::ps=>by
   have e:toP (m+2) st (prD p)=some (prP p):=rfl;rw[Ax,toPs,e,Ac,zfb m st ps];rfl
theorem ziS(w:Pt):∀ ps:List Pt,((ps.map prP).any fun y=>BD y (prP w))=decide (w∈ps)
 | []=>by simp
 | p::ps=>by
   rw[Ax,BG,ziS w ps,zom,CU];simp only[DN,decide_eq_true_iff,AM]
   constructor
   . rintro (h | h)
     . exact .inl h.symm
     . exact .inr h
   . rintro (h | h)
     . exact .inl h.symm
     . exact .inr h
theorem zoh{w:Pt}{ps:List Pt}{st:Sto}:inA (prD w) (.tup (ps.map prD)) st=some (.bl (decide (w∈ps)),st):=by
 have e1:toP 50 st (prD w)=some (prP w):=rfl;have e2:toP 50 st (.tup (ps.map prD))=some (.tuple (ps.map prP)):=by
   rw[toP,zfb 47 st ps];rfl
 have e:inD false (prD w) (.tup (ps.map prD)) st=some (.bl (decide (w∈ps)),st):=by
   unfold inD;rw[e1,e2];simp only[Ac,memP,ziS,AD];rfl
 unfold inA orG;rw[e,zbZ,zbZ]
theorem ziW{ps:List Pt}{l:Nat}{st:Sto}(h:st[l]?=some (.lst (ps.map prD))):toP 50 st (.ref l)=some (.list (ps.map prP)):=by
 rw[toP];simp only[zba,h,Ac,zfb 47 st ps];rfl
theorem zoi{w:Pt}{ps:List Pt}{l:Nat}{st:Sto}(h:st[l]?=some (.lst (ps.map prD))):inA (prD w) (.ref l) st=some (.bl (decide (w∈ps)),st):=by
 have e1:toP 50 st (prD w)=some (prP w):=rfl;have e:inD false (prD w) (.ref l) st=some (.bl (decide (w∈ps)),st):=by
   unfold inD;rw[e1,ziW h];simp only[Ac,memP,ziS,AD];rfl
 unfold inA orG;rw[e,zbZ,zbZ]
theorem zfs{w:Pt}{ps:List Pt}{l:Nat}{st:Sto}(h:st[l]?=some (.lst (ps.map prD))):zb1 (prD w) (.ref l) st=some (.bl (!decide (w∈ps)),st):=by
 have e1:toP 50 st (prD w)=some (prP w):=rfl;have e:inD true (prD w) (.ref l) st=some (.bl (!decide (w∈ps)),st):=by
   unfold inD;rw[e1,ziW h];simp only[Ac,memP,ziS,AD,if_true]
 unfold zb1 orG zio orG;rw[e,zbZ,zbZ]
noncomputable def kvT(p:Pt):List Key×D:=([.inl p.1,.inl p.2],.bl true)
theorem zg8(w:Pt):∀ R:List Pt,((R.map kvT).any fun kv=>decide (kv.1=[.inl w.1,.inl w.2]))=decide (w∈R)
 | []=>by simp
 | p::R=>by
   rw[Ax,BG,zg8 w R,CU];obtain⟨a,b⟩:=p;obtain⟨c,d⟩:=w;simp[kvT]
   constructor
   . rintro (⟨h1,h2⟩ | h)
     . exact .inl ⟨h1.symm,h2.symm⟩
     . exact .inr h
   . rintro (⟨h1,h2⟩ | h)
     . exact .inl ⟨h1.symm,h2.symm⟩
     . exact .inr h
theorem ziV{κ:Type}[DecidableEq κ](k:κ):∀ kvs:List (κ×D),(valD kvs k).isSome=kvs.any fun kv=>decide (kv.1=k)
 | []=>rfl
 | a::kvs=>by
   have ih:=ziV k kvs;unfold valD at ih ⊢;rw[Bz,BG]
   cases h:decide (a.1=k) with
   | true=>rfl
   | false=>rw[Fv,<-ih]
theorem zin{w:Pt}{R:List Pt}{r:Nat}{st:Sto}(h:st[r]?=some (.dt (R.map kvT))):zb1 (prD w) (.ref r) st=some (.bl (!decide (w∈R)),st):=by
 have e0:toP 50 st (.ref r)=none:=by rw[toP];simp[zba,h]
 have e1:inD true (prD w) (.ref r) st=none:=by
   unfold inD;rw[e0]
   cases toP 50 st (prD w) <;> rfl
 have e2:=ziV [.inl w.1,.inl w.2] (R.map kvT);rw[zg8] at e2;unfold zb1 orG zio orG prD;unfold prD at e1;rw[e1,zfo];simp[dinD,look,h,keysOf,keyOf,zbZ];rw[<-Option.not_isSome,e2]
theorem zlI{w:Pt}{R:List Pt}{r:Nat}{st:Sto}(h:st[r]?=some (.dt (R.map kvT)))(hn:w ∉ R)(hl:R.length<=1000):dput st r (prD w) (.bl true)=some (st.set r (.dt ((R++[w]).map kvT))):=by
 have hz:(R.map kvT).length < sizeLine:=by rw[Aj];exact Bs hl (by decide)
 have ha:=zg8 w R;rw[decide_eq_false hn] at ha;unfold dput prD;simp only[h];simp only[keysOf,keyOf,Ac,AD,decide_eq_true hz,if_true,putD,ha,Bt,if_false,Ca,Ax,Br];rfl
structure DS(ps:List Pt)(p0:Pt)(s r a:Nat)(st0:Sto)(R A:List Pt)(st:Sto):Prop where
 pt:Part ps p0 R
 hs:∃ L:List D,st[s]?=some (.lst L)/\L.length+1=R.length
 hr:st[r]?=some (.dt (R.map kvT))
 ha:st[a]?=some (.lst (A.map prD))
 sub:∀ p∈A,p∈R
 fr:Gr st0 st
section
variable {ps:List Pt} {p0:Pt} {s r a:Nat} {st0:Sto}
theorem zhh{st0 st:Sto}{l:Nat}{o:O}(g:Gr st0 st)(h:st0.length<=l):Gr st0 (st.set l o):=⟨by rw[BO];exact g.len,fun k hk=>by rw[Au (by omega)];exact g.old k hk⟩
theorem zir{R A:List Pt}{p w:Pt}{d5:D}{st:Sto}(h:DS ps p0 s r a st0 R A st)(hn:st0.length<=s/\st0.length<=r/\st0.length<=a)(hd:s≠r/\s≠a/\r≠a)(hl:ps.length<=100)(hal:A.length<=1000)(hp:p∈R)(hw:w∈nb p) :
   ∃ B st',zav [some (.tup (ps.map prD)),some (.ref s),some (.ref r),some (.ref a),some (prD p),some d5,some (prD w)] st=some (.nx [some (.tup (ps.map prD)),some (.ref s),some (.ref r),some (.ref a),some (prD p),some d5,some (prD w)],st')/\DS ps p0 s r a st0 (R++B) (A++B) st'/\((w∈ps->w∈R++B)/\B.length<=1):=by
 have e1:=zoh (w:=w) (ps:=ps) (st:=st);have e2:=zin (w:=w) h.hr;have stay:zav [some (.tup (ps.map prD)),some (.ref s),some (.ref r),some (.ref a),some (prD p),some d5,some (prD w)] st=some (.nx [some (.tup (ps.map prD)),some (.ref s),some (.ref r),some (.ref a),some (prD p),some d5,some (prD w)],st)->(w∈ps->w∈R)->∃ B st',zav [some (.tup (ps.map prD)),some (.ref s),some (.ref r),some (.ref a),some (prD p),some d5,some (prD w)] st=some (.nx [some (.tup (ps.map prD)),some (.ref s),some (.ref r),some (.ref a),some (prD p),some d5,some (prD w)],st')/\DS ps p0 s r a st0 (R++B) (A++B) st'/\((w∈ps->w∈R++B)/\B.length<=1):=fun e q=>⟨[],st,e,by rw[Ah,Ah];exact h,by rw[Ah];exact q,by simp⟩
 by_cases h1:w∈ps
 . rw[decide_eq_true h1] at e1
   by_cases h2:w∈R
   . rw[decide_eq_true h2] at e2;refine stay ?_ fun _=>h2;unfold zav;simp[e1,e2]
   . rw[decide_eq_false h2] at e2;obtain⟨L,hs,hL⟩:=h.hs;have hRl:=h.pt.len;have dp:=zlI h.hr h2 (by omega);have s1:(st.set r (.dt ((R++[w]).map kvT)))[s]?=some (.lst L):=by rw[Au (fun z=>hd.1 z.symm)];exact hs
     have r1:(st.set r (.dt ((R++[w]).map kvT)))[r]?=some (.dt ((R++[w]).map kvT)):=by rw[AZ (getElem?_lt h.hr)]
     have a1:(st.set r (.dt ((R++[w]).map kvT)))[a]?=some (.lst (A.map prD)):=by rw[Au hd.2.2];exact h.ha
     have g1:=zhh (o:=.dt ((R++[w]).map kvT)) h.fr hn.2.1;have nset:∀ v,setD (.ref r) (prD w) v st=none:=fun v=>by unfold setD prD;simp[h.hr]
     generalize st.set r (.dt ((R++[w]).map kvT))=st1 at dp s1 r1 a1 g1;have ap1:=append_at (x:=.tup [prD p,d5,prD w]) s1 (by omega);have s2:(st1.set s (.lst (L++[.tup [prD p,d5,prD w]])))[s]?=some (.lst (L++[.tup [prD p,d5,prD w]])):=by rw[AZ (getElem?_lt s1)]
     have r2:(st1.set s (.lst (L++[.tup [prD p,d5,prD w]])))[r]?=some (.dt ((R++[w]).map kvT)):=by rw[Au hd.1];exact r1
     have a2:(st1.set s (.lst (L++[.tup [prD p,d5,prD w]])))[a]?=some (.lst (A.map prD)):=by rw[Au hd.2.1];exact a1
     have g2:=zhh (o:=.lst (L++[.tup [prD p,d5,prD w]])) g1 hn.1;generalize st1.set s (.lst (L++[.tup [prD p,d5,prD w]]))=st2 at ap1 s2 r2 a2 g2;have ap2:=append_at (x:=prD w) a2 (by rw[Aj];omega);have s3:(st2.set a (.lst (A.map prD++[prD w])))[s]?=some (.lst (L++[.tup [prD p,d5,prD w]])):=by rw[Au (fun z=>hd.2.1 z.symm)];exact s2
     have r3:(st2.set a (.lst (A.map prD++[prD w])))[r]?=some (.dt ((R++[w]).map kvT)):=by rw[Au (fun z=>hd.2.2 z.symm)];exact r2
     have a3:(st2.set a (.lst (A.map prD++[prD w])))[a]?=some (.lst ((A++[w]).map prD)):=by rw[AZ (getElem?_lt a2),Ca];rfl
     have g3:=zhh (o:=.lst (A.map prD++[prD w])) g2 hn.2.2;generalize st2.set a (.lst (A.map prD++[prD w]))=st3 at ap2 s3 r3 a3 g3;refine⟨[w],st3,?_,⟨h.pt.add hp hw h1 h2,⟨_,s3,by simp;omega⟩,r3,a3,fun x hx=>?_,g3⟩,fun _=>by simp,by simp⟩
     . unfold zav;have et:zeu (mTst (mBin inA (mVar 6) (mVar 0))) (mTst (mBin zb1 (mVar 6) (mVar 2))) [some (.tup (ps.map prD)),some (.ref s),some (.ref r),some (.ref a),some (prD p),some d5,some (prD w)] st=some (true,st):=by simp[e1,e2]
       rw[zdB,et];show mSeq _ _ [some (.tup (ps.map prD)),some (.ref s),some (.ref r),some (.ref a),some (prD p),some d5,some (prD w)] st=_;refine zaj (ρ1:=[some (.tup (ps.map prD)),some (.ref s),some (.ref r),some (.ref a),some (prD p),some d5,some (prD w)]) (s1:=st1) (by
         simp only[zkS,zci,zot,zaM,zbj,Ag,Av,Ac,nset,Fo,zfo];unfold zmg;simp only[zaM,zbj,Ag,Av,Ac,dp,AD]) ?_
       refine zaj (ρ1:=[some (.tup (ps.map prD)),some (.ref s),some (.ref r),some (.ref a),some (prD p),some d5,some (prD w)]) (s1:=st2) (by
         simp[zba,s1,ap1]) ?_
       simp[zba,a2,ap2]
     . rcases List.mem_append.mp hx with hx | hx
       . exact AK _ (h.sub x hx)
       . exact AN _ hx
 . rw[decide_eq_false h1] at e1;refine stay ?_ fun z=>absurd z h1;unfold zav;simp[e1]
theorem zki{R A:List Pt}{p:Pt}{x5 x6:Option D}{st:Sto}(h:DS ps p0 s r a st0 R A st)(hn:st0.length<=s/\st0.length<=r/\st0.length<=a)(hd:s≠r/\s≠a/\r≠a)(hl:ps.length<=100)(hal:A.length<=500)(hp:p∈R) :
   ∃ B y5 y6 st',mFor (zmf (zat zaJ (zab (mVar 4) (mNil)))) (gTp 2 (gC (gNm 5) (gC (gNm 6) (gN0)))) (zav) [some (.tup (ps.map prD)),some (.ref s),some (.ref r),some (.ref a),some (prD p),x5,x6] st=some (.nx [some (.tup (ps.map prD)),some (.ref s),some (.ref r),some (.ref a),some (prD p),y5,y6],st')/\DS ps p0 s r a st0 (R++B) (A++B) st'/\∀ w∈nb p,w∈ps->w∈R++B:=by
 have ea:zaJ [prD p] st=some (.tup ((nb p).map prD),st):=Hd.ziP;have key:=zbL (W:=⟨pairs ((nb p).map prD),[]⟩) (g:=gTp 2 (gC (gNm 5) (gC (gNm 6) (gN0)))) (m:=zav) (ds:=pairs ((nb p).map prD)) (ρ:=[some (.tup (ps.map prD)),some (.ref s),some (.ref r),some (.ref a),some (prD p),x5,x6]) (st:=st)
   (Inv:=fun i ρ st'=>(∃ y5 y6,ρ=[some (.tup (ps.map prD)),some (.ref s),some (.ref r),some (.ref a),some (prD p),y5,y6])/\∃ B,DS ps p0 s r a st0 (R++B) (A++B) st'/\B.length<=i/\∀ j w,j < i->(nb p)[j]?=some w->w∈ps->w∈R++B)
   ⟨⟨_,_,rfl⟩,[],by rw[Ah,Ah];exact h,by simp,by intro j w hj;omega⟩ (fun _ _ _ _ _=>rfl) (fun i d ρ st' hd' hI=>by
     obtain⟨⟨y5,y6,rfl⟩,B,hB,hBl,hall⟩:=hI;obtain⟨z,hz,rfl⟩:=zfm hd';rw[AE] at hz;obtain⟨w,hw,rfl⟩:=zag hz;have hi:i < 4:=getElem?_lt hw;obtain⟨C,st2,e2,hC,hin,hC1⟩:=zir (d5:=.int (i:Nat)) hB hn hd hl (by rw[Aq];omega) (AK _ hp) (A1 hw);refine⟨[some (.tup (ps.map prD)),some (.ref s),some (.ref r),some (.ref a),some (prD p),some (.int (i:Nat)),some (prD w)],st',_,st2,by simp,e2,⟨_,_,rfl⟩,B++C,by rw[<-Al,<-Al];exact hC,?_,fun j v hj hv hps=>?_⟩
     . rw[Aq];omega
     . rw[<-Al]
       by_cases hji:j=i
       . subst hji;rw[hw] at hv;cases hv;exact hin hps
       . exact AK _ (hall j v (by omega) hv hps))
 obtain⟨ρ',st',el,⟨y5,y6,rfl⟩,B,hB,_,hall⟩:=key;refine⟨B,y5,y6,st',?_,hB,fun w hw hps=>?_⟩
 . have ev:zmf (zat zaJ (zab (mVar 4) (mNil))) [some (.tup (ps.map prD)),some (.ref s),some (.ref r),some (.ref a),some (prD p),x5,x6] st=some (⟨pairs ((nb p).map prD),[]⟩,st):=by
     rw[zmI];simp only[zbS,zbq,zcL,zaM,Ag,Av,Ac,ea];rfl
   rw[zeb,ev];exact el
 . obtain⟨j,hj,e⟩:=Cj hw;refine hall j w ?_ (by rw[Aw hj,e]) hps;have:(pairs ((nb p).map prD)).length=4:=rfl;have h4:(nb p).length=4:=rfl;omega
theorem zmG{m:ME}{ρ:Rho}{st:Sto}:znZ m ρ st=(m ρ st).bind fun p=>match p.1 with
 | .ref n=>(zba p.2 n).bind fun _=>zkW p.1 [] p.2
 | _=>none:=rfl
theorem zj7{A:List Pt}{p:Pt}{n:Nat}{s:Sto}(h:s[n]?=some (.lst ((A++[p]).map prD))):zkW (.ref n) [] s=some (prD p,s.set n (.lst (A.map prD))):=by
 unfold zkW;simp[h]
theorem dfs(hn:st0.length<=s/\st0.length<=r/\st0.length<=a)(hd:s≠r/\s≠a/\r≠a)(hl:ps.length<=100):∀ (k:Nat) (R A:List Pt) (st:Sto) (x4 x5 x6:Option D),DS ps p0 s r a st0 R A st->(∀ x∈R,x ∉ A->∀ w∈nb x,w∈ps->w∈R)->2*(ps.length - R.length)+A.length < k->k<=200 ->
   ∃ R' y4 y5 y6 st',mWhF zaF za1 k [some (.tup (ps.map prD)),some (.ref s),some (.ref r),some (.ref a),x4,x5,x6] st=some (.nx [some (.tup (ps.map prD)),some (.ref s),some (.ref r),some (.ref a),y4,y5,y6],st')/\DS ps p0 s r a st0 R' [] st'/\zdh ps R'
 | 0,R,A,st,x4,x5,x6,_,_,hk,_=>absurd hk (DP _)
 | k+1,R,A,st,x4,x5,x6,h,hc,hk,hk2=>by
   rcases List.eq_nil_or_concat A with rfl | ⟨A0,p,rfl⟩
   . refine⟨R,x4,x5,x6,st,?_,h,fun x hx w hw hps=>hc x hx (by simp) w hw hps⟩;have et:zaF [some (.tup (ps.map prD)),some (.ref s),some (.ref r),some (.ref a),x4,x5,x6] st=some (false,st):=by
       unfold zaF mTru;have:=h.ha;simp[truD,zba,this]
     rw[mWhF];simp[et]
   . rw[List.concat_eq_append] at h hc hk;have et:zaF [some (.tup (ps.map prD)),some (.ref s),some (.ref r),some (.ref a),x4,x5,x6] st=some (true,st):=by
       unfold zaF mTru;have:=h.ha;simp[truD,zba,this]
     have pl:=zj7 h.ha;obtain⟨L,hs,hL⟩:=h.hs;have h1:DS ps p0 s r a st0 R A0 (st.set a (.lst (A0.map prD))):=⟨h.pt,⟨L,by rw[Au (fun z=>hd.2.1 z.symm)];exact hs,hL⟩,by rw[Au (fun z=>hd.2.2 z.symm)];exact h.hr,by rw[AZ (getElem?_lt h.ha)],fun x hx=>h.sub x (AK _ hx),zhh h.fr hn.2.2⟩
     have hp:p∈R:=h.sub p (by simp);rw[Aq,Bo] at hk;obtain⟨B,y5,y6,st2,e2,hB,hall⟩:=zki (x5:=x5) (x6:=x6) h1 hn hd hl (by omega) hp;have hlen:=hB.pt.len;rw[Aq] at hlen;obtain⟨R',z4,z5,z6,st3,e3,h3,c3⟩:=dfs hn hd hl k (R++B) (A0++B) st2 (some (prD p)) y5 y6 hB (fun x hx hx2 w hw hps=>by
       rcases List.mem_append.mp hx with hx | hx
       . by_cases hxp:x=p
         . subst hxp;exact hall w hw hps
         . refine AK _ (hc x hx (fun hm=>?_) w hw hps)
           rcases List.mem_append.mp hm with hm | hm
           . exact hx2 (AK _ hm)
           . exact hxp (List.mem_singleton.mp hm)
       . exact absurd (AN _ hx) hx2) (by rw[Aq,Aq];omega) (by omega)
     refine⟨R',z4,z5,z6,st3,?_,h3,c3⟩;have el:za1 [some (.tup (ps.map prD)),some (.ref s),some (.ref r),some (.ref a),x4,x5,x6] st=some (.nx [some (.tup (ps.map prD)),some (.ref s),some (.ref r),some (.ref a),some (prD p),y5,y6],st2):=by
       unfold za1;refine zaj (ρ1:=[some (.tup (ps.map prD)),some (.ref s),some (.ref r),some (.ref a),some (prD p),x5,x6]) (s1:=st.set a (.lst (A0.map prD))) ?_ e2;have hat:=h.ha;rw[zci,zmG];simp only[zaM,Ag,Av,Ac,zba,hat,pl];rfl
     rw[mWhF];simp[et,el,e3]
theorem zjA{ps:List Pt}{p0:Pt}{st:Sto}(hl:ps.length<=12)(h0:ps[0]?=some p0):∃ (l:Nat) (L:List D) (R:List Pt) (st':Sto),zaZ [.tup (ps.map prD)] st=some (.ref l,st')/\st'[l]?=some (.lst L)/\L.length+1=R.length/\Part ps p0 R/\zdh ps R/\Gr st st':=by
 have i0:∀ s:Sto,ixA (.tup (ps.map prD)) (.int 0) s=some (prD p0,s):=fun s=>zcu (by decide) (by rw[AE];show FM prD ps[0]?=_;rw[h0];rfl);have hp0:=A1 h0;have g1:=Gr.app st [.lst []];have a1:=zaU st (.lst []);generalize hs1:st++[O.lst []]=s1 at g1 a1;have g2:Gr s1 (s1++[.dt [kvT p0]]):=Gr.app s1 [.dt [kvT p0]];have a2:=zaU s1 (.dt [kvT p0]);have l1:s1.length=st.length+1:=by rw[<-hs1];simp
 have es:(s1++[O.dt []]).set s1.length (.dt [kvT p0])=s1++[.dt [kvT p0]]:=by rw[List.set_append_right _ _ (Af _),BX];rfl
 have l2:(s1++[O.dt [kvT p0]]).length=st.length+2:=by simp[l1]
 have b1:(s1++[O.dt [kvT p0]])[st.length]?=some (.lst []):=(g2.old _ (getElem?_lt a1)).trans a1;have a0:=zaU s1 (.dt []);generalize hs2:s1++[O.dt [kvT p0]]=s2 at g2 a2 es l2 b1;have g3:=Gr.app s2 [.lst [prD p0]];have a3:=zaU s2 (.lst [prD p0]);generalize hs3:s2++[O.lst [prD p0]]=s3 at g3 a3;have D0:DS ps p0 st.length s1.length s2.length st [p0] [p0] s3:=⟨⟨by simp,fun p hp=>by rw[List.mem_singleton.mp hp];exact hp0,by simp,fun p hp=>by rw[List.mem_singleton.mp hp];exact .base⟩,⟨[],(g3.old _ (getElem?_lt b1)).trans b1,rfl⟩,(g3.old _ (getElem?_lt a2)).trans a2,a3,fun p hp=>hp,(g1.trans g2).trans g3⟩
 obtain⟨R,y4,y5,y6,s4,e4,D4,c4⟩:=dfs (ps:=ps) (p0:=p0) (st0:=st) ⟨Af _,by omega,by omega⟩ ⟨by omega,by omega,by omega⟩ (by omega) 100 [p0] [p0] s3 none none none D0 (fun x hx hx2=>absurd hx hx2) (by simp;omega) (by decide);obtain⟨L,hL1,hL2⟩:=D4.hs;refine⟨st.length,L,R,s4,zck ?_,hL1,hL2,D4.pt,c4,D4.fr⟩;show zbz [some (.tup (ps.map prD)),none,none,none,none,none,none] st=_;unfold zbz;refine zaj (ρ1:=[some (.tup (ps.map prD)),some (.ref st.length),none,none,none,none,none]) (s1:=s1) (by simp[hs1]) ?_;refine zaj (ρ1:=[some (.tup (ps.map prD)),some (.ref st.length),some (.ref s1.length),none,none,none,none]) (s1:=s2) (by
   rw[zci];unfold zkm;have hk:keysOf [.int p0.1,.int p0.2]=some [.inl p0.1,.inl p0.2]:=rfl;simp only[zby,zaM,zbj,Ag,Ac,i0,prD,hk,a0];show some (Fl.nx _,(s1++[O.dt []]).set s1.length (.dt [kvT p0]))=_;rw[es]
   rfl) ?_
 refine zaj (ρ1:=[some (.tup (ps.map prD)),some (.ref st.length),some (.ref s1.length),some (.ref s2.length),none,none,none]) (s1:=s3) (by simp[i0,hs3]) ?_;refine zaj e4 ?_;rfl
end
noncomputable def nbl(p:Pt):List Pt:=[(p.1,p.2+1),(p.1,p.2 - 1),(p.1+1,p.2),(p.1 - 1,p.2)]
theorem zjc{p w:Pt}:w∈nbl p ↔ w∈nb p:=by
 simp only[nbl,nb,AM,AH,or_false]
 constructor
 . rintro (h | h | h | h) <;> simp[h]
 . rintro (h | h | h | h) <;> simp[h]
theorem znU{st:Sto}{f g:Nat}{ps:List Pt}(hf:st[f]?=some (.lst (ps.map prD)))(hg:st[g]?=some (.lst [])):neD (.ref f) (.ref g) st=some (.bl (!ps.isEmpty),st):=by
 unfold neD;have e1:toP 100 st (.ref f)=some (.list (ps.map prP)):=by
   rw[toP];simp only[zba,hf,Ac,zfb 97 st ps];rfl
 have e2:toP 100 st (.ref g)=some (.list []):=by
   rw[toP];simp only[zba,hg,Ac];rfl
 rw[e1,e2]
 cases ps <;> rfl
theorem zlH{m:ME}{ρ:Rho}{st:Sto}{k:Nat}(e:m ρ st=some (.int (k:Int),st))(hk:k<=1000):mR1 m ρ st=some (⟨run 0 k,[]⟩,st):=by
 have sm:small (k:Int)=true:=zdL (by omega) (by omega);rw[zoO,e,Ac];simp only[sm,if_true];rw[Bm]
theorem zfB{m:ME}{g:MG}{b:MS}{ρ ρ':Rho}{st st':Sto}{k:Nat}(e:m ρ st=some (.int (k:Int),st))(hk:k<=1000)(el:zdt ⟨run 0 k,[]⟩ g b (run 0 k) ρ st=some (.nx ρ',st')):mFor (mR1 m) g b ρ st=some (.nx ρ',st'):=by
 rw[zeb,zlH e hk];exact el
theorem zn5{P p0:D}{l:Nat}{y2 y3 y4 y5:Option D}{st s1 s2:Sto}{M:Int}(i0:ixA P (.int 0) st=some (p0,st))(hs:mLst (zab (mBin ixA (mVar 0) (mCon (.int 0))) (mNil)) [some P,none,none,none,none,none] st=some (.ref l,s1))(ef:mFor (mR1 (zat lenD (zab (mVar 0) (mNil)))) (gNm 2) (zbf) [some P,some (.ref l),none,none,none,none] s1=some (.nx [some P,some (.ref l),y2,y3,y4,y5],s2))(eM:lenD [.ref l] s2=some (.int M,s2)):zbB [P] st=some (.int M,s2):=by
 refine zck ?_;show zcC [some P,none,none,none,none,none] st=_;unfold zcC;refine zaj (ρ1:=[some P,some (.ref l),none,none,none,none]) (s1:=s1) (by rw[zci,hs];rfl) ?_;refine zaj ef ?_;simp[eM]
section
variable {ps:List Pt} {p0:Pt} {l:Nat} {st0:Sto}
structure LS(ps:List Pt)(p0:Pt)(l:Nat)(st0:Sto)(M:List Pt)(st:Sto):Prop where
 pt:Part ps p0 M
 at_:st[l]?=some (.lst (M.map prD))
 fr:Gr st0 st
theorem LS.gr{M:List Pt}{st st':Sto}(h:LS ps p0 l st0 M st)(g:Gr st st'):LS ps p0 l st0 M st':=⟨h.pt,(g.old _ (getElem?_lt h.at_)).trans h.at_,h.fr.trans g⟩
theorem zks{M:List Pt}{p:Pt}{x2 x5:Option D}{P:D}{st:Sto}(h:LS ps p0 l st0 M st)(hn:st0.length<=l)(hl:ps.length<=100)(hp:p∈ps) :
   ∃ B y5 st',za3 [some P,some (.ref l),x2,some (.int p.1),some (.int p.2),x5] st=some (.nx [some P,some (.ref l),x2,some (.int p.1),some (.int p.2),y5],st')/\LS ps p0 l st0 (M++B) st'/\((∃ w∈nb p,w∈M)->p∈M++B):=by
 have g1:=Gr.app st [.lst ((nbl p).map prD)];have a1:=zaU st (.lst ((nbl p).map prD));have h1:=h.gr g1;have fst:mAsg (mLst (zab (mTup (zab (mVar 3) (zab (mBin addD (mVar 4) (mCon (.int 1))) (mNil)))) (zab (mTup (zab (mVar 3) (zab (mBin subD (mVar 4) (mCon (.int 1))) (mNil)))) (zab (mTup (zab (mBin addD (mVar 3) (mCon (.int 1))) (zab (mVar 4) (mNil)))) (zab (mTup (zab (mBin subD (mVar 3) (mCon (.int 1))) (zab (mVar 4) (mNil)))) (mNil)))))) (gNm 5) [some P,some (.ref l),x2,some (.int p.1),some (.int p.2),x5] st=some (.nx [some P,some (.ref l),x2,some (.int p.1),some (.int p.2),some (.ref st.length)],st++[.lst ((nbl p).map prD)]):=by
   simp[nbl,prD]
 generalize hs1:st++[O.lst ((nbl p).map prD)]=s1 at g1 a1 h1 fst;have nin:=zfs (w:=p) h1.at_
 by_cases hpM:p∈M
 . rw[decide_eq_true hpM] at nin;refine⟨[],some (.ref st.length),s1,?_,by rw[Ah];exact h1,fun _=>by rw[Ah];exact hpM⟩;unfold za3;refine zaj fst ?_;have nin':zb1 (.tup [.int p.1,.int p.2]) (.ref l) s1=some (.bl (!true),s1):=nin;simp[nin']
 . rw[decide_eq_false hpM] at nin;have ec:=zd8 (W:=⟨(nbl p).map prD,[(st.length,(nbl p).map prD)]⟩) (g:=gNm 0) (c:=zbe) (m:=zbw) (f:=prD) (h:=prD) (p:=fun w=>decide (w∈M)) (R:=fun r=>∃ x,r=[x,some (.ref l)]) (as:=nbl p) (ρ:=[none,some (.ref l)]) (st:=s1) ⟨none,rfl⟩ (zb7 a1) (fun w hw r hr=>by
     obtain⟨x,rfl⟩:=hr;refine⟨[some (prD w),some (.ref l)],rfl,?_,fun _=>rfl,_,rfl⟩;have:=zoi (w:=w) h1.at_;unfold zbe;simp[this])
   have fl:fits (((nbl p).filter fun w=>decide (w∈M)).map prD).length=true:=zaK (by
     rw[Aj];have h4:(nbl p).length=4:=rfl;have:=Ef (fun w=>decide (w∈M)) (nbl p)
     omega)
   have ecm:zd4 (mWA (mVar 5)) 1 [1] (gNm 0) (zbe) (zbw) [some P,some (.ref l),x2,some (.int p.1),some (.int p.2),some (.ref st.length)] s1=some (.ref s1.length,s1++[.lst (((nbl p).filter fun w=>decide (w∈M)).map prD)]):=by
     rw[zeG,zk6];simp only[zaM,Ac,Ag,Av,zhL,zba,a1,AD,zbZ];rw[show rho0 [some P,some (.ref l),x2,some (.int p.1),some (.int p.2),some (D.ref st.length)] 1 [1]=[none,some (.ref l)] from rfl,ec];simp only[Ac,fl,if_true]
   have hany:(∃ w∈nb p,w∈M) ↔ ((nbl p).filter fun w=>decide (w∈M))≠[]:=by
     constructor
     . rintro ⟨w,hw,hm⟩ e;have:w∈(nbl p).filter fun w=>decide (w∈M):=List.mem_filter.mpr ⟨zjc.mpr hw,decide_eq_true hm⟩;rw[e] at this;simp at this
     . intro hne;obtain⟨w,hw⟩:=List.exists_mem_of_ne_nil _ hne;obtain⟨h1,h2⟩:=List.mem_filter.mp hw;exact⟨w,zjc.mp h1,of_decide_eq_true h2⟩
   generalize hF:((nbl p).filter fun w=>decide (w∈M))=F at ecm hany;have g2:=Gr.app s1 [.lst (F.map prD)];have a2:=zaU s1 (.lst (F.map prD));generalize hs2:s1++[O.lst (F.map prD)]=s2 at g2 a2 ecm;have g3:=Gr.app s2 [.lst []];have a3:=zaU s2 (.lst []);have n3:=znU (st:=s2++[.lst []]) (f:=s1.length) (g:=s2.length) (ps:=F) ((g3.old _ (getElem?_lt a2)).trans a2) a3;have h3:=(h1.gr g2).gr g3;have ml:∀ ρ,mLst mNil ρ s2=some (.ref s2.length,s2++[.lst []]):=fun ρ=>by simp
   generalize hs3:s2++[O.lst []]=s3 at g3 a3 n3 h3 ml;have et:zeu (mTst (mBin zb1 (mTup (zab (mVar 3) (zab (mVar 4) (mNil)))) (mVar 1))) (mTst (mBin neD (zd4 (mWA (mVar 5)) 1 [1] (gNm 0) (zbe) (zbw)) (mLst (mNil)))) [some P,some (.ref l),x2,some (.int p.1),some (.int p.2),some (.ref st.length)] s1=some (!F.isEmpty,s3):=by
     have nin':zb1 (.tup [.int p.1,.int p.2]) (.ref l) s1=some (.bl (!false),s1):=nin;have q1:mTst (mBin zb1 (mTup (zab (mVar 3) (zab (mVar 4) (mNil)))) (mVar 1)) [some P,some (.ref l),x2,some (.int p.1),some (.int p.2),some (.ref st.length)] s1=some (true,s1):=by simp[nin']
     rw[zhF,q1];simp only[Ac,if_true];rw[zhE,zby,ecm];simp only[Ac,ml,n3]
   cases F with
   | nil =>
     refine⟨[],some (.ref st.length),s3,?_,by rw[Ah];exact h3,fun hw=>absurd rfl (hany.mp hw)⟩;unfold za3;refine zaj fst ?_;rw[zdB,et];rfl
   | cons w F =>
     have hML:=h.pt.len;have ap:=append_at (x:=prD p) h3.at_ (by rw[Aj];omega);obtain⟨v,hv,hvM⟩:=hany.mpr (by simp);refine⟨[p],some (.ref st.length),s3.set l (.lst (M.map prD++[prD p])),?_,⟨h.pt.add hvM (zmc hv) hp hpM,by rw[AZ (getElem?_lt h3.at_),Ca];rfl,zhh h3.fr hn⟩,fun _=>by simp⟩;unfold za3;refine zaj fst ?_;rw[zdB,et];have hat:=h3.at_;have ap':zbR (.ref l) [.tup [.int p.1,.int p.2]] s3=some (.non,s3.set l (.lst (M.map prD++[prD p]))):=ap;simp[zba,hat,ap']
theorem zkt{M:List Pt}{x2 x3 x4 x5:Option D}{st:Sto}(h:LS ps p0 l st0 M st)(hn:st0.length<=l)(hl:ps.length<=100) :
   ∃ B y3 y4 y5 st',zbf [some (.tup (ps.map prD)),some (.ref l),x2,x3,x4,x5] st=some (.nx [some (.tup (ps.map prD)),some (.ref l),x2,y3,y4,y5],st')/\LS ps p0 l st0 (M++B) st'/\∀ p∈ps,(∃ w∈nb p,w∈M)->p∈M++B:=by
 have key:=zbL (W:=⟨ps.map prD,[]⟩) (g:=gTp 2 (gC (gNm 3) (gC (gNm 4) (gN0)))) (m:=za3) (ds:=ps.map prD) (ρ:=[some (.tup (ps.map prD)),some (.ref l),x2,x3,x4,x5]) (st:=st)
   (Inv:=fun i ρ st'=>(∃ y3 y4 y5,ρ=[some (.tup (ps.map prD)),some (.ref l),x2,y3,y4,y5])/\∃ B,LS ps p0 l st0 (M++B) st'/\∀ j p,j < i->ps[j]?=some p->(∃ w∈nb p,w∈M)->p∈M++B)
   ⟨⟨_,_,_,rfl⟩,[],by rw[Ah];exact h,fun j p hj=>by omega⟩ (fun _ _ _ _ _=>rfl) (fun i d ρ st' hd hI=>by
     obtain⟨⟨y3,y4,y5,rfl⟩,B,hB,hall⟩:=hI;rw[AE] at hd;obtain⟨p,hp,rfl⟩:=zag hd;obtain⟨C,z5,st2,e2,hC,hin⟩:=zks (x2:=x2) (x5:=y5) (P:=.tup (ps.map prD)) hB hn hl (A1 hp);refine⟨[some (.tup (ps.map prD)),some (.ref l),x2,some (.int p.1),some (.int p.2),y5],st',_,st2,by simp[prD],e2,⟨_,_,_,rfl⟩,B++C,by rw[<-Al];exact hC,fun j v hj hv hw=>?_⟩;rw[<-Al]
     by_cases hji:j=i
     . subst hji;rw[hp] at hv;cases hv;obtain⟨w,hw1,hw2⟩:=hw;exact hin ⟨w,hw1,AK _ hw2⟩
     . exact AK _ (hall j v (by omega) hv hw))
 obtain⟨ρ',st',el,⟨y3,y4,y5,rfl⟩,B,hB,hall⟩:=key;refine⟨B,y3,y4,y5,st',?_,hB,fun p hp hw=>?_⟩
 . unfold zbf;rw[zeb,zk6];simp only[zaM,Ac,Ag,zhL,zbZ];exact el
 . obtain⟨j,hj,e⟩:=Cj hp;exact hall j p (by rw[Aj];exact hj) (by rw[Aw hj,e]) hw
theorem zdy{M B:List Pt}(c:zdh ps M)(h:Part ps p0 M)(h':Part ps p0 (M++B)):zdh ps (M++B):=fun p hp r hr hps=>AK _ (c p (h.all c (h'.rc p hp)) r hr hps)
theorem zn6{st:Sto}(hl:ps.length<=12)(h0:ps[0]?=some p0):∃ (M:List Pt) (st':Sto),zbB [.tup (ps.map prD)] st=some (.int (M.length:Int),st')/\Part ps p0 M/\zdh ps M/\Gr st st':=by
 have i0:∀ s:Sto,ixA (.tup (ps.map prD)) (.int 0) s=some (prD p0,s):=fun s=>zcu (by decide) (by rw[AE];show FM prD ps[0]?=_;rw[h0];rfl);have hp0:=A1 h0;have g1:=Gr.app st [.lst [prD p0]];have a1:=zaU st (.lst [prD p0]);generalize hs1:st++[O.lst [prD p0]]=s1 at g1 a1;have L0:LS ps p0 st.length st [p0] s1:=⟨⟨by simp,fun p hp=>by rw[List.mem_singleton.mp hp];exact hp0,by simp,fun p hp=>by rw[List.mem_singleton.mp hp];exact .base⟩,a1,g1⟩
 obtain⟨N,hN⟩:∃ N,ps.length=N:=⟨_,rfl⟩
 have key:=zbL (W:=⟨run 0 N,[]⟩) (g:=gNm 2) (m:=zbf) (ds:=run 0 N) (ρ:=[some (.tup (ps.map prD)),some (.ref st.length),none,none,none,none]) (st:=s1)
   (Inv:=fun i ρ st'=>(∃ y2 y3 y4 y5,ρ=[some (.tup (ps.map prD)),some (.ref st.length),y2,y3,y4,y5])/\∃ M,LS ps p0 st.length st M st'/\(zdh ps M\/i+1<=M.length))
   ⟨⟨_,_,_,_,rfl⟩,[p0],L0,.inr (by simp)⟩ (fun _ _ _ _ _=>rfl) (fun i d ρ st' hd hI=>by
     obtain⟨⟨y2,y3,y4,y5,rfl⟩,M,hM,hc⟩:=hI;obtain⟨B,z3,z4,z5,st2,e2,hB,hall⟩:=zkt (x2:=some d) (x3:=y3) (x4:=y4) (x5:=y5) hM (Af _) (by omega);refine⟨[some (.tup (ps.map prD)),some (.ref st.length),some d,y3,y4,y5],st',_,st2,rfl,e2,⟨_,_,_,_,rfl⟩,M++B,hB,?_⟩
     rcases hc with hc | hc
     . exact .inl (zdy hc hM.pt hB.pt)
     . by_cases hcl:zdh ps M
       . exact .inl (zdy hcl hM.pt hB.pt)
       . right
         have:∃ p∈M,∃ r∈nb p,r∈ps/\r ∉ M:=by
           apply Dy;intro hno;apply hcl;intro p hp r hr hps;apply Dy;intro hrm;exact hno ⟨p,hp,r,hr,hps,hrm⟩
         obtain⟨p,hp,r,hr,hps,hrm⟩:=this;have hrin:=hall r hps ⟨p,zmc hr,hp⟩
         rcases List.mem_append.mp hrin with z | z
         . exact absurd z hrm
         . have:=D2 z;rw[Aq]
           omega)
 obtain⟨ρ',s2,el,⟨y2,y3,y4,y5,rfl⟩,M,hM,hc⟩:=key;have hML:=hM.pt.len;have hcl:zdh ps M:=by
   rcases hc with hc | hc
   . exact hc
   . rw[zbK] at hc;omega
 have eN:lenD [.tup (ps.map prD)] s1=some (.int (N:Int),s1):=by rw[zdu,Aj,hN]
 have eM:=zg7 hM.at_;rw[Aj] at eM;have hls:mLst (zab (mBin ixA (mVar 0) (mCon (.int 0))) (mNil)) [some (.tup (ps.map prD)),none,none,none,none,none] st=some (.ref st.length,s1):=by simp[i0,hs1]
 have hN12:N<=1000:=by omega
 clear hN hc hML;refine⟨M,s2,zn5 (i0 st) hls (zfB (k:=N) ?_ hN12 el) eM,hM.pt,hcl,hM.fr⟩;simp only[zbS,zbq,zcL,zaM,Ag,Ac,eN]
end
theorem zjj{d:D}{L:Int}{st:Sto}{b1 b2:Bool}(h1:tyName st d=some "tuple")(h2:lenD [d] st=some (.int L,st))(c1:decide (1<=L)=b1)(c2:decide (L<=12)=b2):mOrT (zdj (mTst (mIsi "tuple" (mVar 0)))) (zdj (mTst (zbx leD leD (mCon (.int 1)) (zat lenD (zab (mVar 0) (mNil))) (mCon (.int 12))))) [some d] st=some (!(b1&&b2),st):=by
 cases b1 with
 | false=>simp[h1,h2,subT,zbx,leD,cmpD,c1]
 | true=>simp[h1,h2,subT,zbx,leD,cmpD,c1,c2]
theorem zd6{d:D}{L:Int}{st:Sto}{b1 b2:Bool}(h1:tyName st d=some "tuple")(h2:lenD [d] st=some (.int L,st))(c1:decide (1<=L)=b1)(c2:decide (L<=12)=b2):mOrT (zdj (mTst (mIsi "tuple" (mVar 0)))) (zdj (mTst (zbx leD leD (mCon (.int 1)) (zat lenD (zab (mVar 0) (mNil))) (mCon (.int 12))))) [some d,none,none,none] st=some (!(b1&&b2),st):=by
 cases b1 with
 | false=>simp[h1,h2,subT,zbx,leD,cmpD,c1]
 | true=>simp[h1,h2,subT,zbx,leD,cmpD,c1,c2]
theorem zjO{d:D}{l:Nat}{L K:Int}{b:Bool}{st s1 s2 s3:Sto}(ht:mOrT (zdj (mTst (mIsi "tuple" (mVar 0)))) (zdj (mTst (zbx leD leD (mCon (.int 1)) (zat lenD (zab (mVar 0) (mNil))) (mCon (.int 12))))) [some d] st=some (false,st))(ea:zat allC (zab (zd4 (mWA (mVar 0)) 1 [] (gNm 0) (ze0) (zbr)) (mNil)) [some d] st=some (.bl true,s1))(er:zdE [d] s1=some (.bl true,s2))(es:zaZ [d] s2=some (.ref l,s3))(el:lenD [.ref l] s3=some (.int K,s3))(en:lenD [d] s3=some (.int L,s3))(hb:(K==L - 1)=b):zbh [d] st=some (.bl b,s3):=by
 refine zck ?_;show za9 [some d] st=_;unfold za9;refine zaj (ρ1:=[some d]) (s1:=st) (by rw[zdB,ht];rfl) ?_;refine zaj (ρ1:=[some d]) (s1:=s2) (by
   rw[zdB,zmH,zjq,zhE,ea];simp[er]) ?_
 simp[es,el,en,eq_int,hb]
theorem zgA{d:D}{b:Bool}{st s1 s2:Sto}(ht:mOrT (zdj (mTst (mIsi "tuple" (mVar 0)))) (zdj (mTst (zbx leD leD (mCon (.int 1)) (zat lenD (zab (mVar 0) (mNil))) (mCon (.int 12))))) [some d] st=some (false,st))(ea:zat allC (zab (zd4 (mWA (mVar 0)) 1 [] (gNm 0) (ze0) (zbr)) (mNil)) [some d] st=some (.bl b,s1))(er:b=false/\s2=s1\/b=true/\zdE [d] s1=some (.bl false,s2)):zbh [d] st=some (.bl false,s2):=by
 refine zck ?_;show za9 [some d] st=_;unfold za9;refine zaj (ρ1:=[some d]) (s1:=st) (by rw[zdB,ht];rfl) ?_;refine zbW ?_;rw[zdB,zmH,zjq,zhE,ea]
 rcases er with ⟨rfl,rfl⟩ | ⟨rfl,er⟩
 . simp
 . simp[er]
section
variable {E:Nat->Prop} {st:Sto} {d:D}
theorem zhn{K L M:Nat}(h1:K+1=M)(hL:1<=L):(((K:Int))==(L:Int) - 1)=((M:Int)==(L:Int)):=by
 rw[CU,beq_iff_eq,beq_iff_eq];omega
theorem zmy(h:Fit E st d):∃ (b:Bool) (s1:Sto),zbh [d] st=some (.bl b,s1)/\Gr st s1/\∀ s2,Gr st s2->∃ s3,zaV [d] s2=some (.bl b,s3)/\Gr s2 s3:=by
 obtain⟨ty,y1,y2⟩:=zmS h;have notup:istB d=false->∃ (b:Bool) (s1:Sto),zbh [d] st=some (.bl b,s1)/\Gr st s1/\∀ s2,Gr st s2->∃ s3,zaV [d] s2=some (.bl b,s3)/\Gr s2 s3:=by
   intro hm;rw[hm] at y2;refine⟨false,st,zck ?_,Gr.refl st,fun s2 g=>⟨s2,zck ?_,Gr.refl s2⟩⟩
   . show za9 [some d] st=_;unfold za9;refine zbW ?_;simp[y1,y2]
   . obtain⟨ty',z1,z2⟩:=zmS (h.gr g);rw[hm] at z2;show zax [some d,none,none,none] s2=_;unfold zax;refine zbW ?_;simp[z1,z2]
 cases h with
 | tup ds hl f =>
   have tt:∀ s,tyName s (.tup ds)=some "tuple":=fun _=>rfl;obtain⟨N,hN⟩:∃ N,ds.length=N:=⟨_,rfl⟩
   have eL:∀ s,lenD [.tup ds] s=some (.int (N:Int),s):=fun s=>by rw[zdu,hN]
   by_cases hr:1<=N/\N<=12
   . have c1:decide ((1:Int)<=(N:Int))=true:=decide_eq_true (by omega);have c2:decide ((N:Int)<=12)=true:=decide_eq_true (by omega);have ht:=zjj (tt st) (eL st) c1 c2;obtain⟨s1,ea,g1⟩:=zkT (mi:=mWA (mVar 0)) (b:=zfR) (as:=ds) (fr:=[]) (m:=zbr) (ρ0:=[]) (ρ:=[some (.tup ds)]) (st:=st) (gd:=[]) rfl (fun _ _=>rfl) rfl (by omega) (fun x hx s g=>by
       refine⟨s,?_,Gr.refl s⟩;have:=zlp ((f x hx).gr g);unfold zbr;simp[this])
     have lk:∀ s2,Gr st s2->∃ y,mFor (mWA (mVar 0)) (gNm 1) (zaP) [some (.tup ds),none,none,none] s2=some (if ds.all zfR=true then .nx [some (.tup ds),y,none,none] else .rt (.bl false),s2):=fun s2 g=>by
       obtain⟨y,e⟩:=zfx (E:=E) (a0:=some (.tup ds)) (a2:=none) (a3:=none) (W:=⟨ds,[]⟩) rfl ds none fun d hd=>(f d hd).gr g;refine⟨y,?_⟩;rw[zeb,zk6];simp only[zaM,Ac,Ag,zhL,zbZ];exact e
     cases hsp:ds.all zfR with
     | false =>
       rw[hsp] at ea;refine⟨false,s1,zgA ht ea (.inl ⟨rfl,rfl⟩),g1,fun s2 g=>⟨s2,zck ?_,Gr.refl s2⟩⟩;obtain⟨y,e⟩:=lk s2 g;rw[hsp,if_neg (by simp)] at e;have ht4:=zd6 (tt s2) (eL s2) c1 c2;show zax [some (.tup ds),none,none,none] s2=_;unfold zax;refine zaj (ρ1:=[some (.tup ds),none,none,none]) (s1:=s2) (by rw[zdB,ht4];rfl) ?_;exact zbW e
     | true =>
       rw[hsp] at ea;obtain⟨ps,rfl,hps⟩:=zgr ds hsp;rw[Aj] at hN;obtain⟨s2,er,g2⟩:=zjX (ps:=ps) (st:=s1) (by omega);have lr:∀ (s:Sto) (y:Option D),∃ x' y',mFor (mZip (mVar 0) (mSlC (mVar 0) (zbI (mCon (.int 1))) (zb6))) (gTp 2 (gC (gNm 2) (gC (gNm 3) (gN0)))) (zaD) [some (.tup (ps.map prD)),y,none,none] s=some (if zmL ps=true then .nx [some (.tup (ps.map prD)),y,x',y'] else .rt (.bl false),s):=fun s y=>by
         obtain⟨x',y',e⟩:=zg5 (st:=s) (a0:=some (.tup (ps.map prD))) (a1:=y) (W:=⟨(ps.zip (ps.drop 1)).map fun p=>D.tup [prD p.1,prD p.2],[]⟩) rfl (ps.zip (ps.drop 1)) none none;refine⟨x',y',?_⟩;have e2:mSlC (mVar 0) (zbI (mCon (.int 1))) (zb6) [some (.tup (ps.map prD)),y,none,none] s=some (.tup ((ps.drop 1).map prD),s):=by
           rw[zea];simp only[zaM,ziR,ziQ,zbj,Ac,Ag,zcD,zgx,FA]
         have v0:mVar 0 [some (.tup (ps.map prD)),y,none,none] s=some (.tup (ps.map prD),s):=rfl;rw[zeb,zmF,v0,Ac,e2,Ac,zk7];exact e
       cases hri:zmL ps with
       | false =>
         rw[hri] at er;refine⟨false,s2,zgA ht ea (.inr ⟨rfl,er⟩),g1.trans g2,fun s3 g=>⟨s3,zck ?_,Gr.refl s3⟩⟩;obtain⟨y,e⟩:=lk s3 g;rw[hsp,if_pos rfl] at e;obtain⟨x',y',e'⟩:=lr s3 y;rw[hri,if_neg (by simp)] at e';have ht4:=zd6 (tt s3) (eL s3) c1 c2;show zax [some (.tup (ps.map prD)),none,none,none] s3=_;unfold zax;refine zaj (ρ1:=[some (.tup (ps.map prD)),none,none,none]) (s1:=s3) (by rw[zdB,ht4];rfl) ?_;refine zaj e ?_;exact zbW e'
       | true =>
         rw[hri] at er;obtain⟨p0,hp0⟩:∃ p0,ps[0]?=some p0:=⟨ps[0],Aw (by omega)⟩
         obtain⟨l,L,R,s3,es,hL1,hL2,pR,cR,g3⟩:=zjA (ps:=ps) (st:=s2) (by omega) hp0;have el:=zg7 hL1;refine⟨((L.length:Int)==(N:Int) - 1),s3,zjO ht ea er es el (eL s3) rfl,(g1.trans g2).trans g3,fun s4 g=>?_⟩;obtain⟨M,s5,e5,pM,cM,g5⟩:=zn6 (ps:=ps) (st:=s4) (by omega) hp0;have hRM:=pR.same cR pM cM;refine⟨s5,zck ?_,g5⟩;rw[zhn (M:=M.length) (by omega) hr.1];obtain⟨y,e⟩:=lk s4 g;rw[hsp,if_pos rfl] at e;obtain⟨x',y',e'⟩:=lr s4 y;rw[hri,if_pos rfl] at e';have ht4:=zd6 (tt s4) (eL s4) c1 c2;have eL5:=eL s5;generalize (M.length:Int)=Mi at e5;generalize (N:Int)=Ni at eL5;show zax [some (.tup (ps.map prD)),none,none,none] s4=_;unfold zax;refine zaj (ρ1:=[some (.tup (ps.map prD)),none,none,none]) (s1:=s4) (by rw[zdB,ht4];rfl) ?_;refine zaj e ?_;refine zaj e' ?_;simp[e5,eL5,eq_int]
   . have hb:(decide ((1:Int)<=(N:Int))&&decide ((N:Int)<=12))=false:=by
       rw[Bool.eq_false_iff];intro z;rw[Ao,decide_eq_true_iff,decide_eq_true_iff] at z;exact hr (by omega)
     refine⟨false,st,zck ?_,Gr.refl st,fun s2 g=>⟨s2,zck ?_,Gr.refl s2⟩⟩
     . have ht:=zjj (tt st) (eL st) rfl rfl;rw[hb] at ht;show za9 [some (.tup ds)] st=_;unfold za9;refine zbW ?_;rw[zdB,ht];rfl
     . have ht4:=zd6 (tt s2) (eL s2) rfl rfl;rw[hb] at ht4;show zax [some (.tup ds),none,none,none] s2=_;unfold zax;refine zbW ?_;rw[zdB,ht4];rfl
 | non=>exact notup rfl
 | bl b=>exact notup rfl
 | int i=>exact notup rfl
 | str z h ok=>exact notup rfl
 | lst k xs h h1 h2=>exact notup rfl
 | dk k xs h h1 h2=>exact notup rfl
end
structure TPd(w:Nat)(p:PyData):Prop where
 lay:p.canLay0=true
 int:p.intsShort 40=true
 shw:p.showable=true
 wt:p.weight<=w
def Tm(E:Nat->Prop)(st:Sto)(w k:Nat)(d:D):Prop:=∃ p,(∀ s,FrE E st s->∀ m,toP (m+k) s d=some p)/\TPd w p
section
variable {E:Nat->Prop} {st:Sto} {d:D} {w k:Nat}
theorem Tm.up{w' k':Nat}(h:Tm E st w k d)(hw:w<=w')(hk:k<=k'):Tm E st w' k' d:=by
 obtain⟨p,e,t⟩:=h;refine⟨p,fun s f m=>?_,t.lay,t.int,t.shw,AC t.wt hw⟩;have:=e s f (m+(k' - k));rw[show m+(k' - k)+k=m+k' by omega] at this;exact this
theorem zmX:Tm E st 0 1 .non:=⟨.none,fun s f m=>by rw[toP],by simp only[Bb],by simp only[B0],by simp only[BE],by simp only[Cg];exact Af _⟩
theorem zoS(b:Bool):Tm E st 0 1 (.bl b):=⟨.bool b,fun s f m=>by rw[toP],by simp only[Bb],by simp only[B0],by simp only[BE],by simp only[Cg];exact Af _⟩
theorem zlf{i:Int}(h:i.natAbs < 10 ^ 39):Tm E st 131 1 (.int i):=by
 have h2:i.natAbs < 2 ^ 130:=Ez h (by decide +kernel);refine⟨.int i,fun s f m=>by rw[toP],by simp only[Bb],?_,?_,?_⟩
 . simp only[B0];have e:=int_text_length_le10 (k:=39) (a:=i) (by decide) h;refine decide_eq_true ?_;show (BB (toString i)).length<=40;rw[ofString_length];exact e
 . simp only[BE];refine decide_eq_true ?_
   by_cases hz:i.natAbs=0
   . rw[hz];decide
   . exact Ap ((EO hz).mpr h2) (by decide)
 . simp only[Cg]
   split
   . exact Bu _
   . rename_i hz;have hz:i.natAbs≠0:=by simp at hz;omega
     have:=(EO hz).mpr h2;omega
theorem zmW{x:Str}(h:EF x=true)(hl:x.cps.size<=131):Tm E st 131 1 (.str x):=by
 refine⟨.str x,fun s f m=>by rw[toP];simp[h],by simp only[Bb];exact h,by simp only[B0],by simp only[BE],?_⟩;simp only[Cg];exact hl
theorem zjx:∀ {ds:List D},(∀ d∈ds,Tm E st w k d)->∃ ps:List PyData,(∀ s,FrE E st s->∀ m,toPs (toP (m+k) s) ds=some ps)/\Bx ps=true/\C3 40 ps=true/\Df ps=true/\DG ps<=(w+1)*ds.length
 | [],_=>⟨[],fun _ _ _=>rfl,by simp only[Bx],by simp only[C3],by simp only[Df],by simp only[DG];omega⟩
 | d::ds,h=>by
   obtain⟨p,e,t⟩:=h d An;obtain⟨ps,e1,e2,e3,e4,e5⟩:=zjx (ds:=ds) fun x hx=>h x (Ai _ hx);refine⟨p::ps,fun s f m=>?_,?_,?_,?_,?_⟩
   . rw[toPs,e s f,Ac,e1 s f];rfl
   . simp only[Bx,t.lay,e2];rfl
   . simp only[C3,t.int,e3];rfl
   . simp only[Df,t.shw,e4];rfl
   . simp only[DG,AX];have:=t.wt;rw[Nat.mul_add];omega
theorem zgo{L:Nat}{ds:List D}(h:∀ d∈ds,Tm E st w k d)(hl:ds.length<=L):Tm E st ((w+1)*L) (k+1) (.tup ds):=by
 obtain⟨ps,e1,e2,e3,e4,e5⟩:=zjx h;refine⟨.tuple ps,fun s f m=>?_,by simp only[Bb];exact e2,by simp only[B0];exact e3,by simp only[BE];exact e4,?_⟩
 . rw[show m+(k+1)=(m+k)+1 by omega,toP,e1 s f];rfl
 . simp only[Cg];exact AC e5 (Es _ hl)
theorem zle{L j:Nat}{ds:List D}(hj:st[j]?=some (.lst ds))(h1:¬ E j)(h2:True)(h:∀ d∈ds,Tm E st w k d)(hl:ds.length<=L):Tm E st ((w+1)*L) (k+1) (.ref j):=by
 obtain⟨ps,e1,e2,e3,e4,e5⟩:=zjx h;refine⟨.list ps,fun s f m=>?_,by simp only[Bb];exact e2,by simp only[B0];exact e3,by simp only[BE];exact e4,?_⟩
 . have hs:s[j]?=some (.lst ds):=(f.old j (getElem?_lt hj) h1).trans hj;rw[show m+(k+1)=(m+k)+1 by omega,toP];simp only[zba,hs,Ac,e1 s f];rfl
 . simp only[Cg];exact AC e5 (Es _ hl)
def Say(E:Nat->Prop)(st:Sto)(d:D):Prop:=∃ z:Str,∀ s,FrE E st s->zi4 [d] s=some (.str z,s)
theorem Tm.say(h:Tm E st w k d)(hw:w<=11500)(hk:k<=100):Say E st d:=by
 obtain⟨p,e,t⟩:=h;refine⟨p.shown,fun s f=>?_⟩;have e':=e s f (100 - k);rw[show 100 - k+k=100 by omega] at e';have hd:p.hasDict=false:=PyData.hasDict_of_canLay p t.lay;have hf:fits p.shown.length=true:=by
   unfold fits;refine decide_eq_true ?_;have h1:=PyData.shown_le 40 (by decide) p (PyData.leavesShort_of_canLay0 40 p t.lay t.int);have h2:=t.wt;have h3:(500000:Nat)<=sizeLine:=by decide
   omega
 have:zj1 [d] s=some (.str p.shown,s):=by
   unfold zj1;simp only[e',Ac,t.shw,hd,hf];rfl
 unfold zi4 orN;rw[this,zbZ]
theorem znh{j:Nat}(hj:st[j]?=some (.dk []))(h1:¬ E j)(h2:True):Say E st (.ref j):=by
 refine⟨(EU []).shown,fun s f=>?_⟩;have hs:s[j]?=some (.dk []):=(f.old j (getElem?_lt hj) h1).trans hj;have e1:zj1 [.ref j] s=none:=by
   unfold zj1;have:toP 100 s (.ref j)=none:=by rw[toP];simp[zba,hs]
   simp only[this,Option.bind_none]
 unfold zi4 orN;rw[e1,zfo];unfold zmM;simp only[hs]
theorem Say.fr{st':Sto}(f:FrE E st st')(h:Say E st d):Say E st' d:=by
 obtain⟨z,e⟩:=h;exact⟨z,fun s f'=>e s (f.trans f')⟩
structure Spt(E:Nat->Prop)(st:Sto)(d:D):Prop where
 fit:Fit E st d
 tm:Tm E st 400 3 d
structure Thg(E:Nat->Prop)(st:Sto)(d:D):Prop where
 fit:Fit E st d
 say:Say E st d
theorem Thg.fr{st':Sto}(f:FrE E st st')(h:Thg E st d):Thg E st' d:=⟨h.fit.fr f,h.say.fr f⟩
theorem Spt.thg(h:Spt E st d):Thg E st d:=⟨h.fit,h.tm.say (by decide) (by decide)⟩
theorem zcU{ds:List D}(h:∀ d∈ds,Spt E st d)(hl:ds.length<=28):Thg E st (.tup ds) :=
 ⟨.tup ds (by omega) fun d hd=>(h d hd).fit,(zgo (w:=400) (k:=3) (L:=28) (fun d hd=>(h d hd).tm) hl).say (by decide) (by decide)⟩
theorem ziX{j:Nat}{ds:List D}(hj:st[j]?=some (.lst ds))(h1:¬ E j)(h2:True)(h:∀ d∈ds,Spt E st d)(hl:ds.length<=28):Thg E st (.ref j) :=
 ⟨.lst j ds hj h1 h2,(zle (w:=400) (k:=3) (L:=28) hj h1 h2 (fun d hd=>(h d hd).tm) hl).say (by decide) (by decide)⟩
structure Lf(E:Nat->Prop)(st:Sto)(d:D):Prop where
 fit:Fit E st d
 tm:Tm E st 132 2 d
theorem zcs{i:Int}(h:i.natAbs < 10 ^ 39):Lf E st (.int i):=⟨.int i,(zlf h).up (by decide) (by decide)⟩
theorem zoF(b:Bool):Lf E st (.bl b):=⟨.bl b,(zoS b).up (by decide) (by decide)⟩
theorem zkr:Lf E st .non:=⟨.non,zmX.up (by decide) (by decide)⟩
theorem zmj{x:Str}(h:EF x=true/\x.cps.toList.length<=100/\∀ c∈x.cps.toList,c < 1114112):Lf E st (.str x):=⟨.str x h.2.1 h.2.2,(zmW h.1 (by rw[<-A3];omega)).up (by decide) (by decide)⟩
theorem zn3{i:Int}(h:i.natAbs < 10 ^ 39):Lf E st (.tup [.int i]):=⟨.tup _ (by simp) (by intro d hd;rw[List.mem_singleton.mp hd];exact .int i),(zgo (w:=131) (k:=1) (L:=1) (by intro d hd;rw[List.mem_singleton.mp hd];exact zlf h) (by simp)).up (by decide) (by decide)⟩
theorem Lf.spt(h:Lf E st d):Spt E st d:=⟨h.fit,h.tm.up (by decide) (by decide)⟩
theorem zcW{ds:List D}(h:∀ d∈ds,Lf E st d)(hl:ds.length<=3):Spt E st (.tup ds) :=
 ⟨.tup ds (by omega) fun d hd=>(h d hd).fit,(zgo (w:=132) (k:=2) (L:=3) (fun d hd=>(h d hd).tm) hl).up (by decide) (by decide)⟩
theorem zlo{j:Nat}{ds:List D}(hj:st[j]?=some (.lst ds))(h1:¬ E j)(h2:True)(h:∀ d∈ds,Lf E st d)(hl:ds.length<=3):Spt E st (.ref j) :=
 ⟨.lst j ds hj h1 h2,(zle (w:=132) (k:=2) (L:=3) hj h1 h2 (fun d hd=>(h d hd).tm) hl).up (by decide) (by decide)⟩
theorem zln{p:Pt}(h:(-10<=p.1/\p.1<=10)/\-10<=p.2/\p.2<=10):Spt E st (prD p):=zcW (by
 have b:∀ i:Int,-10<=i->i<=10->i.natAbs < 10 ^ 39:=fun i h1 h2=>Bs (show i.natAbs<=10 by omega) (by decide +kernel);intro d hd;simp only[AM,AH,or_false] at hd
 rcases hd with rfl | rfl
 . exact zcs (b _ h.1.1 h.1.2)
 . exact zcs (b _ h.2.1 h.2.2)) (by simp)
end
noncomputable def rows(ps:List Pt):List (List Int):=ps.map fun p=>[p.1,p.2]
theorem zdR(ps:List Pt):(rows ps).map tupD=ps.map prD:=by unfold rows;rw[Cw];rfl
theorem zi8{rs:List (List Int)}{ps:List Pt}(h:rs.Perm (rows ps)):∃ qs:List Pt,rs=rows qs/\qs.Perm ps:=by
 refine⟨rs.map fun r=>(r.getD 0 0,r.getD 1 0),?_,?_⟩
 . unfold rows;rw[Cw]
   symm
   rw[Et (g:=id),List.map_id];intro r hr;have:=h.mem_iff.mp hr;unfold rows at this;obtain⟨p,_,rfl⟩:=List.mem_map.mp this;rfl
 . have:=h.map fun r=>(r.getD 0 0,r.getD 1 0)
   unfold rows at this;rw[Cw] at this;have e:(ps.map ((fun r:List Int=>(r.getD 0 0,r.getD 1 0)) ∘ fun p:Pt=>[p.1,p.2]))=ps:=by
     rw[Et (g:=id),List.map_id];intro p _;rfl
   rw[e] at this;exact this
theorem zgt{st:Sto}{l:Nat}{ps:List Pt}(hl:st[l]?=some (.lst (ps.map prD)))(h64:ps.length < 64):∃ qs:List Pt,zbu [.ref l] st=some (.ref st.length,st++[.lst (qs.map prD)])/\qs.Perm ps:=by
 rw[<-zdR] at hl;have e:=zgu hl (fun r hr=>by unfold rows at hr;obtain⟨p,_,rfl⟩:=List.mem_map.mp hr;simp) (by unfold rows;rw[Aj];exact h64);obtain⟨qs,hq,hp⟩:=zi8 (zel (rows ps));rw[hq,zdR] at e;refine⟨qs,?_,hp⟩;unfold zbu orN;rw[e,zbZ]
theorem zjH{st:Sto}{ps:List Pt}(h64:ps.length < 64):∃ qs:List Pt,zbu [.tup (ps.map prD)] st=some (.ref st.length,st++[.lst (qs.map prD)])/\qs.Perm ps:=by
 have e0:zcZ [.tup (ps.map prD)] st=none:=rfl
 by_cases h:ps.length < 2
 . refine⟨ps,?_,List.Perm.refl _⟩;unfold zbu orN;rw[e0,zfo];unfold zcY;dsimp only;rw[if_pos (by simpa using h)]
 . obtain⟨qs,hq,hp⟩:=zi8 (zel (rows ps));refine⟨qs,?_,hp⟩;unfold zbu orN;rw[e0,zfo];unfold zcY;dsimp only;rw[if_neg (by simp;omega)];have er:rowsOf (ps.map prD)=some (rows ps):=by
     rw[<-zdR];exact zc4 fun r hr=>by unfold rows at hr;obtain⟨p,_,rfl⟩:=List.mem_map.mp hr;simp
   have hl:(rows ps).length=ps.length:=by unfold rows;rw[Aj]
   rw[er];simp only[Ac];rw[if_pos (by rw[hl];simp;omega),hq,zdR]
section
variable {n q m:Nat} {st:Sto}
theorem zpk{S:D}{n:Nat}{L r:Int}{x:D}{st s1:Sto}(el:lenD [S] st=some (.int L,st))(et:zaf [.ref n,.int L] st=some (.int r,s1))(ex:ixA S (.int r) s1=some (x,s1)):zao [.ref n,S] st=some (x,s1):=by
 refine zck ?_;show zdi [some (.ref n),some S] st=_;unfold zdi;simp[el,et,ex]
theorem of_ok{l:Nat}{xs:List D}(h:PotS n q m st)(hm:m<=1000000)(hl:st[l]?=some (.lst xs))(h1:l≠n)(h2:l≠q)(h0:xs≠[])(hx:xs.length<=1000):∃ x st',x∈xs/\zao [.ref n,.ref l] st=some (x,st')/\PotS n q (m+1) st'/\FrB n q st st':=by
 have hp:0 < xs.length:=List.length_pos_iff.mpr h0;obtain⟨r,s1,e1,r0,r1,p1,f1⟩:=zbJ (many:=(xs.length:Int)) h (by omega) (by omega) hm;have hr:r.toNat < xs.length:=by omega
 have hl1:s1[l]?=some (.lst xs):=(f1.old l (getElem?_lt hl) h1 h2).trans hl;exact⟨xs[r.toNat],s1,Ce hr,zpk (zg7 hl) e1 (zkw hl1 r0 (Aw hr)),p1,f1⟩
def In6(p:Pt):Prop:=(1<=p.1/\p.1<=6)/\1<=p.2/\p.2<=6
noncomputable def dirs:List Pt:=[(0,1),(1,0),(0,-1),(-1,0)]
structure GS(n q m l:Nat)(st0:Sto)(ps:List Pt)(st:Sto):Prop where
 pot:PotS n q m st
 at_:st[l]?=some (.lst (ps.map prD))
 ok:∀ p∈ps,In6 p
 ne:ps≠[]
 fr:FrB n q st0 st
theorem ziG{l:Nat}{ps:List Pt}{st0:Sto}{a1 a3 a4 a5 a6 a7 a8:Option D}(h:GS n q m l st0 ps st)(hl0:st0.length<=l)(h1:l≠n)(h2:l≠q)(hm:m<=900000)(hps:ps.length<=30) :
   ∃ ps' b4 b5 b6 b7 b8 st',zay [some (.ref n),a1,some (.ref l),a3,a4,a5,a6,a7,a8] st=some (.nx [some (.ref n),a1,some (.ref l),a3,b4,b5,b6,b7,b8],st')/\GS n q (m+2) l st0 ps' st'/\ps'.length<=ps.length+1:=by
 obtain⟨x,s1,hx,e1,p1,f1⟩:=of_ok h.pot (by omega) h.at_ h1 h2 (by simp[h.ne]) (by rw[Aj];omega);obtain⟨c,hc,rfl⟩:=List.mem_map.mp hx;have hl1:s1[l]?=some (.lst (ps.map prD)):=(f1.old l (getElem?_lt h.at_) h1 h2).trans h.at_;obtain⟨nn1,nq1⟩:=p1.ne;have g2:=Gr.app s1 [.lst (dirs.map prD)];have p2:=p1.gr g2;have a2:=zaU s1 (.lst (dirs.map prD));have ml:∀ ρ,mLst (zab (mTup (zab (mCon (.int 0)) (zab (mCon (.int 1)) (mNil)))) (zab (mTup (zab (mCon (.int 1)) (zab (mCon (.int 0)) (mNil)))) (zab (mTup (zab (mCon (.int 0)) (zab (mNeg (mCon (.int 1))) (mNil)))) (zab (mTup (zab (mNeg (mCon (.int 1))) (zab (mCon (.int 0)) (mNil)))) (mNil))))) ρ s1=some (.ref s1.length,s1++[.lst (dirs.map prD)]):=fun ρ=>rfl;generalize hs2:s1++[O.lst (dirs.map prD)]=s2 at g2 p2 a2 ml;obtain⟨y,s3,hy,e3,p3,f3⟩:=of_ok p2 (by omega) a2 (A7 nn1) (A7 nq1) (by simp[dirs]) (by simp[dirs]);obtain⟨v,hv,rfl⟩:=List.mem_map.mp hy;have hl3:s3[l]?=some (.lst (ps.map prD)):=(f3.old l (Ap (getElem?_lt hl1) g2.len) h1 h2).trans ((g2.old l (getElem?_lt hl1)).trans hl1);have nin:=zfs (w:=(c.1+v.1,c.2+v.2)) hl3;have f03:FrB n q st0 s3:=(h.fr.trans f1).trans ((Hb.FrB.of g2).trans f3);have st1:mAsg (zat zao (zab (mVar 0) (zab (mVar 2) (mNil)))) (gTp 2 (gC (gNm 4) (gC (gNm 5) (gN0)))) [some (.ref n),a1,some (.ref l),a3,a4,a5,a6,a7,a8] st=some (.nx [some (.ref n),a1,some (.ref l),a3,some (.int c.1),some (.int c.2),a6,a7,a8],s1):=by
   simp[e1,prD]
 have st2:mAsg (zat zao (zab (mVar 0) (zab (mLst (zab (mTup (zab (mCon (.int 0)) (zab (mCon (.int 1)) (mNil)))) (zab (mTup (zab (mCon (.int 1)) (zab (mCon (.int 0)) (mNil)))) (zab (mTup (zab (mCon (.int 0)) (zab (mNeg (mCon (.int 1))) (mNil)))) (zab (mTup (zab (mNeg (mCon (.int 1))) (zab (mCon (.int 0)) (mNil)))) (mNil)))))) (mNil)))) (gTp 2 (gC (gNm 6) (gC (gNm 7) (gN0)))) [some (.ref n),a1,some (.ref l),a3,some (.int c.1),some (.int c.2),a6,a7,a8] s1=some (.nx [some (.ref n),a1,some (.ref l),a3,some (.int c.1),some (.int c.2),some (.int v.1),some (.int v.2),a8],s3):=by
   rw[zci,zbS,zbq];simp only[zaM,Ag,Ac,zbq,ml,zcL,e3];simp[prD]
 have st3:mAsg (mTup (zab (mBin addD (mVar 4) (mVar 6)) (zab (mBin addD (mVar 5) (mVar 7)) (mNil)))) (gNm 8) [some (.ref n),a1,some (.ref l),a3,some (.int c.1),some (.int c.2),some (.int v.1),some (.int v.2),a8] s3=some (.nx [some (.ref n),a1,some (.ref l),a3,some (.int c.1),some (.int c.2),some (.int v.1),some (.int v.2),some (prD (c.1+v.1,c.2+v.2))],s3):=by
   simp[prD]
 generalize hw:(c.1+v.1,c.2+v.2)=w at nin st3;have mn:zkY [prD w] s3=some (.int (min w.1 w.2),s3):=rfl;have mx:zkZ [prD w] s3=some (.int (max w.1 w.2),s3):=rfl
 by_cases hok:w ∉ ps/\1<=min w.1 w.2/\max w.1 w.2<=6
 . have ap:=append_at (x:=prD w) hl3 (by rw[Aj];omega);refine⟨ps++[w],some (.int c.1),some (.int c.2),some (.int v.1),some (.int v.2),some (prD w),s3.set l (.lst (ps.map prD++[prD w])),?_,⟨p3.set h1 h2,by rw[AZ (getElem?_lt hl3),Ca];rfl,fun p hp=>?_,by simp,⟨by rw[BO];exact f03.len,fun j hj k1 k2=>by rw[Au (by omega)];exact f03.old j hj k1 k2⟩⟩,by simp⟩
   . unfold zay;refine zaj st1 (zaj st2 (zaj st3 ?_));rw[decide_eq_false hok.1] at nin;have et:zeu (mTst (mBin zb1 (mVar 8) (mVar 2))) (zeu (mTst (mBin leD (mCon (.int 1)) (zat zkY (zab (mVar 8) (mNil))))) (mTst (mBin leD (zat zkZ (zab (mVar 8) (mNil))) (mCon (.int 6))))) [some (.ref n),a1,some (.ref l),a3,some (.int c.1),some (.int c.2),some (.int v.1),some (.int v.2),some (prD w)] s3=some (true,s3):=by
       generalize min w.1 w.2=A at mn hok;generalize max w.1 w.2=B at mx hok;simp[nin,mn,mx,leD,cmpD,hok.2.1,hok.2.2]
     rw[zdB,et];simp[zba,hl3,ap]
   . rcases List.mem_append.mp hp with hp | hp
     . exact h.ok p hp
     . rw[List.mem_singleton.mp hp];obtain⟨_,q1,q2⟩:=hok;exact⟨⟨by omega,by omega⟩,by omega,by omega⟩
 . refine⟨ps,some (.int c.1),some (.int c.2),some (.int v.1),some (.int v.2),some (prD w),s3,?_,⟨p3,hl3,h.ok,h.ne,f03⟩,by omega⟩;unfold zay;refine zaj st1 (zaj st2 (zaj st3 ?_));have et:zeu (mTst (mBin zb1 (mVar 8) (mVar 2))) (zeu (mTst (mBin leD (mCon (.int 1)) (zat zkY (zab (mVar 8) (mNil))))) (mTst (mBin leD (zat zkZ (zab (mVar 8) (mNil))) (mCon (.int 6))))) [some (.ref n),a1,some (.ref l),a3,some (.int c.1),some (.int c.2),some (.int v.1),some (.int v.2),some (prD w)] s3=some (false,s3):=by
     by_cases k1:w∈ps
     . rw[decide_eq_true k1] at nin;simp[nin]
     . rw[decide_eq_false k1] at nin;generalize min w.1 w.2=A at mn hok;generalize max w.1 w.2=B at mx hok
       by_cases k2:1<=A
       . have k3:¬ B<=6:=fun z=>hok ⟨k1,k2,z⟩;simp[nin,mn,mx,leD,cmpD,k2,k3]
       . simp[nin,mn,leD,cmpD,k2]
   rw[zdB,et];rfl
theorem zkz{n l:Nat}{r1 r2 M:Int}{b3 b4 b5 b6 b7 b8:Option D}{X:D}{l2:Nat}{st s1 s2 s3 s4 s5:Sto}(e1:zaf [.ref n,.int 6] st=some (.int r1,s1))(e2:zaf [.ref n,.int 6] s1=some (.int r2,s2))(hs:s2++[O.lst [prD (1+r1,1+r2)]]=s3)(hl:s2.length=l)
   (ef:mFor (mR1 (mBin subD (mVar 1) (mCon (.int 1)))) (gNm 3) (zay) [some (.ref n),some (.int M),some (.ref l),none,none,none,none,none,none] s3=some (.nx [some (.ref n),some (.int M),some (.ref l),b3,b4,b5,b6,b7,b8],s4)) (es:zbu [.ref l] s4=some (.ref l2,s5)) (et:zcS [.ref l2] s5=some (X,s5)):zaw [.ref n,.int M] st=some (X,s5):=by
 refine zck ?_;show za8 [some (.ref n),some (.int M),none,none,none,none,none,none,none] st=_;unfold za8;refine zaj (ρ1:=[some (.ref n),some (.int M),some (.ref l),none,none,none,none,none,none]) (s1:=s3) (by
   rw[<-hs,<-hl];simp[e1,e2,prD]) ?_
 refine zaj ef ?_;simp[es,et]
theorem zkA{N:Nat}(h:PotS n q m st)(hm:m<=800000)(hN:N<=11):∃ ps st',zaw [.ref n,.int ((N:Int)+1)] st=some (.tup (ps.map prD),st')/\(∀ p∈ps,In6 p)/\ps≠[]/\ps.length<=12/\PotS n q (m+30) st'/\FrB n q st st':=by
 obtain⟨r1,s1,e1,r10,r11,p1,f1⟩:=zbJ (many:=6) h (by decide) (by decide) (by omega);obtain⟨r2,s2,e2,r20,r21,p2,f2⟩:=zbJ (many:=6) p1 (by decide) (by decide) (by omega);have g3:=Gr.app s2 [.lst [prD (1+r1,1+r2)]];have a3:=zaU s2 (.lst [prD (1+r1,1+r2)]);have p3:=p2.gr g3;obtain⟨nn,nq⟩:=p2.ne;generalize hs3:s2++[O.lst [prD (1+r1,1+r2)]]=s3 at g3 a3 p3;have G0:GS n q (m+1+1) s2.length s2 [(1+r1,1+r2)] s3:=⟨p3,a3,fun p hp=>by rw[List.mem_singleton.mp hp];exact⟨⟨by show 1<=1+r1;omega,by show 1+r1<=6;omega⟩,by show 1<=1+r2;omega,by show 1+r2<=6;omega⟩,by simp,Hb.FrB.of g3⟩
 have key:=zbL (W:=⟨run 0 N,[]⟩) (g:=gNm 3) (m:=zay) (ds:=run 0 N) (ρ:=[some (.ref n),some (.int ((N:Int)+1)),some (.ref s2.length),none,none,none,none,none,none]) (st:=s3)
   (Inv:=fun i ρ s=>(∃ b3 b4 b5 b6 b7 b8,ρ=[some (.ref n),some (.int ((N:Int)+1)),some (.ref s2.length),b3,b4,b5,b6,b7,b8])/\∃ ps,GS n q (m+2+2*i) s2.length s2 ps s/\ps.length<=i+1)
   ⟨⟨_,_,_,_,_,_,rfl⟩,_,G0,by simp⟩ (fun _ _ _ _ _=>rfl) (fun i d ρ s hd hI=>by
     obtain⟨⟨b3,b4,b5,b6,b7,b8,rfl⟩,ps,hG,hlen⟩:=hI;have hi:i < N:=by have:=getElem?_lt hd;rwa [zbK] at this
     obtain⟨ps',c4,c5,c6,c7,c8,s',e',hG',hl'⟩:=ziG (a1:=some (.int ((N:Int)+1))) (a3:=some d) (a4:=b4) (a5:=b5) (a6:=b6) (a7:=b7) (a8:=b8) hG (Af _) (A7 nn) (A7 nq) (by omega) (by omega);exact⟨[some (.ref n),some (.int ((N:Int)+1)),some (.ref s2.length),some d,b4,b5,b6,b7,b8],s,_,s',rfl,e',⟨_,_,_,_,_,_,rfl⟩,ps',by rw[show m+2+2*(i+1)=m+2+2*i+2 by omega];exact hG',by omega⟩)
 obtain⟨ρ',s4,el,⟨b3,b4,b5,b6,b7,b8,rfl⟩,ps,hG,hlen⟩:=key;rw[zbK] at hG hlen;obtain⟨qs,es,hperm⟩:=zgt hG.at_ (by omega);have g5:=Gr.app s4 [.lst (qs.map prD)];have a5:=zaU s4 (.lst (qs.map prD));generalize hs5:s4++[O.lst (qs.map prD)]=s5 at es g5 a5;have hq:=hperm.length_eq;refine⟨qs,s5,zkz e1 e2 hs3 rfl (zfB (k:=N) ?_ (by omega) el) es (zdG a5),fun p hp=>hG.ok p (hperm.mem_iff.mp hp),fun z=>hG.ne (by rw[z] at hperm;exact hperm.symm.eq_nil),by omega,(hG.pot.gr g5).up (by omega),((f1.trans f2).trans hG.fr).trans (Hb.FrB.of g5)⟩;have:(N:Int)+1 - 1=(N:Int):=by omega
 simp only[zby,zaM,zbj,Ag,Av,Ac,sub_int,this]
end
theorem zmq{x a c:Int}{st:Sto}:inA (.int x) (.tup [.int a,.int c]) st=some (.bl ((a==x) || (c==x)),st):=by
 have e:inD false (.int x) (.tup [.int a,.int c]) st=some (.bl ((a==x) || (c==x)),st):=by
   have e1:toP 50 st (.int x)=some (.int x):=rfl;have e2:toP 50 st (.tup [.int a,.int c])=some (.tuple [.int a,.int c]):=rfl;have q:∀ u:Int,BD (.int u) (.int x)=(u==x):=fun u=>by rw[BD]
   unfold inD;rw[e1,e2];simp only[Ac,memP,BG,List.any_nil,q,Fw,AD];rfl
 unfold inA orG;rw[e,zbZ,zbZ]
theorem zo9{m1 m2:ME}{ρ:Rho}{st:Sto}{a b:Int}{k:Nat}(e1:m1 ρ st=some (.int a,st))(e2:m2 ρ st=some (.int b,st))(s1:small a=true)(s2:small b=true)(hk:(b - a).toNat=k):mR2 m1 m2 ρ st=some (⟨run a k,[]⟩,st):=by
 unfold mR2;simp only[e1,e2,Ac,s1,s2,Bool.and_self,if_true,hk]
theorem zhX{b:Int}(h0:0<=b)(h1:b<=2000):small b=true:=zdL (by omega) (by omega)
theorem to_k{b:Int}{k:Nat}(h:b=(k:Int)+1):(b - 1).toNat=k:=by omega
theorem zlG{m1 m2:ME}{ρ:Rho}{st:Sto}{b:Int}{k:Nat}(e1:m1 ρ st=some (.int 1,st))(e2:m2 ρ st=some (.int b,st))(hb:b=(k:Int)+1)(hk:k<=1000):mR2 m1 m2 ρ st=some (⟨run 1 k,[]⟩,st) :=
 zo9 e1 e2 (by decide) (zhX (by omega) (by omega)) (to_k hb)
theorem zib{x y W H:Int}{B1 B2:Bool}{st:Sto}(i1:inA (.int x) (.tup [.int 1,.int (1+W)]) st=some (.bl B1,st))(i2:inA (.int y) (.tup [.int 1,.int (1+H)]) st=some (.bl B2,st)):zaN [some (.int y),some (.int x),some (.int W),some (.int H)] st=some (B1 || B2,st):=by
 unfold zaN
 cases B1 with
 | true=>simp[i1]
 | false=>simp[i1,i2]
section
variable {n q m:Nat} {st:Sto}
structure RS(n q m l:Nat)(st0:Sto)(ps:List Pt)(st:Sto):Prop where
 pot:PotS n q m st
 at_:st[l]?=some (.lst (ps.map prD))
 ok:∀ p∈ps,In6 p
 fr:FrB n q st0 st
noncomputable def rowK(x:Int)(W H:Nat):List Pt:=((AQ (H+1)).filter fun (k:Nat)=>((1:Int)==x || (1+(W:Int))==x) || ((1:Int)==1+(k:Int) || (1+(H:Int))==1+(k:Int))).map fun (k:Nat)=>(x,1+(k:Int))
theorem zlC{x:Int}{W H:Nat}(hx:1<=x/\x<=6)(hH:H<=4):∀ p∈rowK x W H,In6 p:=by
 intro p hp;unfold rowK at hp;obtain⟨k,hk,rfl⟩:=List.mem_map.mp hp;have:=List.mem_range.mp (List.mem_filter.mp hk).1;exact⟨hx,by show 1<=1+(k:Int);omega,by show 1+(k:Int)<=6;omega⟩
theorem zgH{x:Int}{W H:Nat}:(rowK x W H).length<=H+1:=by
 unfold rowK;rw[Aj];have:=Ef (fun k:Nat=>((1:Int)==x || (1+(W:Int))==x) || ((1:Int)==1+(k:Int) || (1+(H:Int))==1+(k:Int))) (AQ (H+1));rw[CB] at this;exact this
theorem zlD{W H:Nat}:rowK 1 W H≠[]:=by
 have:((1:Int),1+((0:Nat):Int))∈rowK 1 W H:=by
   unfold rowK;exact List.mem_map.mpr ⟨0,List.mem_filter.mpr ⟨List.mem_range.mpr (by omega),by simp⟩,rfl⟩
 intro e;rw[e] at this;simp at this
theorem zia{l:Nat}{ps:List Pt}{st0:Sto}{x:Int}{W H:Nat}(h:RS n q m l st0 ps st)(hl0:st0.length<=l)(h1:l≠n)(h2:l≠q)(hps:ps.length<=100)(hx:1<=x/\x<=6)(hH:H<=4) :
   ∃ st',zaY [some (.ref n),some (.int (W:Int)),some (.int (H:Int)),some (.ref l),some (.int x)] st=some (.nx [some (.ref n),some (.int (W:Int)),some (.int (H:Int)),some (.ref l),some (.int x)],st')/\RS n q m l st0 (ps++rowK x W H) st':=by
 have er:mR2 (mCon (.int 1)) (mBin addD (mCon (.int 2)) (mVar 2)) [some (.ref n),some (.int (W:Int)),some (.int (H:Int)),some (.ref l),some (.int x)] st=some (⟨run 1 (H+1),[]⟩,st):=by
   refine zlG (b:=2+(H:Int)) rfl ?_ (by push_cast;omega) (by omega);simp only[zby,zbj,zaM,Ag,Av,Ac,add_int]
 have ec:=zd8 (W:=⟨run 1 (H+1),[]⟩) (g:=gNm 0) (c:=zaN) (m:=za0) (f:=fun k:Nat=>D.int (1+(k:Int))) (h:=fun k:Nat=>prD (x,1+(k:Int))) (p:=fun k:Nat=>((1:Int)==x || (1+(W:Int))==x) || ((1:Int)==1+(k:Int) || (1+(H:Int))==1+(k:Int))) (R:=fun r=>∃ y,r=[y,some (.int x),some (.int (W:Int)),some (.int (H:Int))]) (as:=AQ (H+1)) (ρ:=[none,some (.int x),some (.int (W:Int)),some (.int (H:Int))]) (st:=st) ⟨none,rfl⟩ rfl (fun k hk r hr=>by
   obtain⟨y,rfl⟩:=hr;refine⟨[some (.int (1+(k:Int))),some (.int x),some (.int (W:Int)),some (.int (H:Int))],rfl,?_,fun _=>?_,_,rfl⟩
   . have i1:=zmq (x:=x) (a:=1) (c:=1+(W:Int)) (st:=st);have i2:=zmq (x:=1+(k:Int)) (a:=1) (c:=1+(H:Int)) (st:=st);exact zib i1 i2
   . unfold za0;simp[prD])
 have em:((AQ (H+1)).filter fun k:Nat=>((1:Int)==x || (1+(W:Int))==x) || ((1:Int)==1+(k:Int) || (1+(H:Int))==1+(k:Int))).map (fun k:Nat=>prD (x,1+(k:Int)))=(rowK x W H).map prD:=by
   unfold rowK;rw[Cw];rfl
 rw[em] at ec;have rl:=zgH (x:=x) (W:=W) (H:=H);have fl:fits ((rowK x W H).map prD).length=true:=zaK (by rw[Aj];omega);have ecm:zd4 (mR2 (mCon (.int 1)) (mBin addD (mCon (.int 2)) (mVar 2))) 1 [4,1,2] (gNm 0) (zaN) (za0) [some (.ref n),some (.int (W:Int)),some (.int (H:Int)),some (.ref l),some (.int x)] st=some (.ref st.length,st++[.lst ((rowK x W H).map prD)]):=by
   rw[zeG,er];simp only[Ac];rw[show rho0 [some (.ref n),some (.int (W:Int)),some (.int (H:Int)),some (.ref l),some (.int x)] 1 [4,1,2]=[none,some (.int x),some (.int (W:Int)),some (.int (H:Int))] from rfl];have ec':mCI ⟨run 1 (H+1),[]⟩ (gNm 0) zaN za0 (run 1 (H+1)) [none,some (.int x),some (.int (W:Int)),some (.int (H:Int))] st=some ((rowK x W H).map prD,st):=ec;rw[ec'];simp only[Ac,fl,if_true]
 have g2:=Gr.app st [.lst ((rowK x W H).map prD)];have a2:=zaU st (.lst ((rowK x W H).map prD));have p2:=h.pot.gr g2;have hl2:(st++[O.lst ((rowK x W H).map prD)])[l]?=some (.lst (ps.map prD)):=(g2.old l (getElem?_lt h.at_)).trans h.at_;generalize hs2:st++[O.lst ((rowK x W H).map prD)]=s2 at g2 a2 p2 hl2 ecm;have f2:FrB n q st0 s2:=h.fr.trans (Hb.FrB.of g2);have ee:zda (.ref l) [.ref st.length] s2=some (.non,s2.set l (.lst (ps.map prD++(rowK x W H).map prD))):=by
   have:fits ((ps.map prD).length+((rowK x W H).map prD).length)=true:=zaK (by rw[Aj,Aj];omega);unfold zda;simp only[hl2,a2,this,if_true]
 refine⟨s2.set l (.lst (ps.map prD++(rowK x W H).map prD)),?_,⟨p2.set h1 h2,by rw[AZ (getElem?_lt hl2),Ca],fun p hp=>?_,⟨by rw[BO];exact f2.len,fun j hj k1 k2=>by rw[Au (by omega)];exact f2.old j hj k1 k2⟩⟩⟩
 . unfold zaY;have hat:=h.at_;rw[zow,zov];simp only[zaM,Ag,Av,Ac,zba,hat,zbq,zcL,ecm,ee,AD]
 . rcases List.mem_append.mp hp with hp | hp
   . exact h.ok p hp
   . exact zlC hx hH p hp
theorem zjY{n l l2:Nat}{r1 r2 W H:Int}{b4:Option D}{X:D}{st s1 s2 s3 s4 s5:Sto}(e1:zaf [.ref n,.int 4] st=some (.int r1,s1))(e2:zaf [.ref n,.int 4] s1=some (.int r2,s2))(hW:1+r1=W)(hH:1+r2=H)(hs:s2++[O.lst []]=s3)(hl:s2.length=l)
   (ef:mFor (mR2 (mCon (.int 1)) (mBin addD (mCon (.int 2)) (mVar 1))) (gNm 4) (zaY) [some (.ref n),some (.int W),some (.int H),some (.ref l),none] s3=some (.nx [some (.ref n),some (.int W),some (.int H),some (.ref l),b4],s4)) (es:zbu [.ref l] s4=some (.ref l2,s5)) (et:zcS [.ref l2] s5=some (X,s5)):zaQ [.ref n] st=some (X,s5):=by
 refine zck ?_;show zbO [some (.ref n),none,none,none,none] st=_;unfold zbO;refine zaj (ρ1:=[some (.ref n),some (.int W),some (.int H),none,none]) (s1:=s2) (by simp[e1,e2,hW,hH]) ?_;refine zaj (ρ1:=[some (.ref n),some (.int W),some (.int H),some (.ref l),none]) (s1:=s3) (by rw[<-hs,<-hl];simp) ?_;refine zaj ef ?_;simp[es,et]
theorem zjZ(h:PotS n q m st)(hm:m<=800000):∃ ps st',zaQ [.ref n] st=some (.tup (ps.map prD),st')/\(∀ p∈ps,In6 p)/\ps≠[]/\ps.length<=25/\PotS n q (m+30) st'/\FrB n q st st':=by
 obtain⟨r1,s1,e1,r10,r11,p1,f1⟩:=zbJ (many:=4) h (by decide) (by decide) (by omega);obtain⟨r2,s2,e2,r20,r21,p2,f2⟩:=zbJ (many:=4) p1 (by decide) (by decide) (by omega);obtain⟨W,hW⟩:∃ W:Nat,1+r1=(W:Int):=⟨(1+r1).toNat,by omega⟩
 obtain⟨H,hH⟩:∃ H:Nat,1+r2=(H:Int):=⟨(1+r2).toNat,by omega⟩
 have hW4:W<=4:=by omega
 have hH4:H<=4:=by omega
 have g3:=Gr.app s2 [.lst []];have a3:=zaU s2 (.lst []);have p3:=p2.gr g3;obtain⟨nn,nq⟩:=p2.ne;generalize hs3:s2++[O.lst []]=s3 at g3 a3 p3;have key:=zbL (W:=⟨run 1 (W+1),[]⟩) (g:=gNm 4) (m:=zaY) (ds:=run 1 (W+1)) (ρ:=[some (.ref n),some (.int (W:Int)),some (.int (H:Int)),some (.ref s2.length),none]) (st:=s3)
   (Inv:=fun i ρ s=>(∃ b4,ρ=[some (.ref n),some (.int (W:Int)),some (.int (H:Int)),some (.ref s2.length),b4])/\∃ ps,RS n q (m+1+1) s2.length s2 ps s/\ps.length<=5*i/\(1<=i->ps≠[]))
   ⟨⟨_,rfl⟩,[],⟨p3,a3,by simp,Hb.FrB.of g3⟩,by simp,by omega⟩ (fun _ _ _ _ _=>rfl) (fun i d ρ s hd hI=>by
     obtain⟨⟨b4,rfl⟩,ps,hR,hlen,hne⟩:=hI;obtain⟨hi,rfl⟩:=run_get hd;obtain⟨s',e',hR'⟩:=zia (x:=1+(i:Int)) (W:=W) (H:=H) hR (Af _) (A7 nn) (A7 nq) (by omega) ⟨by omega,by omega⟩ hH4;have rl:=zgH (x:=1+(i:Int)) (W:=W) (H:=H);refine⟨[some (.ref n),some (.int (W:Int)),some (.int (H:Int)),some (.ref s2.length),some (.int (1+(i:Int)))],s,_,s',rfl,e',⟨_,rfl⟩,_,hR',by rw[Aq];omega,fun _=>?_⟩
     by_cases hi0:i=0
     . subst hi0;have:=zlD (W:=W) (H:=H);have e0:(1:Int)+((0:Nat):Int)=1:=rfl;rw[e0];intro z;exact this (List.append_eq_nil_iff.mp z).2
     . intro z;exact hne (by omega) (List.append_eq_nil_iff.mp z).1)
 obtain⟨ρ',s4,el,⟨b4,rfl⟩,ps,hR,hlen,hne⟩:=key;rw[zbK] at hlen hne;obtain⟨qs,es,hperm⟩:=zgt hR.at_ (by omega);have g5:=Gr.app s4 [.lst (qs.map prD)];have a5:=zaU s4 (.lst (qs.map prD));generalize hs5:s4++[O.lst (qs.map prD)]=s5 at es g5 a5;have hq:=hperm.length_eq;refine⟨qs,s5,zjY (b4:=b4) e1 e2 hW hH hs3 rfl ?_ es (zdG a5),fun p hp=>hR.ok p (hperm.mem_iff.mp hp),fun z=>hne (by omega) (by rw[z] at hperm;exact hperm.symm.eq_nil),by omega,(hR.pot.gr g5).up (by omega),((f1.trans f2).trans hR.fr).trans (Hb.FrB.of g5)⟩;have er:mR2 (mCon (.int 1)) (mBin addD (mCon (.int 2)) (mVar 1)) [some (.ref n),some (.int (W:Int)),some (.int (H:Int)),some (.ref s2.length),none] s3=some (⟨run 1 (W+1),[]⟩,s3):=by
   refine zlG (b:=2+(W:Int)) rfl ?_ (by push_cast;omega) (by omega);simp only[zby,zbj,zaM,Ag,Av,Ac,add_int]
 rw[zeb,er];exact el
end
theorem zfg{n d k:Nat}:HT.sIx n d (some (k:Int))=min k n:=by
 unfold HT.sIx;simp;omega
theorem zgw(ds:List D)(k:Nat):slT ds none (some (k:Int))=ds.take k:=by
 have e0:HT.sIx ds.length 0 none=0:=rfl;unfold slT cutD;rw[zfg,e0]
 by_cases h:min k ds.length=ds.length
 . rw[if_pos (by rw[h];simp),CH (by omega)]
 . rw[if_neg (by simp;omega),C5,Nat.sub_zero];rw[show min k ds.length=k by omega]
theorem zeP(ds:List D)(k:Nat):slT ds (some (k:Int)) none=ds.drop k:=by
 have e0:HT.sIx ds.length ds.length none=ds.length:=rfl;unfold slT cutD;rw[zfg,e0]
 by_cases h:min k ds.length=0
 . rw[if_pos (by rw[h];simp)]
   by_cases hk:k=0
   . subst hk;rfl
   . have:ds=[]:=Bq (by omega);subst this;simp
 . rw[if_neg (by rw[Ao,decide_eq_true_iff];exact fun z=>h z.1)]
   by_cases hk:k<=ds.length
   . rw[show min k ds.length=k by omega];exact CH (by rw[AY];omega)
   . rw[show min k ds.length=ds.length by omega,List.drop_length,List.drop_of_length_le (by omega)];simp
theorem zec{a b:List D}{st:Sto}(h:a.length+b.length<=10000):addE (.tup a) (.tup b) st=some (.tup (a++b),st):=by
 unfold addE orG
 cases a with
 | nil =>
   have e1:addD (.tup []) (.tup b) st=none:=rfl;have hf:fits b.length=true:=zaK (by simpa using h);rw[e1,zfo];simp[zmQ,hf]
 | cons x a=>rw[zdC (by simp) h,zbZ]
noncomputable def insU(ds:List D)(k:Nat)(x:D):List D:=ds.take k++[x]++ds.drop (k+1)
theorem zc9{ds:List D}{k:Nat}{x:D}(h:k < ds.length):(insU ds k x).length=ds.length:=by
 unfold insU;rw[Aq,Aq,AJ,AY,Bo];omega
theorem zc8{ds:List D}{k:Nat}{x d:D}(h:d∈insU ds k x):d∈ds\/d=x:=by
 unfold insU at h
 rcases List.mem_append.mp h with h | h
 . rcases List.mem_append.mp h with h | h
   . exact .inl (BS h)
   . exact .inr (List.mem_singleton.mp h)
 . exact .inl (BU h)
theorem zgL{ds:List D}{k:Nat}{x:D}{st:Sto}(hl:ds.length<=100):zak [.tup ds,.int (k:Int),x] st=some (.tup (insU ds k x),st):=by
 refine zck ?_;have a1:∀ s,addE (.tup (ds.take k)) (.tup [x]) s=some (.tup (ds.take k++[x]),s):=fun s=>zec (by rw[AJ];simp;omega);have a2:∀ s,addD (.tup (ds.take k++[x])) (.tup (ds.drop (k+1))) s=some (.tup (insU ds k x),s):=fun s=>zdC (by simp) (by rw[Aq,AJ,AY];simp;omega);have e1:∀ s,slC (.tup ds) none (some (k:Int)) s=some (.tup (ds.take k),s):=fun s=>by rw[zcD,zgw]
 have e2:∀ s,slC (.tup ds) (some ((k:Int)+1)) none s=some (.tup (ds.drop (k+1)),s):=fun s=>by
   rw[zcD,show ((k:Int)+1)=((k+1:Nat):Int) by omega,zeP]
 show zcB [some (.tup ds),some (.int (k:Int)),some x] st=_;generalize (k:Int)=K at *;unfold zcB;simp only[zgd,zby,zea,zaM,ziR,ziQ,zbj,zos,zbq,zcL,Ag,Av,Ac,e1,add_int,e2];have f1:fits [x].length=true:=zaK (by simp);simp only[f1,if_true,Ac,a1,a2,AD]
theorem skip{X:MS}{ρ:Rho}{w k:Int}{s:Sto}(h6:ρ[6]?=some (some (.int w)))(hk:(w==k)=false):mIf (mTst (mBin eqD (mVar 6) (mCon (.int k)))) X zcO ρ s=some (.nx ρ,s):=by
 simp[h6,eq_int,hk]
theorem hit{X:MS}{ρ:Rho}{w k:Int}{s:Sto}(h6:ρ[6]?=some (some (.int w)))(hk:(w==k)=true):mIf (mTst (mBin eqD (mVar 6) (mCon (.int k)))) X zcO ρ s=X ρ s:=by
 simp[h6,eq_int,hk]
section
variable {E:Nat->Prop} {n q m:Nat} {st:Sto}
theorem zej{p:Pt}(h:In6 p):Spt E st (prD p):=zln ⟨⟨by have:=h.1.1;omega,by have:=h.1.2;omega⟩,by have:=h.2.1;omega,by have:=h.2.2;omega⟩
theorem b39{i:Int}(h1:-10<=i)(h2:i<=10):i.natAbs < 10 ^ 39:=Bs (show i.natAbs<=10 by omega) (by decide +kernel)
theorem b40{i:Int}(h1:0<=i)(h2:i<=10):((1000000000000000000000000000000:Int)+i).natAbs < 10 ^ 39:=Bs (show ((1000000000000000000000000000000:Int)+i).natAbs<=1000000000000000000000000000010 by omega) (by decide +kernel)
theorem zlq(ds:List D)(k:Nat)(h:k < ds.length):slT ds (some (k:Int)) (some ((k:Int)+1))=(ds.drop k).take 1:=by
 have e:((k:Int)+1)=((k+1:Nat):Int):=by omega
 rw[e];unfold slT cutD;rw[zfg,zfg]
 by_cases hw:min k ds.length=0/\min (k+1) ds.length=ds.length
 . rw[if_pos (by rw[Ao,decide_eq_true_iff,decide_eq_true_iff];exact hw)];have hk:k=0:=by omega
   subst hk;rw[C5,CH (by omega)]
 . rw[if_neg (by rw[Ao,decide_eq_true_iff,decide_eq_true_iff];exact hw)];rw[show min k ds.length=k by omega,show min (k+1) ds.length=k+1 by omega,show k+1 - k=1 by omega]
structure BC(E:Nat->Prop)(n q m k:Nat)(ps:List Pt)(c fr:Pt)(s:Sto):Prop where
 pot:PotS n q m s
 hm:m<=800000
 ok:∀ p∈ps,In6 p
 hl:ps.length<=25
 hk:k < ps.length
 hc:ps[k]?=some c
 far:In6 fr
 hn:E n
 hq:E q
 hb:∀ j,E j->j < s.length
noncomputable def bR(n k:Nat)(ps:List Pt)(c fr:Pt)(w:Int)(o e:Option D):Rho:=[some (.ref n),some (.tup (ps.map prD)),some (.int (k:Int)),some (prD fr),some (.int c.1),some (.int c.2),some (.int w),o,e]
def Out(E:Nat->Prop)(n q m:Nat)(s:Sto)(r:Option (Fl×Sto)):Prop:=∃ d s',r=some (.rt d,s')/\Thg E s' d/\PotS n q (m+6) s'/\FrB n q s s'
theorem zhR{ps:List Pt}{ds:List D}{x:D}{s:Sto}(ok:∀ p∈ps,In6 p)(hx:Spt E s x)(h:∀ d∈ds,d∈ps.map prD\/d=x)(hl:ds.length<=28):Thg E s (.tup ds):=zcU (fun d hd=>by
 rcases h d hd with z | rfl
 . obtain⟨p,hp,rfl⟩:=List.mem_map.mp z;exact zej (ok p hp)
 . exact hx) hl
variable {k:Nat} {ps:List Pt} {c fr:Pt} {w:Int} {o e:Option D}
theorem BC.dl(h:BC E n q m k ps c fr st):(ps.map prD).length<=25:=by rw[Aj];exact h.hl
theorem BC.dk(h:BC E n q m k ps c fr st):k < (ps.map prD).length:=by rw[Aj];exact h.hk
theorem BC.c6(h:BC E n q m k ps c fr st):In6 c:=h.ok c (A1 h.hc)
theorem ziU{n l:Nat}{P K x X:D}{s s5 s6:Sto}{ρ:Rho}(h0:ρ[0]?=some (some (.ref n)))(h1:ρ[1]?=some (some P))(h2:ρ[2]?=some (some K)){mL:ME}(ml:mL ρ s=some (.ref l,s5))(eo:zao [.ref n,.ref l] s5=some (x,s6))(ep:zak [P,K,x] s6=some (X,s6)):mRet (zat zak (zab (mVar 1) (zab (mVar 2) (zab (zat zao (zab (mVar 0) (zab mL (mNil)))) (mNil))))) ρ s=some (.rt X,s6):=by
 simp[h0,h1,h2,ml,eo,ep]
theorem way0(h:BC E n q m k ps c fr st):Out E n q m st (mRet (zat zak (zab (mVar 1) (zab (mVar 2) (zab (zat zao (zab (mVar 0) (zab (mLst (zab (mTup (zab (mVar 4) (zab (mBin addD (mVar 5) (mCon (.int 1))) (mNil)))) (zab (mTup (zab (mBin addD (mVar 4) (mCon (.int 1))) (zab (mVar 5) (mNil)))) (zab (mTup (zab (mVar 4) (zab (mBin subD (mVar 5) (mCon (.int 1))) (mNil)))) (zab (mTup (zab (mBin subD (mVar 4) (mCon (.int 1))) (zab (mVar 5) (mNil)))) (mNil)))))) (mNil)))) (mNil))))) (bR n k ps c fr w o e) st):=by
 have g5:=Gr.app st [.lst ((nb c).map prD)];have p5:=h.pot.gr g5;have a5:=zaU st (.lst ((nb c).map prD));obtain⟨nn,nq⟩:=h.pot.ne;have ml:mLst (zab (mTup (zab (mVar 4) (zab (mBin addD (mVar 5) (mCon (.int 1))) (mNil)))) (zab (mTup (zab (mBin addD (mVar 4) (mCon (.int 1))) (zab (mVar 5) (mNil)))) (zab (mTup (zab (mVar 4) (zab (mBin subD (mVar 5) (mCon (.int 1))) (mNil)))) (zab (mTup (zab (mBin subD (mVar 4) (mCon (.int 1))) (zab (mVar 5) (mNil)))) (mNil))))) (bR n k ps c fr w o e) st=some (.ref st.length,st++[.lst ((nb c).map prD)]):=by
   simp[bR,nb,prD]
 generalize hs5:st++[O.lst ((nb c).map prD)]=s5 at g5 p5 a5 ml;obtain⟨x,s6,hx,e6,p6,f6⟩:=of_ok p5 (by have:=h.hm;omega) a5 (A7 nn) (A7 nq) (by simp[nb]) (by simp[nb]);obtain⟨v,hv,rfl⟩:=List.mem_map.mp hx;have ep:=zgL (ds:=ps.map prD) (k:=k) (x:=prD v) (st:=s6) (by have:=h.dl;omega);have c6:=h.c6;have hvs:Spt E s6 (prD v):=zln (by
   obtain⟨⟨q1,q2⟩,q3,q4⟩:=c6;simp[nb] at hv
   rcases hv with rfl | rfl | rfl | rfl <;> exact⟨⟨by show _<=_;omega,by show _<=_;omega⟩,by show _<=_;omega,by show _<=_;omega⟩)
 refine⟨.tup (insU (ps.map prD) k (prD v)),s6,ziU rfl rfl rfl ml e6 ep,zhR h.ok hvs (fun d hd=>zc8 hd) ?_,p6.up (by omega),(Hb.FrB.of g5).trans f6⟩;rw[zc9 h.dk];have:=h.dl;omega
theorem zjk{P A B C AB ABC:D}{s:Sto}{ρ:Rho}{mA mB mC:ME}(e1:mA ρ s=some (A,s))(e2:mB ρ s=some (B,s))(e3:mC ρ s=some (C,s))(a1:addE A B s=some (AB,s))(a2:addD AB C s=some (ABC,s)):mRet (mBin addD (mBin addE mA mB) mC) ρ s=some (.rt ABC,s):=by
 simp[e1,e2,e3,a1,a2]
theorem zm5{P:Rho}{ds:List D}{s:Sto}{k:Nat}(h1:P[1]?=some (some (.tup ds)))(h2:P[2]?=some (some (.int (k:Int)))):mSlC (mVar 1) (zb6) (zbI (mVar 2)) P s=some (.tup (ds.take k),s):=by
 rw[zea];simp only[zaM,ziR,ziQ,h1,h2,Ac,zcD,zgw]
theorem zi0{P:Rho}{ds:List D}{s:Sto}{k:Nat}(h1:P[1]?=some (some (.tup ds)))(h2:P[2]?=some (some (.int (k:Int)))):mSlC (mVar 1) (zbI (mVar 2)) (zb6) P s=some (.tup (ds.drop k),s):=by
 rw[zea];simp only[zaM,ziR,ziQ,h1,h2,Ac,zcD,zeP]
theorem zjN{P:Rho}{ds:List D}{s:Sto}{k:Nat}(h1:P[1]?=some (some (.tup ds)))(h2:P[2]?=some (some (.int (k:Int)))):mSlC (mVar 1) (zbI (mBin addD (mVar 2) (mCon (.int 1)))) (zb6) P s=some (.tup (ds.drop (k+1)),s):=by
 rw[zea];have e:((k:Int)+1)=((k+1:Nat):Int):=by omega
 simp only[zaM,ziR,ziQ,zby,zbj,h1,h2,Ac,add_int,e,zcD,zeP]
theorem zm7{P:Rho}{ds:List D}{s:Sto}{k:Nat}(h1:P[1]?=some (some (.tup ds)))(h2:P[2]?=some (some (.int (k:Int))))(hk:k < ds.length):mSlC (mVar 1) (zbI (mVar 2)) (zbI (mBin addD (mVar 2) (mCon (.int 1)))) P s=some (.tup ((ds.drop k).take 1),s):=by
 rw[zea];simp only[zaM,ziR,ziQ,zby,zbj,h1,h2,Ac,add_int,zcD,zlq ds k hk]
theorem zeh{ps:List Pt}{ds:List D}{s:Sto}(ok:∀ p∈ps,In6 p)(h:∀ d∈ds,d∈ps.map prD)(hl:ds.length<=28):Thg E s (.tup ds):=zcU (fun d hd=>by
 obtain⟨p,hp,rfl⟩:=List.mem_map.mp (h d hd);exact zej (ok p hp)) hl
theorem way1(h:BC E n q m k ps c fr st):Out E n q m st (mRet (mBin addD (mBin addE (mSlC (mVar 1) (zb6) (zbI (mVar 2))) (mSlC (mVar 1) (zbI (mVar 2)) (zbI (mBin addD (mVar 2) (mCon (.int 1)))))) (mSlC (mVar 1) (zbI (mVar 2)) (zb6))) (bR n k ps c fr w o e) st):=by
 have hdl:=h.dl;have hdk:=h.dk;have hk:=h.hk;have hmid:((ps.map prD).drop k).take 1≠[]:=by
   intro z;have:=congrArg DU z;rw[AJ,AY] at this;simp at this;omega
 refine⟨_,st,zjk (P:=.non) (zm5 rfl rfl) (zm7 rfl rfl hdk) (zi0 rfl rfl) (zec (by rw[AJ,AJ,AY];omega)) (zdC (fun z=>hmid (List.append_eq_nil_iff.mp z).2) (by rw[Aq,AJ,AJ,AY];omega)),zeh h.ok (fun d hd=>?_) ?_,h.pot.up (by omega),Hb.FrB.refl _ _ _⟩
 . rcases List.mem_append.mp hd with hd | hd
   . rcases List.mem_append.mp hd with hd | hd
     . exact BS hd
     . exact BU (BS hd)
   . exact BU hd
 . rw[Aq,Aq,AJ,AJ,AY];omega
theorem way2(h:BC E n q m k ps c fr st):Out E n q m st (mRet (mBin addE (mSlC (mVar 1) (zb6) (zbI (mVar 2))) (mSlC (mVar 1) (zbI (mBin addD (mVar 2) (mCon (.int 1)))) (zb6))) (bR n k ps c fr w o e) st):=by
 have hdl:=h.dl;have a1:∀ s,addE (.tup ((ps.map prD).take k)) (.tup ((ps.map prD).drop (k+1))) s=some (.tup ((ps.map prD).take k++(ps.map prD).drop (k+1)),s):=fun s=>zec (by rw[AJ,AY];omega);have e1:=zm5 (P:=bR n k ps c fr w o e) (ds:=ps.map prD) (s:=st) (k:=k) rfl rfl;have e2:=zjN (P:=bR n k ps c fr w o e) (ds:=ps.map prD) (s:=st) (k:=k) rfl rfl;refine⟨_,st,?_,zeh (ds:=(ps.map prD).take k++(ps.map prD).drop (k+1)) h.ok (fun d hd=>?_) ?_,h.pot.up (by omega),Hb.FrB.refl _ _ _⟩
 . rw[zgd,zby,e1];simp only[Ac,e2,a1,AD]
 . rcases List.mem_append.mp hd with hd | hd
   . exact BS hd
   . exact BU hd
 . rw[Aq,AJ,AY];omega
theorem zla{P F PF X:D}{l:Nat}{s s1:Sto}{ρ:Rho}(h1:ρ[1]?=some (some P))(h3:ρ[3]?=some (some F))(ea:addD P (.tup [F]) s=some (PF,s))(es:zbu [PF] s=some (.ref l,s1))(et:zcS [.ref l] s1=some (X,s1)):mRet (zat zcS (zab (zat zbu (zab (mBin addD (mVar 1) (mTup (zab (mVar 3) (mNil)))) (mNil))) (mNil))) ρ s=some (.rt X,s1):=by
 simp[h1,h3,ea,es,et]
theorem way3(h:BC E n q m k ps c fr st):Out E n q m st (mRet (zat zcS (zab (zat zbu (zab (mBin addD (mVar 1) (mTup (zab (mVar 3) (mNil)))) (mNil))) (mNil))) (bR n k ps c fr w o e) st):=by
 have hdl:=h.dl;have hl:=h.hl;have hk:=h.hk;have ea:addD (.tup (ps.map prD)) (.tup [prD fr]) st=some (.tup ((ps++[fr]).map prD),st):=by
   rw[zdC (by intro z;have:=congrArg DU z;rw[Aj] at this;simp at this;subst this;simp at hk) (by simp;omega),Ca];rfl
 obtain⟨qs,es,hperm⟩:=zjH (ps:=ps++[fr]) (st:=st) (by simp;omega);have g1:=Gr.app st [.lst (qs.map prD)];have a1:=zaU st (.lst (qs.map prD));generalize hs1:st++[O.lst (qs.map prD)]=s1 at es g1 a1;have hq:=hperm.length_eq;rw[Aq,Bo] at hq;refine⟨.tup (qs.map prD),s1,zla rfl rfl ea es (zdG a1),zeh (ps:=qs) (fun p hp=>?_) (fun d hd=>hd) (by rw[Aj];omega),(h.pot.gr g1).up (by omega),Hb.FrB.of g1⟩
 rcases List.mem_append.mp (hperm.mem_iff.mp hp) with z | z
 . exact h.ok p z
 . rw[List.mem_singleton.mp z];exact h.far
theorem way4(h:BC E n q m k ps c fr st):Out E n q m st (mRet (mBin addD (mBin addE (mSlC (mVar 1) (zb6) (zbI (mVar 2))) (mTup (zab (mVar 3) (mNil)))) (mSlC (mVar 1) (zbI (mVar 2)) (zb6))) (bR n k ps c fr w o e) st):=by
 have hdl:=h.dl;have hl:=h.hl;have hk:=h.hk;have et:mTup (zab (mVar 3) (mNil)) (bR n k ps c fr w o e) st=some (.tup [prD fr],st):=by simp[bR]
 refine⟨_,st,zjk (P:=.non) (zm5 rfl rfl) et (zi0 rfl rfl) (zec (by rw[AJ];simp;omega)) (zdC (by simp) (by rw[Aq,AJ,AY];simp;omega)),zhR (x:=prD fr) h.ok (zej h.far) (fun d hd=>?_) ?_,h.pot.up (by omega),Hb.FrB.refl _ _ _⟩
 . rcases List.mem_append.mp hd with hd | hd
   . rcases List.mem_append.mp hd with hd | hd
     . exact .inl (BS hd)
     . exact .inr (List.mem_singleton.mp hd)
   . exact .inl (BU hd)
 . rw[Aq,Aq,AJ,AY];simp;omega
end
section
variable {E:Nat->Prop} {n q m k:Nat} {st:Sto} {ps:List Pt} {c fr:Pt} {w:Int}
theorem zk9{n:Nat}{P K A B F x y X Y:D}{w L r:Int}{s s1:Sto}{e:Option D}(el:lenD [P] s=some (.int L,s))(et:zaf [.ref n,.int L] s=some (.int r,s1))(i1:ixA P (.int r) s1=some (x,s1))(i2:ixA P K s1=some (y,s1))(p1:zak [P,K,x] s1=some (X,s1))(p2:zak [X,.int r,y] s1=some (Y,s1)):mSeq (mAsg (zat zaf (zab (mVar 0) (zab (zat lenD (zab (mVar 1) (mNil))) (mNil)))) (gNm 7)) (mRet (zat zak (zab (zat zak (zab (mVar 1) (zab (mVar 2) (zab (mBin ixA (mVar 1) (mVar 7)) (mNil))))) (zab (mVar 7) (zab (mBin ixA (mVar 1) (mVar 2)) (mNil)))))) [some (.ref n),some P,some K,some F,some A,some B,some (.int w),none,e] s=some (.rt Y,s1):=by
 refine zaj (ρ1:=[some (.ref n),some P,some K,some F,some A,some B,some (.int w),some (.int r),e]) (s1:=s1) (by simp[el,et]) ?_;simp[i1,i2,p1,p2]
theorem way5(h:BC E n q m k ps c fr st):Out E n q m st (mSeq (mAsg (zat zaf (zab (mVar 0) (zab (zat lenD (zab (mVar 1) (mNil))) (mNil)))) (gNm 7)) (mRet (zat zak (zab (zat zak (zab (mVar 1) (zab (mVar 2) (zab (mBin ixA (mVar 1) (mVar 7)) (mNil))))) (zab (mVar 7) (zab (mBin ixA (mVar 1) (mVar 2)) (mNil)))))) (bR n k ps c fr w none none) st):=by
 have hl:=h.hl;have hk:=h.hk;have hm:=h.hm;obtain⟨N,hN⟩:∃ N,ps.length=N:=⟨_,rfl⟩
 have eL:lenD [.tup (ps.map prD)] st=some (.int (N:Int),st):=by rw[zdu,Aj,hN]
 obtain⟨r,s1,e1,r0,r1,p1,f1⟩:=zbJ (many:=(N:Int)) h.pot (by omega) (by omega) (by omega);obtain⟨j,hj⟩:∃ j:Nat,r=(j:Int):=⟨r.toNat,by omega⟩
 have hjl:j < ps.length:=by omega
 subst hj;have i1:ixA (.tup (ps.map prD)) (.int (j:Int)) s1=some (prD ps[j],s1):=zcu (by omega) (by rw[Bm,AE,Aw hjl];rfl);have i2:ixA (.tup (ps.map prD)) (.int (k:Int)) s1=some (prD c,s1):=zcu (by omega) (by rw[Bm,AE,h.hc];rfl);have q1:=zgL (ds:=ps.map prD) (k:=k) (x:=prD ps[j]) (st:=s1) (by have:=h.dl;omega);have l1:(insU (ps.map prD) k (prD ps[j])).length=ps.length:=by rw[zc9 h.dk,Aj]
 have q2:=zgL (ds:=insU (ps.map prD) k (prD ps[j])) (k:=j) (x:=prD c) (st:=s1) (by omega);refine⟨_,s1,zk9 eL e1 i1 i2 q1 q2,zeh h.ok (fun d hd=>?_) ?_,p1.up (by omega),f1⟩
 . rcases zc8 hd with z | rfl
   . rcases zc8 z with z | rfl
     . exact z
     . exact Eu (Ce hjl)
   . exact Eu (A1 h.hc)
 . rw[zc9 (by omega),l1];omega
theorem zps:fits 9=true:=zaK (by decide)
noncomputable def odds(x:Int):List D:=[.int 0,.int 7,.int (-x),.int (1000000000000000000000000000000+x),.bl true,.str "1",.non,.tup [.int x],.int 1]
theorem zl9{x:Int}(h0:1<=x)(h1:x<=6){d:D}(h:d∈odds x):∀ s,Lf E s d:=by
 intro s;simp only[odds,AM,AH,or_false] at h
 rcases h with rfl | rfl | rfl | rfl | rfl | rfl | rfl | rfl | rfl
 . exact zcs (b39 (by decide) (by decide))
 . exact zcs (b39 (by decide) (by decide))
 . exact zcs (b39 (by omega) (by omega))
 . exact zcs (b40 (by omega) (by omega))
 . exact zoF _
 . exact zmj (by decide +kernel)
 . exact zkr
 . exact zn3 (b39 (by omega) (by omega))
 . exact zcs (b39 (by decide) (by decide))
theorem znT{n l:Nat}{P K F x:D}{X Y w:Int}{s s1 s2:Sto}(hs:s++[O.lst (odds X)]=s1)(hl:s.length=l)(eo:zao [.ref n,.ref l] s1=some (x,s2)):mAsg (zat zao (zab (mVar 0) (zab (mLst (zab (mCon (.int 0)) (zab (mCon (.int 7)) (zab (mNeg (mVar 4)) (zab (mBin addD (mBin powB (mCon (.int 10)) (mCon (.int 30))) (mVar 4)) (zab (mCon (.bl true)) (zab (mCon (.str "1")) (zab (mCon .non) (zab (mTup (zab (mVar 4) (mNil))) (zab (mCon (.int 1)) (mNil))))))))))) (mNil)))) (gNm 8) [some (.ref n),some P,some K,some F,some (.int X),some (.int Y),some (.int w),none,none] s=some (.nx [some (.ref n),some P,some K,some F,some (.int X),some (.int Y),some (.int w),none,some x],s2):=by
 have e30:∀ s,powB (.int 10) (.int 30) s=some (.int 1000000000000000000000000000000,s):=fun s=>rfl;have en:∀ s,negD (.int X) s=some (.int (-X),s):=fun s=>rfl;have ml:mLst (zab (mCon (.int 0)) (zab (mCon (.int 7)) (zab (mNeg (mVar 4)) (zab (mBin addD (mBin powB (mCon (.int 10)) (mCon (.int 30))) (mVar 4)) (zab (mCon (.bl true)) (zab (mCon (.str "1")) (zab (mCon .non) (zab (mTup (zab (mVar 4) (mNil))) (zab (mCon (.int 1)) (mNil)))))))))) [some (.ref n),some P,some K,some F,some (.int X),some (.int Y),some (.int w),none,none] s=some (.ref l,s1):=by
   rw[<-hs,<-hl];unfold odds;simp[e30,en,zps]
 rw[zci,zbS,zbq];simp only[zaM,Ag,Ac,zbq,ml,zcL,eo];rfl
theorem way6{x:D}(h:BC E n q m k ps c fr st)(hx:∀ s,Lf E s x):Out E n q m st (mRet (zat zak (zab (mVar 1) (zab (mVar 2) (zab (zat zao (zab (mVar 0) (zab (mLst (zab (mTup (zab (mVar 8) (zab (mVar 5) (mNil)))) (zab (mTup (zab (mVar 4) (zab (mVar 8) (mNil)))) (mNil)))) (mNil)))) (mNil))))) (bR n k ps c fr w none (some x)) st):=by
 have c6:=h.c6;have g5:=Gr.app st [.lst [.tup [x,.int c.2],.tup [.int c.1,x]]];have p5:=h.pot.gr g5;have a5:=zaU st (.lst [.tup [x,.int c.2],.tup [.int c.1,x]]);obtain⟨nn,nq⟩:=h.pot.ne;have ml:mLst (zab (mTup (zab (mVar 8) (zab (mVar 5) (mNil)))) (zab (mTup (zab (mVar 4) (zab (mVar 8) (mNil)))) (mNil))) (bR n k ps c fr w none (some x)) st=some (.ref st.length,st++[.lst [.tup [x,.int c.2],.tup [.int c.1,x]]]):=by
   simp[bR]
 generalize hs5:st++[O.lst [.tup [x,.int c.2],.tup [.int c.1,x]]]=s5 at g5 p5 a5 ml;obtain⟨y,s6,hy,e6,p6,f6⟩:=of_ok p5 (by have:=h.hm;omega) a5 (A7 nn) (A7 nq) (by simp) (by simp);have ys:Spt E s6 y:=by
   simp only[AM,AH,or_false] at hy
   rcases hy with rfl | rfl
   . refine zcW (fun d hd=>?_) (by simp);simp only[AM,AH,or_false] at hd
     rcases hd with rfl | rfl
     . exact hx _
     . exact zcs (b39 (by have:=c6.2.1;omega) (by have:=c6.2.2;omega))
   . refine zcW (fun d hd=>?_) (by simp);simp only[AM,AH,or_false] at hd
     rcases hd with rfl | rfl
     . exact zcs (b39 (by have:=c6.1.1;omega) (by have:=c6.1.2;omega))
     . exact hx _
 have ep:=zgL (ds:=ps.map prD) (k:=k) (x:=y) (st:=s6) (by have:=h.dl;omega);refine⟨.tup (insU (ps.map prD) k y),s6,ziU rfl rfl rfl ml e6 ep,zhR h.ok ys (fun d hd=>zc8 hd) ?_,p6.up (by omega),(Hb.FrB.of g5).trans f6⟩;rw[zc9 h.dk];have:=h.dl;omega
theorem way8{x:D}(h:BC E n q m k ps c fr st)(hx:∀ s,Lf E s x):Out E n q m st (mRet (zat zao (zab (mVar 0) (zab (mLst (zab (zat zak (zab (mVar 1) (zab (mVar 2) (zab (mTup (zab (mVar 4) (mNil))) (mNil))))) (zab (zat zak (zab (mVar 1) (zab (mVar 2) (zab (mTup (zab (mVar 4) (zab (mVar 5) (zab (mVar 8) (mNil))))) (mNil))))) (zab (zat zak (zab (mVar 1) (zab (mVar 2) (zab (mLst (zab (mVar 4) (zab (mVar 5) (mNil)))) (mNil))))) (zab (zat zk1 (zab (mVar 1) (mNil))) (zab (zat zak (zab (mVar 1) (zab (mVar 2) (zab (mVar 8) (mNil))))) (zab (mTup (zab (mVar 1) (mNil))) (zab (mBin addD (mVar 1) (mTup (zab (mTup (mNil)) (mNil)))) (zab (zk0 (mVar 1) (mNeg (mCon (.int 1)))) (mNil)))))))))) (mNil)))) (bR n k ps c fr w none (some x)) st):=by
 have c6:=h.c6;have hl:=h.hl;have hk:=h.hk;have hdl:=h.dl;have hdk:=h.dk;obtain⟨nn,nq⟩:=h.pot.ne;have g1:=Gr.app st [.lst [.int c.1,.int c.2]];have a1:=zaU st (.lst [.int c.1,.int c.2]);have p1:=h.pot.gr g1;generalize hs1:st++[O.lst [.int c.1,.int c.2]]=s1 at g1 a1 p1;obtain⟨nn1,nq1⟩:=p1.ne;have g2:=Gr.app s1 [.lst (ps.map prD)];have a2:=zaU s1 (.lst (ps.map prD));have p2:=p1.gr g2;have e2:zk1 [.tup (ps.map prD)] s1=some (.ref s1.length,s1++[.lst (ps.map prD)]):=by
   have:fits (ps.map prD).length=true:=zaK (by omega);simp only[zk1,orN,zn2,zn1,this,if_true,zbZ]
 generalize hs2:s1++[O.lst (ps.map prD)]=s2 at g2 a2 p2 e2;obtain⟨nn2,nq2⟩:=p2.ne;have pe:∀ (y:D) (s:Sto),zak [.tup (ps.map prD),.int (k:Int),y] s=some (.tup (insU (ps.map prD) k y),s):=fun y s=>zgL (by omega);have ea:∀ s,addD (.tup (ps.map prD)) (.tup [.tup []]) s=some (.tup (ps.map prD++[.tup []]),s):=fun s=>zdC (by intro z;rw[z] at hdk;simp at hdk) (by simp;omega);have en:∀ s,negD (.int 1) s=some (.int (-1),s):=fun s=>rfl;generalize hxs:[D.tup (insU (ps.map prD) k (.tup [.int c.1])),.tup (insU (ps.map prD) k (.tup [.int c.1,.int c.2,x])),.tup (insU (ps.map prD) k (.ref st.length)),.ref s1.length,.tup (insU (ps.map prD) k x),.tup [.tup (ps.map prD)],.tup (ps.map prD++[.tup []]),.tup (ps.map prD).reverse]=xs;have g3:=Gr.app s2 [.lst xs];have a3:=zaU s2 (.lst xs);have p3:=p2.gr g3;have ml:mLst (zab (zat zak (zab (mVar 1) (zab (mVar 2) (zab (mTup (zab (mVar 4) (mNil))) (mNil))))) (zab (zat zak (zab (mVar 1) (zab (mVar 2) (zab (mTup (zab (mVar 4) (zab (mVar 5) (zab (mVar 8) (mNil))))) (mNil))))) (zab (zat zak (zab (mVar 1) (zab (mVar 2) (zab (mLst (zab (mVar 4) (zab (mVar 5) (mNil)))) (mNil))))) (zab (zat zk1 (zab (mVar 1) (mNil))) (zab (zat zak (zab (mVar 1) (zab (mVar 2) (zab (mVar 8) (mNil))))) (zab (mTup (zab (mVar 1) (mNil))) (zab (mBin addD (mVar 1) (mTup (zab (mTup (mNil)) (mNil)))) (zab (zk0 (mVar 1) (mNeg (mCon (.int 1)))) (mNil))))))))) (bR n k ps c fr w none (some x)) st=some (.ref s2.length,s2++[.lst xs]):=by
   subst hxs;unfold bR;have er:∀ (ρ:Rho) (s:Sto),ρ[1]?=some (some (.tup (ps.map prD)))->zk0 (mVar 1) (mNeg (mCon (.int 1))) ρ s=some (.tup (ps.map prD).reverse,s):=fun ρ s hρ=>by
     unfold zk0;simp[hρ,en]
   generalize ps.map prD=ds at *;generalize (k:Int)=K at *;simp[pe,hs1,e2,ea,er]
 generalize hs3:s2++[O.lst xs]=s3 at g3 a3 p3 ml;have b1:s3[st.length]?=some (.lst [.int c.1,.int c.2]):=(g3.old _ (Ap (getElem?_lt a1) g2.len)).trans ((g2.old _ (getElem?_lt a1)).trans a1);have b2:s3[s1.length]?=some (.lst (ps.map prD)):=(g3.old _ (getElem?_lt a2)).trans a2;have x1:∀ s,Lf E s (.int c.1):=fun s=>zcs (b39 (by have:=c6.1.1;omega) (by have:=c6.1.2;omega));have x2:∀ s,Lf E s (.int c.2):=fun s=>zcs (b39 (by have:=c6.2.1;omega) (by have:=c6.2.2;omega));have sps:∀ d∈ps.map prD,Spt E s3 d:=fun d hd=>by
   obtain⟨p,hp,rfl⟩:=List.mem_map.mp hd;exact zej (h.ok p hp)
 have tput:∀ y,Spt E s3 y->Thg E s3 (.tup (insU (ps.map prD) k y)):=fun y hy=>zhR h.ok hy (fun d hd=>zc8 hd) (by rw[zc9 hdk];omega);have all:∀ y∈xs,Thg E s3 y:=by
   intro y hy;subst hxs;simp only[AM,AH,or_false] at hy
   rcases hy with rfl | rfl | rfl | rfl | rfl | rfl | rfl | rfl
   . exact tput _ (zcW (fun d hd=>by rw[List.mem_singleton.mp hd];exact x1 _) (by simp))
   . refine tput _ (zcW (fun d hd=>?_) (by simp));simp only[AM,AH,or_false] at hd
     rcases hd with rfl | rfl | rfl
     . exact x1 _
     . exact x2 _
     . exact hx _
   . refine tput _ (zlo b1 (fun z=>AU _ (h.hb _ z)) trivial (fun d hd=>?_) (by simp));simp only[AM,AH,or_false] at hd
     rcases hd with rfl | rfl
     . exact x1 _
     . exact x2 _
   . exact ziX b2 (fun z=>AU _ (Ap (h.hb _ z) g1.len)) trivial sps (by omega)
   . exact tput _ (hx _).spt
   . refine⟨.tup _ (by simp) fun d hd=>by rw[List.mem_singleton.mp hd];exact .tup _ (by omega) fun d hd=>(sps d hd).fit,?_⟩;exact (zgo (w:=10025) (k:=4) (L:=1) (fun d hd=>by rw[List.mem_singleton.mp hd];exact zgo (w:=400) (k:=3) (L:=25) (fun d hd=>(sps d hd).tm) (by omega)) (by simp)).say (by decide) (by decide)
   . refine zcU (fun d hd=>?_) (by rw[Aq];simp;omega)
     rcases List.mem_append.mp hd with hd | hd
     . exact sps d hd
     . rw[List.mem_singleton.mp hd];exact zcW (by simp) (by simp)
   . exact zcU (fun d hd=>sps d (List.mem_reverse.mp hd)) (by rw[C2];omega)
 have hxl:xs≠[]/\xs.length<=1000:=by subst hxs;simp
 obtain⟨y,s4,hy,e4,p4,f4⟩:=of_ok p3 (by have:=h.hm;omega) a3 (A7 nn2) (A7 nq2) hxl.1 hxl.2;refine⟨y,s4,?_,(all y hy).fr (FrE.b h.hn h.hq f4),p4.up (by omega),((Hb.FrB.of g1).trans (Hb.FrB.of g2)).trans ((Hb.FrB.of g3).trans f4)⟩;rw[zgd,zbS,zbq];have v0:mVar 0 (bR n k ps c fr w none (some x)) st=some (.ref n,st):=rfl;simp only[v0,Ac,zbq,ml,zcL,e4,AD]
theorem zmA{ps:List Pt}(hEn:E n)(hEq:E q)(hEb:∀ j,E j->j < st.length)(h:PotS n q m st)(hm:m<=700000)(ok:∀ p∈ps,In6 p)(hne:ps≠[])(hl:ps.length<=25):∃ d st',zbc [.ref n,.tup (ps.map prD)] st=some (d,st')/\Thg E st' d/\PotS n q (m+12) st'/\FrB n q st st':=by
 have hpos:0 < ps.length:=List.length_pos_iff.mpr hne;obtain⟨N,hN⟩:∃ N,ps.length=N:=⟨_,rfl⟩
 have eL:∀ s:Sto,lenD [.tup (ps.map prD)] s=some (.int (N:Int),s):=fun s=>by rw[zdu,Aj,hN]
 obtain⟨r1,s1,e1,r10,r11,p1,f1⟩:=zbJ (many:=(N:Int)) h (by omega) (by omega) (by omega);obtain⟨r2,s2,e2,r20,r21,p2,f2⟩:=zbJ (many:=6) p1 (by decide) (by decide) (by omega);obtain⟨r3,s3,e3,r30,r31,p3,f3⟩:=zbJ (many:=6) p2 (by decide) (by decide) (by omega);obtain⟨w,s4,e4,w0,w1,p4,f4⟩:=zbJ (many:=12) p3 (by decide) (by decide) (by omega);obtain⟨k,hk⟩:∃ k:Nat,r1=(k:Int):=⟨r1.toNat,by omega⟩
 have hkl:k < ps.length:=by omega
 obtain⟨c,hc⟩:∃ c,ps[k]?=some c:=⟨ps[k],Aw hkl⟩
 have hcin:=ok c (A1 hc);have ix:∀ s:Sto,ixA (.tup (ps.map prD)) (.int (k:Int)) s=some (prD c,s):=fun s=>zcu (by omega) (by rw[Bm,AE,hc];rfl);have hdl:(ps.map prD).length=ps.length:=Aj _;have f04:FrB n q st s4:=(f1.trans f2).trans (f3.trans f4);have hfar:In6 (1+r2,1+r3):=⟨⟨by show 1<=1+r2;omega,by show 1+r2<=6;omega⟩,by show 1<=1+r3;omega,by show 1+r3<=6;omega⟩
 subst hk;have sps:∀ s,∀ d∈ps.map prD,Spt E s d:=fun s d hd=>by
   obtain⟨p,hp,rfl⟩:=List.mem_map.mp hd;exact zej (ok p hp)
 -- the head
 have hA:mPar 2 3 (zab (zat zaf (zab (mVar 0) (zab (zat lenD (zab (mVar 1) (mNil))) (mNil)))) (zab (mTup (zab (mBin addD (mCon (.int 1)) (zat zaf (zab (mVar 0) (zab (mCon (.int 6)) (mNil))))) (zab (mBin addD (mCon (.int 1)) (zat zaf (zab (mVar 0) (zab (mCon (.int 6)) (mNil))))) (mNil)))) (mNil))) [some (.ref n),some (.tup (ps.map prD)),none,none,none,none,none,none,none] st=some (.nx [some (.ref n),some (.tup (ps.map prD)),some (.int (k:Int)),some (prD (1+r2,1+r3)),none,none,none,none,none],s3):=by
   have eLs:=eL st;generalize (N:Int)=Ni at eLs e1;generalize (k:Int)=Ki at e1;simp[eLs,e1,e2,e3,prD]
 have hB:mAsg (mBin ixA (mVar 1) (mVar 2)) (gTp 2 (gC (gNm 4) (gC (gNm 5) (gN0)))) [some (.ref n),some (.tup (ps.map prD)),some (.int (k:Int)),some (prD (1+r2,1+r3)),none,none,none,none,none] s3=some (.nx [some (.ref n),some (.tup (ps.map prD)),some (.int (k:Int)),some (prD (1+r2,1+r3)),some (.int c.1),some (.int c.2),none,none,none],s3):=by
   have:=ix s3;generalize (k:Int)=Ki at this;simp[this,prD]
 have hC:mAsg (zat zaf (zab (mVar 0) (zab (mCon (.int 12)) (mNil)))) (gNm 6) [some (.ref n),some (.tup (ps.map prD)),some (.int (k:Int)),some (prD (1+r2,1+r3)),some (.int c.1),some (.int c.2),none,none,none] s3=some (.nx [some (.ref n),some (.tup (ps.map prD)),some (.int (k:Int)),some (prD (1+r2,1+r3)),some (.int c.1),some (.int c.2),some (.int w),none,none],s4):=by
   simp[e4]
 have C4:BC E n q (m+1+1+1+1) k ps c (1+r2,1+r3) s4:=⟨p4,by omega,ok,hl,hkl,hc,hfar,hEn,hEq,fun j z=>Ap (hEb j z) f04.len⟩
 have fin:∀ {r:Option (Fl×Sto)} {Y:Option (Fl×Sto)},zaA [some (.ref n),some (.tup (ps.map prD)),none,none,none,none,none,none,none] st=r->r=Y->Out E n q (m+1+1+1+1) s4 Y->∃ d st',zbc [.ref n,.tup (ps.map prD)] st=some (d,st')/\Thg E st' d/\PotS n q (m+12) st'/\FrB n q st st':=fun hr hY ⟨d,s',e,ht,hp,hf⟩=>⟨d,s',zck (hr.trans (hY.trans e)),ht,hp.up (by omega),f04.trans hf⟩
 have h6:(bR n k ps c (1+r2,1+r3) w none none)[6]?=some (some (.int w)):=rfl;have ne:∀ j:Int,w≠j->(w==j)=false:=fun j h=>beq_false_of_ne h
 by_cases w_0:w=0
 . exact fin rfl (by
     unfold zaA;refine zaj hA (zaj hB (zaj hC ?_));obtain⟨d,s',e,_⟩:=way0 (w:=w) (o:=none) (e:=none) C4;refine (zbW ((hit h6 (by rw[w_0];rfl)).trans e)).trans e.symm) (way0 (w:=w) (o:=none) (e:=none) C4)
 by_cases w_1:w=1
 . exact fin rfl (by
     unfold zaA;refine zaj hA (zaj hB (zaj hC (zaj (skip h6 (ne 0 w_0)) ?_)));obtain⟨d,s',e,_⟩:=way1 (w:=w) (o:=none) (e:=none) C4;refine (zbW ((hit h6 (by rw[w_1];rfl)).trans e)).trans e.symm) (way1 (w:=w) (o:=none) (e:=none) C4)
 by_cases w_2:w=2
 . exact fin rfl (by
     unfold zaA;refine zaj hA (zaj hB (zaj hC (zaj (skip h6 (ne 0 w_0)) (zaj (skip h6 (ne 1 w_1)) ?_))));obtain⟨d,s',e,_⟩:=way2 (w:=w) (o:=none) (e:=none) C4;refine (zbW ((hit h6 (by rw[w_2];rfl)).trans e)).trans e.symm) (way2 (w:=w) (o:=none) (e:=none) C4)
 by_cases w_3:w=3
 . exact fin rfl (by
     unfold zaA;refine zaj hA (zaj hB (zaj hC (zaj (skip h6 (ne 0 w_0)) (zaj (skip h6 (ne 1 w_1)) (zaj (skip h6 (ne 2 w_2)) ?_)))));obtain⟨d,s',e,_⟩:=way3 (w:=w) (o:=none) (e:=none) C4;refine (zbW ((hit h6 (by rw[w_3];rfl)).trans e)).trans e.symm) (way3 (w:=w) (o:=none) (e:=none) C4)
 by_cases w_4:w=4
 . exact fin rfl (by
     unfold zaA;refine zaj hA (zaj hB (zaj hC (zaj (skip h6 (ne 0 w_0)) (zaj (skip h6 (ne 1 w_1)) (zaj (skip h6 (ne 2 w_2)) (zaj (skip h6 (ne 3 w_3)) ?_))))));obtain⟨d,s',e,_⟩:=way4 (w:=w) (o:=none) (e:=none) C4;refine (zbW ((hit h6 (by rw[w_4];rfl)).trans e)).trans e.symm) (way4 (w:=w) (o:=none) (e:=none) C4)
 by_cases w_5:w=5
 . exact fin rfl (by
     unfold zaA;refine zaj hA (zaj hB (zaj hC (zaj (skip h6 (ne 0 w_0)) (zaj (skip h6 (ne 1 w_1)) (zaj (skip h6 (ne 2 w_2)) (zaj (skip h6 (ne 3 w_3)) (zaj (skip h6 (ne 4 w_4)) ?_)))))));obtain⟨d,s',e,_⟩:=way5 (w:=w) C4;refine (zbW ((hit h6 (by rw[w_5];rfl)).trans e)).trans e.symm) (way5 (w:=w) C4)
 -- an odd thing is drawn
 have c6:=C4.c6;obtain⟨nn,nq⟩:=p4.ne;have g5:=Gr.app s4 [.lst (odds c.1)];have a5:=zaU s4 (.lst (odds c.1));have p5:=p4.gr g5;generalize hs5:s4++[O.lst (odds c.1)]=s5 at g5 a5 p5;obtain⟨x,s6,hx,e6,p6,f6⟩:=of_ok p5 (by omega) a5 (A7 nn) (A7 nq) (by simp[odds]) (by simp[odds]);have hlf:∀ s,Lf E s x:=zl9 c6.1.1 c6.1.2 hx;have hD:=znT (P:=.tup (ps.map prD)) (K:=.int (k:Int)) (F:=prD (1+r2,1+r3)) (X:=c.1) (Y:=c.2) (w:=w) hs5 rfl e6;have C6:BC E n q (m+1+1+1+1+1) k ps c (1+r2,1+r3) s6:=⟨p6,by omega,ok,hl,hkl,hc,hfar,hEn,hEq,fun j z=>Ap (hEb j z) (f04.trans ((Hb.FrB.of g5).trans f6)).len⟩
 have f06:FrB n q st s6:=f04.trans ((Hb.FrB.of g5).trans f6)
 by_cases w_8:w < 8
 . obtain⟨d,s',e,ht,hp,hf⟩:=way6 (w:=w) C6 hlf;refine⟨d,s',zck ?_,ht,hp.up (by omega),f06.trans hf⟩;show zaA [some (.ref n),some (.tup (ps.map prD)),none,none,none,none,none,none,none] st=_;unfold zaA;refine zaj hA (zaj hB (zaj hC (zaj (skip h6 (ne 0 w_0)) (zaj (skip h6 (ne 1 w_1)) (zaj (skip h6 (ne 2 w_2)) (zaj (skip h6 (ne 3 w_3)) (zaj (skip h6 (ne 4 w_4)) (zaj (skip h6 (ne 5 w_5)) (zaj hD ?_)))))))));refine zbW ?_;have et:mTst (mBin ltD (mVar 6) (mCon (.int 8))) [some (.ref n),some (.tup (ps.map prD)),some (.int (k:Int)),some (prD (1+r2,1+r3)),some (.int c.1),some (.int c.2),some (.int w),none,some x] s6=some (true,s6):=by simp[ltD,cmpD,w_8]
   rw[zdB,et];exact e
 . obtain⟨d,s',e,ht,hp,hf⟩:=way8 (w:=w) C6 hlf;refine⟨d,s',zck ?_,ht,hp.up (by omega),f06.trans hf⟩;show zaA [some (.ref n),some (.tup (ps.map prD)),none,none,none,none,none,none,none] st=_;unfold zaA;refine zaj hA (zaj hB (zaj hC (zaj (skip h6 (ne 0 w_0)) (zaj (skip h6 (ne 1 w_1)) (zaj (skip h6 (ne 2 w_2)) (zaj (skip h6 (ne 3 w_3)) (zaj (skip h6 (ne 4 w_4)) (zaj (skip h6 (ne 5 w_5)) (zaj hD ?_)))))))));have et:mTst (mBin ltD (mVar 6) (mCon (.int 8))) [some (.ref n),some (.tup (ps.map prD)),some (.int (k:Int)),some (prD (1+r2,1+r3)),some (.int c.1),some (.int c.2),some (.int w),none,some x] s6=some (false,s6):=by simp[ltD,cmpD,w_8]
   refine zaj (ρ1:=[some (.ref n),some (.tup (ps.map prD)),some (.int (k:Int)),some (prD (1+r2,1+r3)),some (.int c.1),some (.int c.2),some (.int w),none,some x]) (s1:=s6) (by rw[zdB,et];rfl) ?_;exact e
end
theorem zmb(b:Bool)(st:Sto):neD (.bl b) (.bl b) st=some (.bl false,st):=by cases b <;> rfl
theorem zor{n:Nat}{d:D}{a0 a2 a3 a4 a5 a7 a8:Option D}{z:Str}{b:Bool}{st s1 s3:Sto}(r1:zi4 [d] st=some (.str z,st))(e1:zbh [d] st=some (.bl b,s1))(e2:zaV [d] s1=some (.bl b,s3))(r3:zi4 [d] s3=some (.str z,s3)):zdD [a0,some (.ref n),a2,a3,a4,a5,some d,a7,a8] st=some (.nx [a0,some (.ref n),a2,a3,a4,a5,some d,some (.str z),some (.bl b)],s3):=by
 unfold zdD;refine zaj (ρ1:=[a0,some (.ref n),a2,a3,a4,a5,some d,some (.str z),a8]) (s1:=st) (by simp[r1]) ?_;refine zaj (ρ1:=[a0,some (.ref n),a2,a3,a4,a5,some d,some (.str z),some (.bl b)]) (s1:=s1) (by simp[e1]) ?_;have n1:=zmb b s3;have n2:neS (.str z) (.str z) s3=some (.bl false,s3):=by simp[neS]
 have tb:tyName s1 (.bl b)=some "bool":=rfl;simp[tb,subT,e2,n1,r3,n2]
section
variable {E:Nat->Prop} {n q m:Nat} {st:Sto}
theorem zmE{d:D}{a0 a2 a3 a4 a5 a7 a8:Option D}(h:Thg E st d):∃ b7 b8 st',zdD [a0,some (.ref n),a2,a3,a4,a5,some d,a7,a8] st=some (.nx [a0,some (.ref n),a2,a3,a4,a5,some d,b7,b8],st')/\Gr st st':=by
 obtain⟨z,hz⟩:=h.say;obtain⟨b,s1,e1,g1,hl⟩:=zmy h.fit;obtain⟨s3,e3,g3⟩:=hl s1 g1;exact⟨_,_,s3,zor (hz st (FrE.refl _ _)) e1 e3 (hz s3 (FrE.of (g1.trans g3))),g1.trans g3⟩
theorem zmC{l:Nat}{xs:List D}{a0 a2 a3 a5 a6 a7 a8:Option D}(hl:st[l]?=some (.lst xs))(h:∀ x∈xs,Thg E st x):∃ b6 b7 b8 st',mFor (mWA (mVar 4)) (gNm 6) (zdD) [a0,some (.ref n),a2,a3,some (.ref l),a5,a6,a7,a8] st=some (.nx [a0,some (.ref n),a2,a3,some (.ref l),a5,b6,b7,b8],st')/\Gr st st':=by
 have key:=zbL (W:=⟨xs,[(l,xs)]⟩) (g:=gNm 6) (m:=zdD) (ds:=xs) (ρ:=[a0,some (.ref n),a2,a3,some (.ref l),a5,a6,a7,a8]) (st:=st)
   (Inv:=fun i ρ s=>(∃ b6 b7 b8,ρ=[a0,some (.ref n),a2,a3,some (.ref l),a5,b6,b7,b8])/\Gr st s) ⟨⟨_,_,_,rfl⟩,Gr.refl st⟩ (fun i ρ s hi hI=>zb7 ((hI.2.old l (getElem?_lt hl)).trans hl)) (fun i d ρ s hd hI=>by
     obtain⟨⟨b6,b7,b8,rfl⟩,g⟩:=hI;obtain⟨c7,c8,s',e',g'⟩:=zmE (n:=n) (a0:=a0) (a2:=a2) (a3:=a3) (a4:=some (.ref l)) (a5:=a5) (a7:=b7) (a8:=b8) ((h d (A1 hd)).fr (FrE.of g));exact⟨[a0,some (.ref n),a2,a3,some (.ref l),a5,some d,b7,b8],s,_,s',rfl,e',⟨_,_,_,rfl⟩,g.trans g'⟩)
 obtain⟨ρ',s',el,⟨b6,b7,b8,rfl⟩,g⟩:=key;refine⟨b6,b7,b8,s',?_,g⟩;rw[zeb,zk6];simp only[zaM,Ac,Ag,Av,zhL,zba,hl,AD,zbZ];exact el
noncomputable def E3(n q l:Nat):Nat->Prop:=fun k=>k=n\/k=q\/k=l
theorem zmB{n l:Nat}{S d:D}{a0 a2 a5 a6 a7 a8:Option D}{xs:List D}{s s1 s2:Sto}(hl:s[l]?=some (.lst xs))(e:zbc [.ref n,S] s=some (d,s1))(ea:zbR (.ref l) [d] s1=some (.non,s2)):zeH [a0,some (.ref n),a2,some S,some (.ref l),a5,a6,a7,a8] s=some (.nx [a0,some (.ref n),a2,some S,some (.ref l),a5,a6,a7,a8],s2):=by
 unfold zeH;simp[zba,hl,e,ea]
theorem zkQ{l:Nat}{ps:List Pt}{xs:List D}{a0 a2 a5 a6 a7 a8:Option D}(h:PotS n q m st)(hm:m<=600000)(ok:∀ p∈ps,In6 p)(hne:ps≠[])(hpl:ps.length<=25)(hl:st[l]?=some (.lst xs))(h1:l≠n)(h2:l≠q)(hx:∀ x∈xs,Thg (E3 n q l) st x)(hxl:xs.length<=100) :
   ∃ b5 ys st',mFor (mR1 (mCon (.int 8))) (gNm 5) (zeH) [a0,some (.ref n),a2,some (.tup (ps.map prD)),some (.ref l),a5,a6,a7,a8] st=some (.nx [a0,some (.ref n),a2,some (.tup (ps.map prD)),some (.ref l),b5,a6,a7,a8],st')/\st'[l]?=some (.lst ys)/\(∀ y∈ys,Thg (E3 n q l) st' y)/\PotS n q (m+96) st':=by
 have key:=zbL (W:=⟨run 0 8,[]⟩) (g:=gNm 5) (m:=zeH) (ds:=run 0 8) (ρ:=[a0,some (.ref n),a2,some (.tup (ps.map prD)),some (.ref l),a5,a6,a7,a8]) (st:=st)
   (Inv:=fun i ρ s=>(∃ b5,ρ=[a0,some (.ref n),a2,some (.tup (ps.map prD)),some (.ref l),b5,a6,a7,a8])/\PotS n q (m+12*i) s/\∃ ys,s[l]?=some (.lst ys)/\(∀ y∈ys,Thg (E3 n q l) s y)/\ys.length<=100+i)
   ⟨⟨_,rfl⟩,h,xs,hl,hx,by omega⟩ (fun _ _ _ _ _=>rfl) (fun i d ρ s hd hI=>by
     obtain⟨⟨b5,rfl⟩,hp,ys,hys,hy,hyl⟩:=hI;have hi:i < 8:=by have:=getElem?_lt hd;rwa [zbK] at this
     have hb:∀ j,E3 n q l j->j < s.length:=by
       obtain⟨as,b,t,e1,e2,_⟩:=hp;rintro j (rfl | rfl | rfl)
       . exact getElem?_lt e1
       . exact getElem?_lt e2
       . exact getElem?_lt hys
     obtain⟨x,s1,e1,ht,p1,f1⟩:=zmA (E:=E3 n q l) (.inl rfl) (.inr (.inl rfl)) hb hp (by omega) ok hne hpl;have hl1:s1[l]?=some (.lst ys):=(f1.old l (getElem?_lt hys) h1 h2).trans hys;have ea:=append_at (x:=x) hl1 (by omega);have fs:FrE (E3 n q l) s1 (s1.set l (.lst (ys++[x]))):=⟨by rw[BO];exact Af _,fun k hk z=>by rw[Au (fun e=>z (.inr (.inr e.symm)))]⟩
     refine⟨[a0,some (.ref n),a2,some (.tup (ps.map prD)),some (.ref l),some d,a6,a7,a8],s,_,s1.set l (.lst (ys++[x])),rfl,zmB hys e1 ea,⟨_,rfl⟩,?_,ys++[x],by rw[AZ (getElem?_lt hl1)],fun y hy'=>?_,by rw[Aq,Bo];omega⟩
     . rw[show m+12*(i+1)=m+12*i+12 by omega];exact p1.set h1 h2
     . rcases List.mem_append.mp hy' with z | z
       . exact ((hy y z).fr (FrE.b (.inl rfl) (.inr (.inl rfl)) f1)).fr fs
       . rw[List.mem_singleton.mp z];exact ht.fr fs)
 obtain⟨ρ',s',el,⟨b5,rfl⟩,hp,ys,hys,hy,_⟩:=key;rw[zbK] at hp;exact⟨b5,ys,s',zfB (k:=8) (by simp) (by decide) el,hys,hy,hp⟩
theorem zol:fits 11=true:=zaK (by decide)
theorem zjF{s:Sto}:Spt E s (.tup [.int 1,.int 1]):=zcW (fun d hd=>by
 simp only[AM,AH,or_false] at hd
 rcases hd with rfl | rfl <;> exact zcs (b39 (by decide) (by decide))) (by simp)
theorem zfV{n l:Nat}{r:Int}{A B X:D}{a0 a2 a3 a4 a5 a6 a7 a8:Option D}{s s1 s2 s3 s4 s5:Sto}(e1:zaf [.ref n,.int 12] s=some (.int r,s1))(e2:zaw [.ref n,.int (1+r)] s1=some (A,s2))(e3:zaQ [.ref n] s2=some (B,s3))(hs:s3++[O.lst [A,B]]=s4)(hl:s3.length=l)(e5:zao [.ref n,.ref l] s4=some (X,s5)):mAsg (zat zao (zab (mVar 1) (zab (mLst (zab (zat zaw (zab (mVar 1) (zab (mBin addD (mCon (.int 1)) (zat zaf (zab (mVar 1) (zab (mCon (.int 12)) (mNil))))) (mNil)))) (zab (zat zaQ (zab (mVar 1) (mNil))) (mNil)))) (mNil)))) (gNm 3) [a0,some (.ref n),a2,a3,a4,a5,a6,a7,a8] s=some (.nx [a0,some (.ref n),a2,some X,a4,a5,a6,a7,a8],s5):=by
 subst hs;subst hl;simp[e1,e2,e3,e5]
theorem zld{a0 a2 a3 a4 a5 a6 a7 a8:Option D}(h:PotS n q m st)(hm:m<=500000):∃ b3 b4 b5 b6 b7 b8 st',zfK [a0,some (.ref n),a2,a3,a4,a5,a6,a7,a8] st=some (.nx [a0,some (.ref n),a2,b3,b4,b5,b6,b7,b8],st')/\PotS n q (m+200) st':=by
 obtain⟨r,s1,e1,r0,r1,p1,f1⟩:=zbJ (many:=12) h (by decide) (by decide) (by omega);obtain⟨N,hN⟩:∃ N:Nat,1+r=(N:Int)+1:=⟨r.toNat,by omega⟩
 obtain⟨A,s2,e2,okA,neA,lA,p2,f2⟩:=zkA (N:=N) p1 (by omega) (by omega);rw[<-hN] at e2;obtain⟨B,s3,e3,okB,neB,lB,p3,f3⟩:=zjZ p2 (by omega);obtain⟨nn3,nq3⟩:=p3.ne;have g4:=Gr.app s3 [.lst [.tup (A.map prD),.tup (B.map prD)]];have a4':=zaU s3 (.lst [.tup (A.map prD),.tup (B.map prD)]);have p4:=p3.gr g4;generalize hs4:s3++[O.lst [.tup (A.map prD),.tup (B.map prD)]]=s4 at g4 a4' p4;obtain⟨X,s5,hX,e5,p5,f5⟩:=of_ok p4 (by omega) a4' (A7 nn3) (A7 nq3) (by simp) (by simp);obtain⟨ps,rfl,ok,hne,hpl⟩:∃ ps:List Pt,X=.tup (ps.map prD)/\(∀ p∈ps,In6 p)/\ps≠[]/\ps.length<=25:=by
   simp only[AM,AH,or_false] at hX
   rcases hX with rfl | rfl
   . exact⟨A,rfl,okA,neA,by omega⟩
   . exact⟨B,rfl,okB,neB,lB⟩
 have st1:=zfV (a0:=a0) (a2:=a2) (a3:=a3) (a4:=a4) (a5:=a5) (a6:=a6) (a7:=a7) (a8:=a8) e1 e2 e3 hs4 rfl e5
 -- the things at hand
 obtain⟨nn5,nq5⟩:=p5.ne;have g6:=Gr.app s5 [.lst []];have a6':=zaU s5 (.lst []);have p6:=p5.gr g6;have l6:(s5++[O.lst []]).length=s5.length+1:=by simp
 generalize hs6:s5++[O.lst []]=s6 at g6 a6' p6 l6;obtain⟨nn6,nq6⟩:=p6.ne;have g7:=Gr.app s6 [.dk []];have a7':=zaU s6 (.dk []);have p7:=p6.gr g7;have l7:(s6++[O.dk []]).length=s6.length+1:=by simp
 generalize hs7:s6++[O.dk []]=s7 at g7 a7' p7 l7;obtain⟨nn7,nq7⟩:=p7.ne;generalize hxs:[D.tup (ps.map prD),.non,.tup [],.ref s5.length,.int 7,.str "",.tup [.int 1,.int 1],.tup [.tup [.int 1,.int 1]],.tup [.tup [.int 1,.int 1],.non],.bl true,.ref s6.length]=xs;have g8:=Gr.app s7 [.lst xs];have a8':=zaU s7 (.lst xs);have p8:=p7.gr g8;have ml:mAsg (mLst (zab (mVar 3) (zab (mCon .non) (zab (mTup (mNil)) (zab (mLst (mNil)) (zab (mCon (.int 7)) (zab (mCon (.str "")) (zab (mTup (zab (mCon (.int 1)) (zab (mCon (.int 1)) (mNil)))) (zab (mTup (zab (mTup (zab (mCon (.int 1)) (zab (mCon (.int 1)) (mNil)))) (mNil))) (zab (mTup (zab (mTup (zab (mCon (.int 1)) (zab (mCon (.int 1)) (mNil)))) (zab (mCon .non) (mNil)))) (zab (mCon (.bl true)) (zab (zmh false) (mNil))))))))))))) (gNm 4) [a0,some (.ref n),a2,some (.tup (ps.map prD)),a4,a5,a6,a7,a8] s5=some (.nx [a0,some (.ref n),a2,some (.tup (ps.map prD)),some (.ref s7.length),a5,a6,a7,a8],s7++[.lst xs]):=by
   subst hxs;clear hX st1 e5 hpl hne ok;subst hs7;subst hs6;simp[zol]
 generalize hs8:s7++[O.lst xs]=s8 at g8 a8' p8 ml;have b5:s8[s5.length]?=some (.lst []):=(g8.old _ (by omega)).trans ((g7.old _ (by omega)).trans a6');have b6:s8[s6.length]?=some (.dk []):=(g8.old _ (by omega)).trans a7';have n5:¬ E3 n q s7.length s5.length:=by
   rintro (z | z | z)
   . exact nn5 z.symm
   . exact nq5 z.symm
   . omega
 have n6:¬ E3 n q s7.length s6.length:=by
   rintro (z | z | z)
   . exact nn6 z.symm
   . exact nq6 z.symm
   . omega
 have hall:∀ x∈xs,Thg (E3 n q s7.length) s8 x:=by
   intro x hx;subst hxs;simp only[AM,AH,or_false] at hx
   rcases hx with rfl | rfl | rfl | rfl | rfl | rfl | rfl | rfl | rfl | rfl | rfl
   . exact zeh ok (fun d hd=>hd) (by rw[Aj];omega)
   . exact zkr.spt.thg
   . exact zcU (by simp) (by simp)
   . exact ziX b5 n5 trivial (by simp) (by simp)
   . exact (zcs (b39 (by decide) (by decide))).spt.thg
   . exact (zmj (by decide +kernel)).spt.thg
   . exact zjF.thg
   . exact zcU (fun d hd=>by rw[List.mem_singleton.mp hd];exact zjF) (by simp)
   . refine zcU (fun d hd=>?_) (by simp);simp only[AM,AH,or_false] at hd
     rcases hd with rfl | rfl
     . exact zjF
     . exact zkr.spt
   . exact (zoF _).spt.thg
   . exact⟨.dk _ _ b6 n6 trivial,znh b6 n6 trivial⟩
 have hxl:xs.length<=100:=by subst hxs;simp
 obtain⟨c5,ys,s9,e9,a9,hy,p9⟩:=zkQ (a0:=a0) (a2:=a2) (a5:=a5) (a6:=a6) (a7:=a7) (a8:=a8) p8 (by omega) ok hne hpl a8' (A7 nn7) (A7 nq7) hall hxl;obtain⟨c6,c7,c8,s10,e10,g10⟩:=zmC (n:=n) (a0:=a0) (a2:=a2) (a3:=some (.tup (ps.map prD))) (a5:=c5) (a6:=a6) (a7:=a7) (a8:=a8) a9 hy;refine⟨some (.tup (ps.map prD)),some (.ref s7.length),c5,c6,c7,c8,s10,?_,(p9.gr g10).up (by omega)⟩;unfold zfK;refine zaj st1 ?_;refine zaj ml ?_;refine zaj e9 ?_;exact e10
theorem zku(ns:List Int)(hl:ns.length<=63):∃ st,zkU [.kl (ns.map D.int)] []=some (.bl true,st):=by
 obtain⟨n,q,s1,e1,p1,g1⟩:=zhV (ns:=ns) [] hl;have key:=zbL (W:=⟨run 0 6,[]⟩) (g:=gNm 2) (m:=zfK) (ds:=run 0 6) (ρ:=[some (.kl (ns.map D.int)),some (.ref n),none,none,none,none,none,none,none]) (st:=s1)
   (Inv:=fun i ρ s=>(∃ x2 x3 x4 x5 x6 x7 x8,ρ=[some (.kl (ns.map D.int)),some (.ref n),x2,x3,x4,x5,x6,x7,x8])/\PotS n q (200*i) s) ⟨⟨_,_,_,_,_,_,_,rfl⟩,p1⟩ (fun _ _ _ _ _=>rfl) (fun i d ρ s hd hI=>by
     obtain⟨⟨x2,x3,x4,x5,x6,x7,x8,rfl⟩,p2⟩:=hI;have hi:i < 6:=by have:=getElem?_lt hd;rwa [zbK] at this
     obtain⟨b3,b4,b5,b6,b7,b8,s3,e3,p3⟩:=zld (a0:=some (.kl (ns.map D.int))) (a2:=some d) (a3:=x3) (a4:=x4) (a5:=x5) (a6:=x6) (a7:=x7) (a8:=x8) p2 (by omega);exact⟨[some (.kl (ns.map D.int)),some (.ref n),some d,x3,x4,x5,x6,x7,x8],s,_,s3,rfl,e3,⟨_,_,_,_,_,_,_,rfl⟩,by rw[show 200*(i+1)=200*i+200 by omega];exact p3⟩)
 obtain⟨ρ',s2,el,⟨x2,x3,x4,x5,x6,x7,x8,rfl⟩,p2⟩:=key;refine⟨s2,zck ?_⟩;show zoB [some (.kl (ns.map D.int)),none,none,none,none,none,none,none,none] []=_;unfold zoB;refine zaj (ρ1:=[some (.kl (ns.map D.int)),some (.ref n),none,none,none,none,none,none,none]) (s1:=s1) (by simp[e1]) ?_;refine zaj (ρ1:=[some (.kl (ns.map D.int)),some (.ref n),x2,x3,x4,x5,x6,x7,x8]) (s1:=s2) (zfB (k:=6) (by simp) (by decide) el) ?_;simp
end
end L2.MP.stickytiles_k52_shapes_or_not
namespace L2.MP.stickytiles_k52_shapes_or_not
open PySem L2 L2.MP PySem.Spec PyProof.Rows
theorem zm3{K:Ab}{H:Hp}{a:Addr}{ns:List Int}(hl:ns.length<=63)(hO:Only H)(hS:SqL K H a (ns.map V.int)):spM K 1 zkU [.ref a] H (fun v _=>v=.bl true) fun _ _ _=>False:=by
 obtain⟨st,e⟩:=zku ns hl;exact zjG hO hS e
theorem walk{l:DL}{q:Program}{loose:List Str}{XP:(Str->Option Value)->Heap->Prop}{YP:World->Heap->Prop}{d:DefRec}{K:Params->Ab}(hn:l.most=some 63)(hdf:d.params.defaults=[])
   (hY:∀ (w:World) (h:Heap),YP w h->(K w.params).In h)
   (F:∀ (w:World) (mg:Str->Option Value) (fa:Addr) (h:Heap),(K w.params).In h->h.Ns mainGlobals mg->mg d.name=some (.ref fa) ->
     ∃ fd:FuncData,(∀ (s:Shared) (u:Value),BindsTo s fd ⟨[u],[]⟩ [("_law_script",u)])/\∀ base:Heap,(K w.params).In base->base.Ns mainGlobals mg->FnOk l.prog w (K w.params) mg base CX0 4 fa fd ["_law_script"] (spM (K w.params) 1 zkU)) :
   Fx q loose XP YP l.row.toRowW d [] (fun f vs=>Fg f vs) :=
 L2.walk_of (n:=63) (k:=4) (x:="_law_script") (CX:=fun _=>CX0) (sp:=fun w=>spM (K w.params) 1 zkU) hn (by decide) hdf ⟨rfl,by decide,by decide,rfl⟩ hY F (fun _ _ a ns hl hO hS=>zm3 hl hO hS) fun _ _ _ _ _ z=>z
end L2.MP.stickytiles_k52_shapes_or_not
open PySem PySem.W PyProof.Rows
set_option maxRecDepth 100000 in
set_option maxHeartbeats 0 in
theorem PySem.Challenge.cw_stickytiles_k52_shapes_or_not_holds : PySem.Challenge.rw_stickytiles_k52_shapes_or_not.Holds := by
 w_on;o_law;k_head;(case hw=>w_witness2)
 k_fill
 refine L2.MP.stickytiles_k52_shapes_or_not.walk (l:=PySem.Challenge.rw_stickytiles_k52_shapes_or_not) rfl rfl (fun w h Y=>PySem.W.kIn_of Y) ?F
 case F =>
   intro w mg fa h KX G hmg;refine' L2.MP.stickytiles_k52_shapes_or_not.all_mk KX G hmg (L2.MP.zef ?a0 ?l0 ?c0 ?k0) (L2.MP.zef ?a1 ?l1 ?c1 ?k1) (L2.MP.zef ?a2 ?l2 ?c2 ?k2) (L2.MP.zef ?a3 ?l3 ?c3 ?k3) (L2.MP.zef ?a4 ?l4 ?c4 ?k4) (L2.MP.zef ?a5 ?l5 ?c5 ?k5) (L2.MP.zef ?a6 ?l6 ?c6 ?k6) (L2.MP.zef ?a7 ?l7 ?c7 ?k7) (L2.MP.zef ?a8 ?l8 ?c8 ?k8) (L2.MP.zef ?a9 ?l9 ?c9 ?k9) (L2.MP.zef ?a10 ?l10 ?c10 ?k10) (L2.MP.zef ?a11 ?l11 ?c11 ?k11) (L2.MP.zef ?a12 ?l12 ?c12 ?k12) (L2.MP.zef ?a13 ?l13 ?c13 ?k13) (L2.MP.zef ?a14 ?l14 ?c14 ?k14) (L2.MP.zef ?a15 ?l15 ?c15 ?k15) (L2.MP.zef ?a16 ?l16 ?c16 ?k16) (L2.MP.zef ?a17 ?l17 ?c17 ?k17) ?z0 ?z1 ?z2 ?z3 ?z4 ?z5 ?z6 ?z7 ?z8 ?z9 ?z10 ?z11 ?z12 ?z13 ?z14
   (case a0=>k_is);(case l0=>k_is);(case c0=>k_is);(case k0=>k_is)
   (case a1=>k_is);(case l1=>k_is);(case c1=>k_is);(case k1=>k_is)
   (case a2=>k_is);(case l2=>k_is);(case c2=>k_is);(case k2=>k_is)
   (case a3=>k_is);(case l3=>k_is);(case c3=>k_is);(case k3=>k_is)
   (case a4=>k_is);(case l4=>k_is);(case c4=>k_is);(case k4=>k_is)
   (case a5=>k_is);(case l5=>k_is);(case c5=>k_is);(case k5=>k_is)
   (case a6=>k_is);(case l6=>k_is);(case c6=>k_is);(case k6=>k_is)
   (case a7=>k_is);(case l7=>k_is);(case c7=>k_is);(case k7=>k_is)
   (case a8=>k_is);(case l8=>k_is);(case c8=>k_is);(case k8=>k_is)
   (case a9=>k_is);(case l9=>k_is);(case c9=>k_is);(case k9=>k_is)
   (case a10=>k_is);(case l10=>k_is);(case c10=>k_is);(case k10=>k_is)
   (case a11=>k_is);(case l11=>k_is);(case c11=>k_is);(case k11=>k_is)
   (case a12=>k_is);(case l12=>k_is);(case c12=>k_is);(case k12=>k_is)
   (case a13=>k_is);(case l13=>k_is);(case c13=>k_is);(case k13=>k_is)
   (case a14=>k_is);(case l14=>k_is);(case c14=>k_is);(case k14=>k_is)
   (case a15=>k_is);(case l15=>k_is);(case c15=>k_is);(case k15=>k_is)
   (case a16=>k_is);(case l16=>k_is);(case c16=>k_is);(case k16=>k_is)
   (case a17=>k_is);(case l17=>k_is);(case c17=>k_is);(case k17=>k_is)
   (case z0=>k_is);(case z1=>k_is);(case z2=>k_is);(case z3=>k_is);(case z4=>k_is);(case z5=>k_is);(case z6=>k_is);(case z7=>k_is);(case z8=>k_is);(case z9=>k_is);(case z10=>k_is);(case z11=>k_is);(case z12=>k_is);(case z13=>k_is);(case z14=>k_is)
