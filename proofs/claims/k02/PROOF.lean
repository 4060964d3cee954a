import PyProof.Rows.All
import Wide.All
import OpenK.AllK
import Wide.FinOn
import Lean
import PyProof.EqAt
import PyProof.EqKinds
import PyProof.TupleCall
import KE.KRevSl
import PyProof.AttrMissHeap
import KE.KDictOf
import PyProof.StrWalks
import PyProof.ListStr
import PyProof.EnumMake
import PyProof.Rows.Range3
import PyProof.Rows.StrIndexOr
import KE.KRevIter
import PyProof.SumWalk
import PyProof.ReprRoads
import PyProof.DictWalks
import PyProof.FitsBits
import PyProof.CallStr
import PyProof.Rows.FStr
import PyProof.Rows.StrNews
import KE.KIntText
import PyProof.Rows.MinMaxN
import PyProof.StrCalls
import KE.KDictList
import PyProof.RulesTry
import PyProof.Rows.RuleIs
import KE.KDictSum
import PyProof.DictTruth
import PyProof.MinMaxWalk
import PyProof.Rows.SetFrom
import PyProof.ListMulRoad
import PyProof.FactsAll.tuple_2
import PyProof.TupleOfStr
import PyProof.WalkInts
import PyProof.WalksMore
import PyProof.RowDictHeap
import KE.KItemsList
import PyProof.SetScanFacts
import PyProof.Draws
import PyProof.TupleKey
import PyProof.IsRules
import PyProof.FString5
import PyProof.StrLawsIn
import PyProof.Rows.StrLawsPart
import PyProof.StrLawsChain
import PyProof.Rows.StrIntSpec
import PyProof.StrLawsTight
import PyProof.Rows.ReprOcc
import PyProof.Rows.StrCut
import PyProof.Rows.StrCase
import PySem.Challenge.RW_stickytiles_k02_beds_or_not
set_option maxHeartbeats 8000000
set_option maxRecDepth 100000
open PySem renaming wpAny_bind→Aa,wpAny_pure→Ab,wpAny_newObj_type→AF,wpAny_call_entry→AG,wpAny_callSpecial?_slot→AO,wpAny_holding→AS,wpAny_setState_of→A2,mem_of_lookup→A6,wpAny_field→A8,wpAny_setField_rec→Bp,wpAny_setField→Br,codeAny_builtin→Bs,wpAny_ite_split→Bt,wpAny_seqItems→BA,wpAny_askSetting→BE,wpAny_mono→BG,wpAny_truthy_bool→BQ,wpAny_attempt→BW,plainId_quiet→BX,wpAny_typeOf→BZ,wpAny_typeNameOfWhole_itemiter→B0,wpAny_typeNameOfWhole_keyiter→B5,wpAny_getItem_str_slice→B6,wpAny_fieldsOf→Cb,wpAny_dictEntries→Cq,wpAny_rule→Cs,wpAny_setEntries_of→CF,wpAny_dictEpoch→CN,wpAny_pyIter_list→CS,wpAny_pyIter_slot→CV,codeAny_mono→CW,wpAny_notOrdered_dict→C0,builtinLookup_eq_fast→C1,wpAny_isInstance→C6,wpAny_passesOwn→Dg,post_val_or_str→Di,tupleKind_room_in1→Dl,wpAny_storeSet_of→DD,fits_of_scanBound→DE,wpAny_pyNext_list_item→DG,wpAny_isOneOf_itemiter→DK,evalPart_none→DM,wpAny_newList→DN,wpAny_forIn_list→DQ,wpAny_pyNext_list_end→DV,pushCells_keeps→D0,wpAny_updateSeq_pair→D4,typeLookup_type→D6,wpAny_newTuple→Ed,isSubtype_stop→Ee,wpAny_of_eq→Eg,wpAny_Call_Name_kw→Ej,wpAny_standAt→Eu,wpAny_handled→Ex,wpAny_onRaise→Ey,wpAny_sequenceKey→EC,typeIs_str→EK,wpAny_getItem_list_slice→EU,wpAny_pyNext_tuple_item→Fg,wpAny_Call_method0_late→Fj,wpAny_execs_nil→Fm,wpAny_specialOf→Fo,codeAny_of_tree→Fx,wpAny_pyNext_tuple_end→Fy,sizeLine_eq→Fz,wpAny_Slice→FC,wpAny_letGo→FH,wpAny_throw→FI,wpAny_isTrue_Compare1→FO,wpAny_isOneOf_keyiter→FV,isSubtype_type→FX,wpAny_runValue→FY,weight_type_call_type→FZ,wpAny_eqIsQuiet_tuple→F1,codeAny_call_builtin→Ga,evalArgs_none→Gg,wpAny_dictSet_pairs→Gi,seqIndex_neg→Gv,sub_AttributeError→GB,wpAny_assign_Name→GH,seqIndex_of→GU,wpAny_Name→G7,wpAny_call→G8,call_meets→G9,call→Hc
open Option renaming bind_some→Ac,map_some→Ag,isNone_none→El,isSome_map→EB,getD_some→EV,map_none→Fw,isSome_some→Gq,getD_none→GV,bind→HS
open PySem.Heap renaming get?_push_of_some→Ad,get?_push_size→Al,lt_size→Am,get?_update_self→A3,size_push→A4,SameBut→Be,ExtBut→Cg,get?_update_other→CQ
open PySem.W renaming Frag→Ae,fnOf→Ci,keepIn→Cv,codeIn→Du,methodObj→EA,cellsFrom_some→FA,KitAt→Gc,nsIn→Gw,kitx_list→GK,kitx_dict→GL,krv_range→GP,kat_kind→GX,kas_ask→Hk,krv_all→Hq,kitOne→Hu
open Nat renaming le_refl→Af,ne_of_lt→Ap,lt_of_lt_of_le→Ay,ne_of_gt→AJ,le_trans→AR,lt_irrefl→AX,zero_le→AY,le_succ→BM,le_add_right→BY,lt_succ_of_lt→B1,lt_of_le_of_lt→Cj,le_of_succ_le→Cp,le_of_lt→Cy,lt_trans→CA,sub_self→Do,succ_le_succ→DR,mod_lt→D7,add_le_add_left→Eb,isDigit_of_mem_toDigits→Er,le_of_lt_succ→EH,min_le_right→ET,lt_succ_self→EW,add_zero→EX,succ_pos→Fb,min_le_left→Hf,not_lt_zero→Hj,strongRecOn→Hs
open List renaming mem_cons_of_mem→Ah,length_map→Ai,mem_cons_self→Aj,getElem?_eq_getElem→Ak,map_cons→Ao,size_toArray→Aq,getD_eq_getElem?_getD→Ar,append_nil→As,append_assoc→Av,getElem?_append_left→Az,length_cons→AA,getElem?_map→AB,length_append→AE,getElem?_set_ne→AH,mem_cons→AI,not_mem_nil→AM,range→AV,mem_of_getElem?→AW,mem_append_right→A0,length_take→A1,map_map→A9,getElem?_append_right→Bb,pairwise_mergeSort→Bd,mergeSort_perm→Bg,lookup_cons→Bk,mem_append_left→Bw,find?_cons→Bx,all_cons→Bz,all_eq_true→BD,length_nil→BH,getElem_mem→BK,filterMap_cons→BU,eq_nil_of_length_eq_zero→B4,getElem?_cons_zero→B7,length_drop→B9,take_length→Cc,getElem?_set_self→Cf,mem_singleton→Ck,length_singleton→Cm,replicate→Cw,map_nil→Cz,toArray→CB,map_congr_left→CC,length_reverse→CD,getElem?_replicate→CG,getElem?_cons_succ→CI,any_cons→CJ,zip_cons_cons→CM,length_range→CT,length_replicate→CY,getElem?_toArray→CZ,getElem?_eq_none→C3,mem_of_mem_take→C7,getElem?_of_mem→C8,mem_of_mem_drop→C9,getElem?_range→Dc,length_erase_of_mem→Ds,forIn_nil→Dv,reverse_cons→DC,cons_append→DT,length_set→DZ,nil_append→D5,mem_erase_of_ne→D8,nodup_nil→Ec,map_id→Eh,length_eraseIdx_of_lt→Ez,getElem?_set→ED,nodup_append→EE,take_add_one→EF,getElem_take→EI,drop_eq_getElem_cons→EL,pairwise_iff_getElem→EM,getElem_inj→ER,filterMap_cons_some→Fc,of_mem_zip→Fn,forIn_cons→Fq,length_zip→Fu,map_append→Fv,drop_eq_nil_of_le→FE,filterMap_reverse→FL,length_pos_of_mem→FM,drop_zero→FP,countP_mono_left→FQ,mem_range→F0,map_drop→Gd,getElem_of_mem→Ge,take_succ_cons→Gj,drop_succ_cons→Gk,filterMap_map→Gu,all_nil→Gz,take_sublist→GJ,pairwise_map→GO,ext_getElem?→GR,countP_cons→GW,ext_getElem→GY,getElem_map→GZ,zipIdx_cons→G1,nodup_cons→He,zipIdx_nil→Ho,mem_append→Hr,lt_asymm→HA,all_map→HL,zip_map→HM
open Bool renaming and_eq_true→An,false_eq_true→Aw,true_and→Bc,false_ne_true→Bn,false_and→Bq,eq_iff_iff→BR,not_eq_true'→B2,and_false→Cd,not_true→CK,or_eq_true→Dh,not_false→Dz,and_true→DO,or_false→Hz,and_self→HD
open Array renaming length_toList→Au,getElem?_toList→AD,getElem?_eq_getElem→AU,getD_eq_getD_getElem?→BS,getElem?_eq_none→DL,toList_push→EG,getD→EN,all_eq_true'→GA,forIn_toList→GG,toList_map→G4,replicate→Ht,toList→HF
open Option.some renaming inj→Ax
open PySem.Value renaming ref→AC,none→AZ,type→Cr,bool→Dt,isStrOf_shape→D9,isStrOf→Es,str→Fk,int→Gn,builtin→HB,isInt→HP
open PySem.PyData renaming strOk→AK,eqv→Bm,canLay0→Ca,str→Ct,eqvAll→CL,canLayAll0→CU,depth→Dp,depthAll→Fs
open PySem.Obj renaming data_mapFields→AL,mapSeq→By,isFreed_of_fields→BB,cls_mapFields→B3,putSet→Dy,mapFields→DP
open PySem.NameKind renaming free→AN,cell→A7
open PySem.Heap.SameBut renaming update→AQ,refl→GQ
open PySem.Builtin.SmallTypes renaming nextOf→A5,ownedTupleIsFree→BO,ownedTupleHandOut→Dr
open Int renaming toNat_natCast→Ba,emod_nonneg→CO,emod_lt_of_pos→CP,le_of_lt→Dq,eq_ofNat_of_zero_le→DA,le_refl→DJ,le_trans→D3,le_antisymm→Hi,ofNat→Hy
open PySem.Str renaming ofString→Bf,empty→DW
open PySem.Around renaming under_plainId→Bi,under_plain→GF
open PyProof.Rows.F renaming plain_set_update_loop→Bj,entry_set_update_loop→BL
open PySem.Builtin.Slice renaming slicePlaces→Bl,sliceAdjust→BI,sliceApplied→Cn,sliceFields→EJ
open PySem.Txt renaming slice→Bo,stripChars→BP,upper→C5,slice_le→D2
open PySem.Builtin.Tuple renaming tupleExact→Bu,tupleItemsOf→Da
open PyProof.Rows renaming slot_tuple_getitem→Bv,callWith_type1→C4,slot_tupleiter_next→Df,Subscript_→DY,entry_tuple_getitem→Ea,assignInOrder_cons→Ei,args_tuple_getitem→Ek,listUpdate_at→Ew,digit_range→Fd,digits10_le→Fe,entry_list_sort→Ft,subscriptTail_builtinR→FD,seqEpoch_at→FG,getD_list→FN,slot_list_sort→FS,args_list_sort→FT,tail_any→F7,entry_tupleiter_next→F9,tupleItemsOf_→Gb,args_tupleiter_next→Gh,args_sorted1→Gx,assignInOrder_nil→GI,lt_int→G6
open PySem.Builtin.Str renaming occurrences→BC,tooLong→De,strSliceIndices→Em
open PySem.Paired renaming length→BF,snoc→HR
open PySem.PassesOwn renaming never→BJ
open PySem.Builtin.Dict_items renaming ownsTuple→BN,ownedTupleFields→Dw,ownedTupleIsFree→Dx,pairFromOwner→DS,newIterator→Hm,dictOf→HE
open Ne renaming symm→BV
open Or renaming inr→B8,inl→Co
open Prod.mk renaming inj→Cu
open PySem.Builtin.Dict renaming updateFrom→CH,showsAll→DX,addKeywords→EY,selfAndRest→EZ,pairItems→FJ
open List.Perm renaming refl→C2,cons→FW,nodup_iff→Gm,swap→Hv
open Array.Perm renaming refl→Dj
open PySem.Calls renaming call_function_entry→Dk,callWith_builtin→DH,Name_function_global→Et
open PySem.Heap.IsSliceOf renaming new→Dm
open List.Pairwise renaming nil→DB,imp→DF,and→GS
open PySem.F renaming plainAttrs_str→DI,args_tuple_add_2→ES,entry_tuple_add→Fh,slot_dict_items→Fi,slot_tuple_add→FB
open Sum renaming inl→DU,inr→EO
open ForInStep renaming yield→D1
open PySem.Builtin.Frozenset renaming updateFrom→Ef,newClass→HC,addrOf→HJ,sizeOf→HK,slot0→HN
open PySem.Builtin.List renaming listLengthHint→Eo,listExtendWith→Ep,listSameRef→E4
open Nat.succ renaming inj→E3
open PySem.Heap.DictOf renaming new→Fp
open PySem.W.Looks renaming of_pure→FR
open PySem.Heap.IsList renaming «at»→FU
open True renaming intro→F6
open PySem.W.KasFin renaming intro→F8
open PySem.Builtin.Int renaming intBits→Gf
open PySem.SeqAt.EqAt renaming int_int→Gs
open PySem.Heap.IsListIter renaming «at»→Gy
open PySem.pickOrder renaming go→GC
open PySem.Code renaming quiet_builtin→GD
open PySem.W.UpdF renaming head→GM
open PySem.Walks renaming list→Hg
open StateT renaming run_pure→Hl
open PySem.Expr renaming Call→Hw
open PySem.Fin renaming done→HG
open PySem.Flow renaming ret→HI
open Sum.inr renaming inj→HQ
open PySem.Moved renaming trans→HU
open PySem.W.KatTups renaming cons→HV,nil→HX
open PyProof.Rows.SortSt renaming mk'→HW
set_option Elab.async false
set_option linter.all false
noncomputable section
namespace L2
open PySem PySem.Spec PyProof.Rows
noncomputable abbrev Key:=Sum Int Str
def zpm:Key->Value->Bool
 | .inl k,v=>HP k v
 | .inr x,v=>Es x v
def keyH(w:World):Key->Int
 | .inl k=>hashInt k
 | .inr x=>hashStr w x
def zbF:∀ {k:Key} {v:Value},zpm k v=true->(∃ i t,k=DU i/\v=Gn i t)\/(∃ x t,k=EO x/\v=Fk x t)
 | .inl i,v,h=>by obtain⟨t,e⟩:=Value.isInt_shape (k:=i) (v:=v) h;exact .inl ⟨i,t,rfl,e⟩
 | .inr x,v,h=>by obtain⟨t,e⟩:=D9 (x:=x) (v:=v) h;exact .inr ⟨x,t,rfl,e⟩
def zlX(i:Int)(t:Tok):zpm (.inl i) (.int i t)=true:=by simp[zpm,HP]
def zlW(x:Str)(t:Tok):zpm (.inr x) (.str x t)=true:=by simp[zpm,Es]
def zs7(a b:Int):decide ((DU a:Key)=DU b)=(a==b):=by
 by_cases e:a=b
 . subst e;simp
 have h:¬ (DU a:Key)=DU b:=fun q=>e<|Sum.inl.inj q;rw[decide_eq_false h];exact (beq_eq_false_iff_ne.mpr e).symm
def zs4(a b:Str):decide ((EO a:Key)=EO b)=decide (a=b):=by
 by_cases e:a=b
 . subst e;simp
 have h:¬ (EO a:Key)=EO b:=fun q=>e<|HQ q;rw[decide_eq_false h,decide_eq_false e]
def zs6(a:Int)(b:Str):decide ((DU a:Key)=EO b)=false:=decide_eq_false fun q=>nomatch q
def zs5(a:Str)(b:Int):decide ((EO a:Key)=DU b)=false:=decide_eq_false fun q=>nomatch q
def zbm(prog:Program)(w:World):PySem.KeyKind prog w Key where
 is:=zpm
 hash:=keyH w
 inj:=fun v a b ha hb=>by
   rcases zbF ha with ⟨i,t,rfl,rfl⟩ | ⟨x,t,rfl,rfl⟩
   . rcases zbF hb with ⟨j,u,rfl,e⟩ | ⟨y,u,rfl,e⟩
     . injection e with e1 _;rw[e1]
     exact nomatch e
   . rcases zbF hb with ⟨j,u,rfl,e⟩ | ⟨y,u,rfl,e⟩
     . exact nomatch e
     injection e with e1 _;rw[e1]
 byValue:=fun k v h=>by rcases zbF h with ⟨i,t,rfl,rfl⟩ | ⟨x,t,rfl,rfl⟩ <;> rfl
 pyHash:=fun hv h=>by
   rcases zbF hv with ⟨i,t,rfl,rfl⟩ | ⟨x,t,rfl,rfl⟩
   . exact wpAny_pyHash_int h
   exact wpAny_pyHash_str h
 eqBool:=fun hu hv h=>by
   rcases zbF hu with ⟨i,t,rfl,rfl⟩ | ⟨x,t,rfl,rfl⟩
   . rcases zbF hv with ⟨j,u,rfl,rfl⟩ | ⟨y,u,rfl,rfl⟩
     . rw[zs7] at h;exact wpAny_eqBool_int h
     rw[zs6] at h;exact SeqAt.EqAt.int_str i t y u _ _ _ _ h
   . rcases zbF hv with ⟨j,u,rfl,rfl⟩ | ⟨y,u,rfl,rfl⟩
     . rw[zs5] at h;exact SeqAt.EqAt.str_int x t j u _ _ _ _ h
     rw[zs4] at h;exact wpAny_eqBool_str h
 «strs»:=fun k x t v h=>by
   rcases zbF h with ⟨i,u,rfl,e⟩ | ⟨y,u,rfl,e⟩
   . exact nomatch e
   . injection e with e1 _
     subst e1
     cases v <;> rfl
def ziM(prog:Program)(w:World)(i:Int)(t:Tok):(zbm prog w).is (.inl i) (.int i t)=true:=zlX i t
def ziL(prog:Program)(w:World)(x:Str)(t:Tok):(zbm prog w).is (.inr x) (.str x t)=true:=zlW x t
inductive V where
 | non | bl (b:Bool) | int (i:Int) | str (x:Str) | byt (b:Array UInt8) | flt (b:UInt64) | ref (a:Addr) | ty (n:String)
 deriving DecidableEq
def RelV:V->Value->Prop
 | .non,u=>u=AZ
 | .bl b,u=>u=Dt b
 | .int i,u=>∃ t,u=Gn i t
 | .str x,u=>∃ t,u=Fk x t
 | .byt b,u=>∃ t,u=Value.bytes b t
 | .flt b,u=>∃ t,u=Value.float b t
 | .ref a,u=>u=AC a
 | .ty n,u=>u=Cr n
noncomputable abbrev Vals:List V->List Value->Prop:=Paired RelV
variable {us:List Value}
def Vals.length{xs:List V}{us:List Value}(r:Vals xs us):xs.length=us.length:=BF r
def Vals.get:∀ {xs:List V} {us:List Value} {i:Nat} {x:V},Vals xs us->xs[i]?=some x->∃ u,us[i]?=some u/\RelV x u
 | _,_,_,_,.nil,e=>by simp at e
 | _,_,0,_,.cons r _,e=>by simp at e;subst e;exact⟨_,rfl,r⟩
 | _,_,i+1,x,.cons _ t,e=>by obtain⟨u,h1,h2⟩:=Vals.get (i:=i) (x:=x) t (by simpa using e);exact⟨u,by simpa using h1,h2⟩
variable {u:Value}
def Vals.set{x:V}{u:Value}(r:RelV x u):∀ {xs:List V} {us:List Value} (i:Nat),Vals xs us->Vals (xs.set i x) (us.set i u)
 | _,_,_,.nil=>.nil
 | _,_,0,.cons _ t=>.cons r t
 | _,_,i+1,.cons q t=>.cons q<|Vals.set r i t
def Vals.append:∀ {xs ys:List V} {us ws:List Value},Vals xs us->Vals ys ws->Vals (xs++ys) (us++ws)
 | _,_,_,_,.nil,s=>s
 | _,_,_,_,.cons r t,s=>.cons r<|Vals.append t s
def Vals.take:∀ {xs:List V} {us:List Value} (n:Nat),Vals xs us->Vals (xs.take n) (us.take n)
 | _,_,0,_=>.nil
 | _,_,_+1,.nil=>.nil
 | _,_,n+1,.cons r t=>.cons r<|Vals.take n t
def Vals.drop:∀ {xs:List V} {us:List Value} (n:Nat),Vals xs us->Vals (xs.drop n) (us.drop n)
 | _,_,0,r=>r
 | _,_,_+1,.nil=>.nil
 | _,_,n+1,.cons _ t=>Vals.drop n t
def RelO:Option V->Option Value->Prop
 | some v,some u=>RelV v u
 | none,none=>True
 | _,_=>False
variable {κ:Type}
def KV:List (κ×V)->List (κ×Value)->Prop:=Paired fun (p:κ×V) (q:κ×Value)=>p.1=q.1/\RelV p.2 q.2
def kV:Key->V
 | .inl i=>.int i
 | .inr x=>.str x
inductive HO where
  | lst (xs:List V)
  | tup (xs:List V)
  | dK (kvs:List (Key×V)) | dT (kvs:List (List Key×V))
  | set (S:Int->Bool) (n:Nat)
  | ins (C dx:Addr) (fs:List (Str×V))
  | own (x:Addr)
  | xd (fs:List (Str×V))
  | met (f x:Addr)
  | rng (lo hi:Int)
  | frz (o:Obj) (u:HO)
  | tbl (ps:Array Value)
  | ext (φ:Heap->Prop)
noncomputable abbrev Hp:=Addr->Option HO
def upd(H:Hp)(a:Addr)(o:HO):Hp:=fun b=>if b=a then some o else H b
variable {H:Hp}{a:Addr}{o:HO}
def zbP:upd H a o a=some o:=by unfold upd;rw[if_pos rfl]
variable {b:Addr}
def zaV(h:b≠a):upd H a o b=H b:=by unfold upd;rw[if_neg h]
def zsX{u:HO}(h:H a=some o)(h':H b=some u)(d:o≠u):a≠b:=by intro e;subst e;rw[h] at h';exact d<|Ax h'
def zaF(h:H a=some o)(h':H b=none):a≠b:=by intro e;subst e;rw[h] at h';cases h'
def zdJ(h:Heap)(a:Addr)(items:Array Value):Prop:=∃ o,h.get? a=some o/\o.cls=.type "tuple"/\o.dict=none/\∃ n,o.data=.seq items n
variable {h:Heap}{items:Array Value}
def zdJ.t(x:zdJ h a items):IsTup h a items:=let ⟨o,ho,hc,_,r⟩:=x;⟨o,ho,hc,r⟩
variable {h':Heap}
def zdJ.keeps(x:zdJ h a items)(hk:∀ b o,h.get? b=some o->h'.get? b=some o):zdJ h' a items:=let ⟨o,ho,r⟩:=x;⟨o,hk a o ho,r⟩
def zdJ.new(h:Heap)(items:Array Value):zdJ (h.push { cls:=.type "tuple",data:=.seq items }) h.objs.size items:=⟨_,Al _ rfl,rfl,rfl,0,rfl⟩
section
variable (P:Program) (w:World)
def zdN(H:Hp)(h:Heap)(a:Addr):HO->Prop
 | .lst xs=>xs.length<=sizeLine/\∃ (its:List Value) (n:Nat),Vals xs its/\h.get? a=some { cls:=.type "list",data:=.seq its.toArray n }
 | .tup xs=>xs.length<=sizeLine/\∃ its:List Value,Vals xs its/\zdJ h a its.toArray
 | .dK kvs=>kvs.length<=sizeLine/\(a==sysModules)=false/\∃ vs,KV kvs vs/\h.DictOf (zbm P w) a vs
 | .dT kvs=>kvs.length<=sizeLine/\(a==sysModules)=false/\∃ xs:List (List Key×Addr×Value),
     Paired (fun (p:List Key×V) (q:List Key×Addr×Value)=>p.1=q.1/\H q.2.1=some (.tup<|p.1.map kV)/\RelV p.2 q.2.2) kvs xs /\
     ∃ o es ep,h.get? a=some o/\o.ExactDict/\o.data=.dict es ep/\es.toList=xs.map (entryOfKey<|tupleKind<|zbm P w)/\(xs.map (·.1)).Nodup
 | .set S n=>h.SetOf (intKind P w) a S n
 | .ins C dx fs=>H dx=some (.own a)/\fs.length<=1000/\dx≠a/\h.get? a=some (PySem.W.instObj C dx) /\
     ∃ mA,h.Ns1 dx mA/\(∀ f,RelO (fs.lookup f) (mA f))/\PySem.Within mA (fs.map (·.1))
 | .own _=>∃ o,h.get? a=some o
 | .xd fs=>∃ mA,h.Ns1 a mA/\∀ f,RelO (fs.lookup f) (mA f)
 | .rng lo hi=>∃ t u v,h.get? a=some { cls:=.type "range",data:=.fields #[.int lo t,.int hi u,.int 1 v] }
 | .frz o u=>h.get? a=some o/\zdN H h a u
 | .tbl ps=>h.get? a=some { cls:=.none,data:=.fields ps }
 | .met f x=>h.get? a=some (EA (.ref f)<|.ref x)
 | .ext φ=>φ h/\(∃ o,h.get? a=some o)/\∀ h1 h2:Heap,φ h1->(∀ o,h1.get? a=some o->h2.get? a=some o)->φ h2
def HOk(H:Hp)(h:Heap):Prop:=∀ a o,H a=some o->zdN P w H h a o
end
variable {P:Program}{w:World}{H':Hp}{α:Type}
def zdN.lt(x:zdN P w H h a o):a < h.objs.size:=by
 cases o with
 | lst xs=>obtain⟨_,_,_,_,e⟩:=x;exact Am e
 | tup xs=>obtain⟨_,_,_,p⟩:=x;exact p.t.lt
 | dK kvs=>obtain⟨_,_,_,_,o,_,_,e,_⟩:=x;exact Am e
 | dT kvs=>obtain⟨_,_,_,_,o,_,_,e,_⟩:=x;exact Am e
 | set S n=>obtain⟨o,_,_,_,e,_⟩:=x;exact Am e
 | ins C dx fs=>obtain⟨_,_,_,e,_⟩:=x;exact Am e
 | own y=>obtain⟨_,e⟩:=x;exact Am e
 | xd fs=>obtain⟨_,⟨_,_,_,e,_⟩,_⟩:=x;exact Am e
 | rng lo hi=>obtain⟨_,_,_,e⟩:=x;exact Am e
 | frz ob u=>obtain⟨e,_⟩:=x;exact Am e
 | tbl ps=>exact Am (show h.get? a=some _ from x)
 | met f y=>exact Am (show h.get? a=some _ from x)
 | ext φ=>obtain⟨_,⟨_,e⟩,_⟩:=x;exact Am e
def Paired.mapP{α β:Type}{F G:α->β->Prop}:∀ {l₁:List α} {l₂:List β},Paired F l₁ l₂->(∀ a b,F a b->G a b)->Paired G l₁ l₂
 | _,_,.nil,_=>.nil
 | _,_,.cons r t,f=>.cons (f _ _ r)<|Paired.mapP t f
def zdN.stay(x:zdN P w H h a o)(k:∀ b u,(b=a\/H b=some (.own a))->h.get? b=some u->h'.get? b=some u)
   (ho:∀ b,H b=some (.own a)->H' b=some (.own a)) (ht:∀ b xs,H b=some (.tup xs)->H' b=some (.tup xs)):zdN P w H' h' a o:=by
 induction o with
 | lst xs=>obtain⟨z,its,n,r,e⟩:=x;exact⟨z,its,n,r,k _ _ (.inl rfl) e⟩
 | tup xs=>obtain⟨z,its,r,ob,e,c⟩:=x;exact⟨z,its,r,ob,k _ _ (.inl rfl) e,c⟩
 | dK kvs=>obtain⟨z,y,vs,r,ob,es,ep,e,c⟩:=x;exact⟨z,y,vs,r,ob,es,ep,k _ _ (.inl rfl) e,c⟩
 | dT kvs =>
   obtain⟨z,y,xs,r,ob,es,ep,e,c⟩:=x;exact⟨z,y,xs,Paired.mapP r fun p q z=>⟨z.1,ht _ _ z.2.1,z.2.2⟩,ob,es,ep,k _ _ (.inl rfl) e,c⟩
 | set S n=>obtain⟨ob,es,ep,t,e,c⟩:=x;exact⟨ob,es,ep,t,k _ _ (.inl rfl) e,c⟩
 | ins C dx fs =>
   obtain⟨d,z,ne,e,mA,⟨od,es,ep,e2,c⟩,r⟩:=x;exact⟨ho _ d,z,ne,k _ _ (.inl rfl) e,mA,⟨od,es,ep,k _ _ (.inr d) e2,c⟩,r⟩
 | own y=>obtain⟨ob,e⟩:=x;exact⟨ob,k _ _ (.inl rfl) e⟩
 | xd fs=>obtain⟨mA,⟨od,es,ep,e,c⟩,r⟩:=x;exact⟨mA,⟨od,es,ep,k _ _ (.inl rfl) e,c⟩,r⟩
 | rng lo hi=>obtain⟨t,u,v,e⟩:=x;exact⟨t,u,v,k _ _ (.inl rfl) e⟩
 | frz ob u ih=>obtain⟨e,q⟩:=x;exact⟨k _ _ (.inl rfl) e,ih q⟩
 | tbl ps =>
   have e:h.get? a=some { cls:=.none,data:=.fields ps }:=x;show h'.get? a=some { cls:=.none,data:=.fields ps };exact k a _ (.inl rfl) e
 | met f y =>
   have e:h.get? a=some (EA (.ref f)<|.ref y):=x;show h'.get? a=some (EA (.ref f)<|.ref y);exact k a _ (.inl rfl) e
 | ext φ=>obtain⟨p,⟨o,e⟩,st⟩:=x;exact⟨st _ _ p fun o q=>k _ _ (.inl rfl) q,⟨o,k _ _ (.inl rfl) e⟩,st⟩
def HOk.lt(x:HOk P w H h)(e:H a=some o):a < h.objs.size:=(x a o e).lt
def HOk.fresh(x:HOk P w H h)(e:h.objs.size<=a):H a=none:=by
 cases q:H a with
 | none=>rfl
 | some u=>exact absurd (Ay (x.lt q) e)<|AX _
def HOk.kept(x:HOk P w H h)(k:∀ b u,h.get? b=some u->h'.get? b=some u):HOk P w H h':=fun a o e =>
 (x a o e).stay (fun b u _ q=>k b u q) (fun _ q=>q) fun _ _ q=>q
def HOk.laid(x:HOk P w H h)(k:∀ b u,h.get? b=some u->h'.get? b=some u)(hp:h.objs.size<=a)(new:zdN P w (upd H a o) h' a o):HOk P w (upd H a o) h':=fun b u e=>by
 have hn:=x.fresh hp
 by_cases hb:b=a
 . subst hb;rw[zbP] at e;cases e;exact new
 rw[zaV hb] at e;exact (x b u e).stay (fun c v _ q=>k c v q) (fun c q=>by rw[zaV (zaF q hn)];exact q) fun c xs q=>by rw[zaV (zaF q hn)];exact q
def Rd(H:Hp)(a:Addr)(u:HO):Prop:=H a=some u\/∃ o,H a=some (.frz o u)
def Rd.ok{u:HO}(r:Rd H a u)(x:HOk P w H h):zdN P w H h a u:=by
 rcases r with r | ⟨o,r⟩
 . exact x a u r
 obtain⟨_,q⟩:=x a _ r;exact q
def Mut:Option HO->Prop
 | some (.lst _)=>True
 | some (.dK _)=>True
 | some (.dT _)=>True
 | some (.set _ _)=>True
 | some (.ins _ _ _)=>True
 | some (.ext _)=>True
 | _=>False
section
variable {x e:Addr} {o':HO}
def HOk.write(ok:HOk P w H h)(mu:Mut (H x))(he:e=x\/H e=some (.own x))(k:∀ b u,b≠e->h.get? b=some u->h'.get? b=some u)(heo:∃ u,h'.get? e=some u)
   (new:zdN P w (upd H x o') h' x o'):HOk P w (upd H x o') h':=fun b u q=>by
 have nown:∀ c y,H c=some (.own y)->c≠x:=fun c y r z=>by subst z;rw[r] at mu;exact mu
 have ntup:∀ c xs,H c=some (.tup xs)->c≠x:=fun c xs r z=>by subst z;rw[r] at mu;exact mu
 by_cases hb:b=x
 . subst hb;rw[zbP] at q;cases q;exact new
 . rw[zaV hb] at q
   by_cases hbe:b=e
   . have q':H b=some (.own x):=by
       rcases he with z | z
       . exact absurd (hbe.trans z) hb
       rw[hbe];exact z
     rw[q] at q';cases q';obtain⟨v,hv⟩:=heo;exact⟨v,by rw[hbe];exact hv⟩
   . refine (ok b u q).stay (fun c v hc r=>k c v ?_ r) (fun c r=>by rw[zaV (nown c b r)];exact r) fun c xs r=>by rw[zaV (ntup c xs r)];exact r
     rcases hc with rfl | hc
     . exact hbe
     . rintro rfl
       rcases he with z | z
       . exact nown c b hc z
       rw[hc] at z;cases z;exact hb rfl
end
structure Un(fs ex:List Addr)(H H':Hp)(h h':Heap):Prop where
 keep:∀ b o,h.get? b=some o->H b=none->b ∉ fs->b ∉ ex->h'.get? b=some o
 slot:∀ b o,h.get? b=some o->H b=none->b∈fs->b ∉ ex->∃ sl,h'.get? b=some { o with slots:=sl }
 free:∀ b o,h.get? b=some o->H b=none->b ∉ ex->H' b=none
 there:∀ b o,h.get? b=some o->b ∉ ex->∃ o',h'.get? b=some o'
 tups:∀ b xs,H b=some (.tup xs)->H' b=some (.tup xs)
 frzs:∀ b o u,H b=some (.frz o u)->H' b=some (.frz o u)
 tbls:∀ b ps,H b=some (.tbl ps)->∃ more,H' b=some (.tbl (ps++more))
section
variable {fs fs' ex ex':List Addr} {H1 H2:Hp} {h1 h2:Heap} {x e:Addr}
def Un.any(u:Un fs ex H H1 h h1){ob:Obj}(q:h.get? b=some ob)(n:H b=none)(hx:b ∉ ex):∃ sl,h1.get? b=some { ob with slots:=sl }:=by
 by_cases hb:b∈fs
 . exact u.slot b ob q n hb hx
 exact⟨ob.slots,u.keep b ob q n hb hx⟩
def Un.kept(k:∀ b u,h.get? b=some u->h'.get? b=some u):Un fs ex H H h h' :=
 ⟨fun b ob q _ _ _=>k b ob q,fun b ob q _ _ _=>⟨ob.slots,k b ob q⟩,fun _ _ _ n _=>n,fun b ob q _=>⟨ob,k b ob q⟩,fun _ _ q=>q,fun _ _ _ q=>q,fun _ ps q=>⟨#[],by rw[q];simp⟩⟩
def Un.refl:Un fs ex H H h h:=Un.kept fun _ _ q=>q
def Un.laid(k:∀ b u,h.get? b=some u->h'.get? b=some u)(hp:h.objs.size<=a)(hn:H a=none):Un fs ex H (upd H a o) h h' where
 keep:=fun b u q _ _ _=>k b u q
 slot:=fun b u q _ _ _=>⟨u.slots,k b u q⟩
 free:=fun b u q n _=>by rw[zaV (Ap<|Ay (Am q) hp)];exact n
 there:=fun b u q _=>⟨u,k b u q⟩
 tups:=fun b xs q=>by rw[zaV (zaF q hn)];exact q
 frzs:=fun b u xs q=>by rw[zaV (zaF q hn)];exact q
 tbls:=fun b ps q=>⟨#[],by rw[zaV (zaF q hn),q];simp⟩
def Un.write(mu:Mut (H x))(he:e=x\/H e=some (.own x))(k:∀ b u,b≠e->h.get? b=some u->h'.get? b=some u)(heo:∃ u,h'.get? e=some u):Un fs ex H (upd H x o) h h':=by
 have hx:∀ b,H b=none->b≠x:=fun b n z=>by subst z;rw[n] at mu;exact mu
 have hb:∀ b,H b=none->b≠e:=fun b n z=>by
   subst z
   rcases he with r | r
   . exact hx b n r
   rw[n] at r;cases r
 have hm:∀ b u,H b=some u->¬ Mut (some u)->b≠x:=fun b u q nm z=>by subst z;rw[q] at mu;exact nm mu
 refine⟨fun b u q n _ _=>k b u (hb b n) q,fun b u q n _ _=>⟨u.slots,k b u (hb b n) q⟩,fun b u q n _=>by rw[zaV (hx b n)];exact n,fun b u q _=>?_,
   fun b xs q=>by rw[zaV (hm b _ q fun z=>z)];exact q,fun b u xs q=>by rw[zaV (hm b _ q fun z=>z)];exact q,fun b ps q=>⟨#[],by rw[zaV (hm b _ q fun z=>z),q];simp⟩⟩
 by_cases hbe:b=e
 . subst hbe;exact heo
 exact⟨u,k b u hbe q⟩
end
def trk(h:Heap)(H:Hp):List Addr:=(AV h.objs.size).filter fun a=>(H a).isSome
def hidT(h:Heap)(H:Hp):Heap:=PySem.W.hideAll h<|trk h H
def zl3(h:Heap)(H:Hp):(hidT h H).objs.size=h.objs.size:=PySem.W.hideAll_size _ _
def zoH{o:Obj}(e:h.get? b=some o)(n:H b=none):(hidT h H).get? b=some o :=
 PySem.W.hideAll_get _ e fun hm=>by have q:(H b).isSome=true:=(List.mem_filter.mp hm).2;rw[n] at q;simp at q
def zqR{o:Obj}(e:(hidT h H).get? b=some o):h.get? b=some o/\H b=none:=by
 have e':h.get? b=some o:=PySem.W.of_hideAll (trk h H) e;refine⟨e',?_⟩
 cases q:H b with
 | none=>rfl
 | some x =>
   have hm:b∈trk h H:=List.mem_filter.mpr ⟨List.mem_range.mpr<|Am e',by simp[q]⟩;have z:(hidT h H).get? b=none:=PySem.W.hideAll_none (trk h H) hm;rw[z] at e;cases e
def zfe(g h:Heap)(L:Addr):List (Addr×Obj):=(AV h.objs.size).filterMap fun a=>if a=L\/(g.get? a).isSome=true then none else (h.get? a).map fun o=>(a,o)
variable {g:Heap}{L:Addr}
def zd3{o:Obj}(h1:a≠L)(h2:g.get? a=none)(h3:h.get? a=some o):(a,o)∈zfe g h L :=
 List.mem_filterMap.mpr ⟨a,List.mem_range.mpr<|Am h3,by simp[h1,h2,h3]⟩
def zf3{p:Addr×Obj}(hp:p∈zfe g h L):p.1≠L/\g.get? p.1=none/\h.get? p.1=some p.2:=by
 obtain⟨b,_,e⟩:=List.mem_filterMap.mp hp
 split at e
 . cases e
 . rename_i hn
   cases q:h.get? b with
   | none=>rw[q] at e;simp at e
   | some u =>
     rw[q] at e;simp only[Ag,Option.some.injEq] at e;subst e;refine⟨fun z=>hn (.inl z),?_,q⟩;show g.get? b=none
     cases r:g.get? b with
     | none=>rfl
     | some v=>exact (hn<|.inr<|by simp[r]).elim
def zhr:News g L h (zfe g h L):=fun p hp=>let ⟨a,b,c⟩:=zf3 hp;⟨c,a,b⟩
structure Mod(K:Ae)(mg:Str->Option Value)(base:Heap):Prop where
 kin:K.In base
 glob:base.Ns mainGlobals mg
 blt:∃ mb,base.Ns builtinsNs mb/\∀ x:Str,x≠"__name__"->mb x=bootBuiltins x
 nolimit:base.NoLimit
structure Cx where
 prog:Program
 w:World
 K:Ae
 mg:Str->Option Value
 base:Heap
 A:Around
 N:List Str
 s₀:Shared
 H₀:Hp
 env:Env
 outer:List Env
 stack:List Env
 ex:List Addr
 fn:Str->Bool
 calm:Bool
 pn:List (Addr×Obj)
 xe:Value->Shared->Prop
def frs(l:List Env):List Addr:=l.filterMap (·.frame)
noncomputable abbrev Cx.fs (X:Cx):List Addr:=frs X.outer
def Vis(sc:Scope)(x:Str):Prop:=sc.names.lookup x=some .local\/sc.names.lookup x=some .cell\/sc.names.lookup x=some .free
def Loc(sc:Scope)(x:Str):Prop:=sc.names.lookup x=some .local\/sc.names.lookup x=some .cell
def Look(env:Env)(h:Heap)(m:Str->Option Value)(x:Str)(u:Value):Prop :=
 (env.kindOf x=some .local/\m x=some u)\/((env.kindOf x=some .cell\/env.kindOf x=some .free)/\∃ c,env.cells.lookup x=some c/\h.IsCell c (some u))
structure Cx.Ok(X:Cx):Prop where
 mod:Mod X.K X.mg X.base
 kind:X.env.scope.kind=.function
 glob:X.env.globals=mainGlobals
 blt:X.env.builtins=builtinsNs
 above:X.s₀.heap.objs.size<=X.env.locals
 inj:∀ x y c,X.env.cells.lookup x=some c->X.env.cells.lookup y=some c->x=y
 has:∀ x,(X.env.kindOf x=some .cell\/X.env.kindOf x=some .free)->∃ c,X.env.cells.lookup x=some c
 cab:∀ x c,X.fn x=true->X.env.cells.lookup x=some c->X.s₀.heap.objs.size<=c
 hd:X.calm=true->X.A.handled=none
 frames:X.A.frames=some X.stack
 stk:X.stack=X.outer\/(X.stack=X.env::X.outer/\X.env.frame=some X.env.locals)
 exf:∀ b∈X.ex,b≠X.env.locals/\∀ x c,X.env.cells.lookup x=some c->c≠b
 bs:∀ b o,X.base.get? b=some o->X.s₀.heap.get? b=some o/\X.H₀ b=none
 bsz:X.base.objs.size<=X.s₀.heap.objs.size
 noex:∀ b o,X.base.get? b=some o->b ∉ X.ex
 exfs:∀ b∈X.ex,b ∉ X.fs
 funs:X.s₀.heap.FunFrames X.base X.outer
 frf:∀ b∈X.fs,X.H₀ b=none
structure Inv(X:Cx)(pins:List (Addr×Obj))(M:List (Option V))(H:Hp)(s:Shared):Prop where
 ok:X.Ok
 os:s.os=X.s₀.os
 bare:AllBare s.gens
 base:Un X.fs X.ex X.H₀ H X.s₀.heap s.heap
 loc:∃ m,s.heap.Ns X.env.locals m/\∀ (i:Nat) (x:Str) (v:V),X.N[i]?=some x->M[i]?=some (some v)->Vis X.env.scope x->∃ u,RelV v u/\Look X.env s.heap m x u
 cell:∀ x c,X.env.cells.lookup x=some c->∃ v,s.heap.IsCell c v
 free:H X.env.locals=none
 freeC:∀ x c,X.env.cells.lookup x=some c->H c=none
 pin:∀ p∈X.pn++pins,s.heap.get? p.1=some p.2/\H p.1=none/\p.1≠X.env.locals/\p.1 ∉ X.fs/\∀ v,p.2.data≠.cell v
 hok:HOk X.prog X.w H s.heap
 len:M.length=X.N.length
variable {x:Str}{X:Cx}{pins:List (Addr×Obj)}{s s':Shared}{g':Array GenState}{t' i j:Nat}{d':Drawn}{ch:List Addr}{N:List Str}{Mq:Model}{A:Around}{E:Value->Shared->Prop}{v:V}
section
variable {M:List (Option V)}
def Cx.Ok.nofr(ok:X.Ok){o:Obj}(e:X.base.get? b=some o):b ∉ X.fs:=fun hb=>by have:=(ok.funs.mem hb).1;rw[e] at this;cases this
def Inv.bs(I:Inv X pins M H s):∀ b o,X.base.get? b=some o->s.heap.get? b=some o/\H b=none:=fun b o e =>
 ⟨I.base.keep b o (I.ok.bs b o e).1 (I.ok.bs b o e).2 (I.ok.nofr e)<|I.ok.noex b o e,I.base.free b o (I.ok.bs b o e).1 (I.ok.bs b o e).2<|I.ok.noex b o e⟩
def Inv.bk(I:Inv X pins M H s):∀ b o,X.base.get? b=some o->s.heap.get? b=some o:=fun b o e=>(I.bs b o e).1
def Inv.mod(I:Inv X pins M H s):Mod X.K X.mg X.base:=I.ok.mod
def Inv.kIn(I:Inv X pins M H s):X.K.In s.heap:=I.ok.mod.kin.keeps I.bk
def Inv.fr(I:Inv X pins M H s):∃ m,Fr X.base X.env.locals s.heap m :=
 let ⟨m,hn,_⟩:=I.loc
 ⟨m,hn,I.bk,AR I.ok.bsz I.ok.above⟩
def Inv.lt(I:Inv X pins M H s):X.env.locals < s.heap.objs.size:=let ⟨_,hn,_⟩:=I.loc;hn.lt
def Inv.sz(I:Inv X pins M H s):X.s₀.heap.objs.size<=s.heap.objs.size:=AR I.ok.above<|Cy I.lt
def Inv.nofs(I:Inv X pins M H s)(h:s.heap.objs.size<=a):a ∉ X.fs:=fun hb=>by obtain⟨_,o,ho,_⟩:=I.ok.funs.mem hb;exact absurd (Ay (Am ho)<|AR I.sz h)<|AX _
def Inv.cne(I:Inv X pins M H s):∀ x c,X.env.cells.lookup x=some c->c≠X.env.locals:=fun x c e z=>by obtain⟨v,o,ho,hd⟩:=I.cell x c e;obtain⟨m,⟨o',es,ep,ho',hd',_⟩,_⟩:=I.loc;rw[z,ho'] at ho;cases ho;rw[hd'] at hd;cases hd
def Inv.funs(I:Inv X pins M H s):s.heap.FunFrames X.base X.outer:=by
 have all:∀ (l:List Env),(∀ b∈frs l,b∈X.fs)->X.s₀.heap.FunFrames X.base l->s.heap.FunFrames X.base l:=by
   intro l
   induction l with
   | nil=>intro _ _;trivial
   | cons env r ih =>
     intro hs hl;obtain⟨hk,⟨L,o,hf,hn,ho,hd⟩,hr⟩:=hl;have hL:L∈X.fs:=hs L (by unfold frs;rw[BU,hf];exact Aj);obtain⟨sl,e⟩:=I.base.slot L o ho (I.ok.frf L hL) hL fun z=>I.ok.exfs L z hL;exact⟨hk,⟨L,_,hf,hn,e,hd⟩,ih (fun b hb=>hs b (by unfold frs;rw[BU,hf];exact Ah _ hb)) hr⟩
 exact all X.outer (fun _ hb=>hb) I.ok.funs
def Inv.stack(I:Inv X pins M H s):s.heap.FunFrames X.base X.stack:=by
 rcases I.ok.stk with e | ⟨e,hf⟩
 . rw[e];exact I.funs
 rw[e];obtain⟨m,hn,_⟩:=I.loc;refine .cons (by rw[I.ok.kind];decide) hf hn ?_ I.funs;exact Heap.get?_none_of_le<|AR I.ok.bsz I.ok.above
def Inv.stkSub(I:Inv X pins M H s):∀ b∈frs X.stack,b∈X.env.locals::X.fs:=fun b hb=>by
 rcases I.ok.stk with e | ⟨e,hf⟩
 . rw[e] at hb;exact Ah _ hb
 rw[e] at hb;unfold frs at hb;rw[BU,hf] at hb;exact hb
def Inv.stkFree(I:Inv X pins M H s):∀ b∈frs X.stack,H b=none:=fun b hb=>by
 rcases List.mem_cons.mp (I.stkSub b hb) with e | hb
 . rw[e];exact I.free
 obtain⟨_,o,ho,_⟩:=I.ok.funs.mem hb;exact I.base.free b o ho (I.ok.frf b hb) fun z=>I.ok.exfs b z hb
def Inv.step{ch:List Addr}(I:Inv X pins M H s)
   (hch:∀ b∈ch,(b∈X.ex\/X.s₀.heap.objs.size<=b)/\b≠X.env.locals/\(∀ x c,X.env.cells.lookup x=some c->c≠b)/\∀ p∈X.pn++pins,p.1≠b)
   (keep:∀ b o,b≠X.env.locals->b ∉ X.fs->b ∉ ch->s.heap.get? b=some o->H b=none->h'.get? b=some o)
   (slot:∀ b o,b≠X.env.locals->b∈X.fs->b ∉ ch->s.heap.get? b=some o->H b=none->∃ sl,h'.get? b=some { o with slots:=sl }) (free:∀ b o,b ∉ ch->s.heap.get? b=some o->H b=none->H' b=none)
   (there:∀ b o,b ∉ ch->s.heap.get? b=some o->∃ o',h'.get? b=some o')
   (tups:∀ b xs,H b=some (.tup xs)->H' b=some (.tup xs)) (frzs:∀ b o u,H b=some (.frz o u)->H' b=some (.frz o u)) (tbls:∀ b ps,H b=some (.tbl ps)->∃ more,H' b=some (.tbl<|ps++more))
   (ns:∀ m,s.heap.Ns X.env.locals m->h'.Ns X.env.locals m) (hok:HOk X.prog X.w H' h') (hg:AllBare g') :
   Inv X pins M H' { s with heap:=h',gens:=g',drawn:=d',toks:=t' }:=by
 have neL:∀ b o,X.s₀.heap.get? b=some o->b≠X.env.locals:=fun b o e=>Ap<|Ay (Am e) I.ok.above;have neC:∀ b o,X.s₀.heap.get? b=some o->b ∉ X.ex->b ∉ ch:=fun b o e hx hb=>by
   rcases (hch b hb).1 with z | z
   . exact hx z
   exact absurd (Ay (Am e) z)<|AX _
 have cellK:∀ x c,X.env.cells.lookup x=some c->∀ v,s.heap.IsCell c v->h'.IsCell c v:=by
   rintro x c e v ⟨o,ho,hd⟩;have nch:c ∉ ch:=fun z=>(hch c z).2.2.1 x c e rfl
   by_cases hc:c∈X.fs
   . obtain⟨sl,q⟩:=slot c o (I.cne x c e) hc nch ho<|I.freeC x c e;exact⟨_,q,hd⟩
   exact⟨o,keep c o (I.cne x c e) hc nch ho<|I.freeC x c e,hd⟩
 refine⟨I.ok,I.os,hg,⟨fun b o e n hb hx=>?_,fun b o e n hb hx=>?_,fun b o e n hx=>?_,fun b o e hx=>?_,fun b xs e=>tups b xs (I.base.tups b xs e),fun b o xs e=>frzs b o xs (I.base.frzs b o xs e),fun b ps e=>?_⟩,?_,fun x c e=>?_,?_,fun x c e=>?_,fun p hp=>?_,hok,I.len⟩
 . exact keep b o (neL b o e) hb (neC b o e hx) (I.base.keep b o e n hb hx)<|I.base.free b o e n hx
 . obtain⟨sl,e1⟩:=I.base.slot b o e n hb hx;obtain⟨sl',e2⟩:=slot b _ (neL b o e) hb (neC b o e hx) e1<|I.base.free b o e n hx;exact⟨sl',e2⟩
 . obtain⟨o',e1⟩:=I.base.there b o e hx;exact free b o' (neC b o e hx) e1<|I.base.free b o e n hx
 . obtain⟨o',e1⟩:=I.base.there b o e hx;exact there b o' (neC b o e hx) e1
 . obtain⟨m1,e1⟩:=I.base.tbls b ps e;obtain⟨m2,e2⟩:=tbls b _ e1;exact⟨m1++m2,by rw[e2,Array.append_assoc]⟩
 . obtain⟨m,hn,hl⟩:=I.loc;refine⟨m,ns m hn,fun i x v e1 e2 e3=>?_⟩;obtain⟨u,r,l⟩:=hl i x v e1 e2 e3;refine⟨u,r,?_⟩
   rcases l with l | ⟨k,c,e,z⟩
   . exact .inl l
   exact .inr ⟨k,c,e,cellK x c e _ z⟩
 . obtain⟨v,z⟩:=I.cell x c e;exact⟨v,cellK x c e v z⟩
 . obtain⟨m,⟨o,_,_,ho,_⟩,_⟩:=I.loc;exact free _ o (fun z=>(hch _ z).2.1 rfl) ho I.free
 . obtain⟨v,o,ho,hd⟩:=I.cell x c e;exact free c o (fun z=>(hch c z).2.2.1 x c e rfl) ho<|I.freeC x c e
 obtain⟨e,n,ne,nf,d⟩:=I.pin p hp;have nch:p.1 ∉ ch:=fun z=>(hch p.1 z).2.2.2 p hp rfl;exact⟨keep p.1 p.2 ne nf nch e n,free p.1 p.2 nch e n,ne,nf,d⟩
def Inv.un(I:Inv X pins M H s)(u:Un X.fs [] H H' s.heap h')(hok:HOk X.prog X.w H' h'):Inv X pins M H' { s with heap:=h',toks:=t' }:=by
 obtain⟨m,⟨o,es,ep,ho,r⟩,_⟩:=id I.loc;obtain⟨sl,hL⟩:=u.any ho I.free (by simp);exact I.step (g':=s.gens) (d':=s.drawn) (ch:=[]) (fun _ z=>nomatch z) (fun b o _ hb _ e n=>u.keep b o e n hb (by simp)) (fun b o _ hb _ e n=>u.slot b o e n hb (by simp)) (fun b o _ e n=>u.free b o e n (by simp)) (fun b o _ e=>u.there b o e (by simp)) u.tups u.frzs u.tbls (fun m' hm=>by obtain⟨o',es',ep',ho',r'⟩:=hm;rw[ho] at ho';cases ho';exact⟨_,es',ep',hL,r'⟩) hok I.bare
def Inv.call{ch:List Addr}(I:Inv X pins M H s)(u:Un (frs X.stack) ch H H' s.heap h')(hok:HOk X.prog X.w H' h')(hg:AllBare g')
   (hch:∀ b∈ch,(b∈X.ex\/X.s₀.heap.objs.size<=b)/\b≠X.env.locals/\(∀ x c,X.env.cells.lookup x=some c->c≠b)/\∀ p∈X.pn++pins,p.1≠b) :
   Inv X pins M H' { s with heap:=h',gens:=g',drawn:=d',toks:=t' }:=by
 obtain⟨m,⟨o,es,ep,ho,r⟩,_⟩:=id I.loc;obtain⟨sl,hL⟩:=u.any ho I.free fun z=>(hch _ z).2.1 rfl;exact I.step (ch:=ch) hch (fun b o hL hb hc e n=>u.keep b o e n (fun z=>(List.mem_cons.mp<|I.stkSub b z).elim hL hb) hc) (fun b o _ _ hc e n=>u.any e n hc) (fun b o hc e n=>u.free b o e n hc) (fun b o hc e=>u.there b o e hc) u.tups u.frzs u.tbls (fun m' hm=>by obtain⟨o',es',ep',ho',r'⟩:=hm;rw[ho] at ho';cases ho';exact⟨_,es',ep',hL,r'⟩) hok hg
def Inv.turned{it:Addr}(I:Inv X pins M H s)(k:∀ b o,b≠it->s.heap.get? b=some o->h'.get? b=some o)(hn:H it=none)(hL:it≠X.env.locals)
   (h1:it∈X.ex\/X.s₀.heap.objs.size<=it) (h2:∀ x c,X.env.cells.lookup x=some c->c≠it) (h3:∀ p∈X.pn++pins,p.1≠it):Inv X pins M H { s with heap:=h',toks:=t' }:=by
 have nit:∀ b u,H b=some u->b≠it:=fun b u e z=>by rw[z,hn] at e;cases e
 refine I.step (g':=s.gens) (d':=s.drawn) (ch:=[it]) (fun b hb=>?_) (fun b o _ _ hc e _=>k b o (fun z=>hc (by simp[z])) e) (fun b o _ _ hc e _=>⟨o.slots,k b o (fun z=>hc (by simp[z])) e⟩) (fun _ _ _ _ n=>n)
   (fun b o hc e=>⟨o,k b o (fun z=>hc (by simp[z])) e⟩) (fun _ _ e=>e) (fun _ _ _ e=>e) (fun b ps e=>⟨#[],by rw[e];simp⟩) (fun m hm=>?_) (fun b u e=>?_) I.bare
 . have e:b=it:=by simpa using hb
   subst e;exact⟨h1,hL,h2,h3⟩
 . obtain⟨o,es,ep,ho,r⟩:=hm;exact⟨o,es,ep,k _ o (BV hL) ho,r⟩
 . refine (I.hok b u e).stay (fun c v hc q=>k c v ?_ q) (fun _ q=>q) fun _ _ q=>q
   rcases hc with z | z
   . rw[z];exact nit b u e
   exact nit c _ z
def Inv.tok(I:Inv X pins M H s)(t:Nat):Inv X pins M H { s with toks:=t }:=I.un (h':=s.heap) (t':=t) Un.refl I.hok
def Inv.kept{t':Nat}(I:Inv X pins M H s)(k:∀ b u,s.heap.get? b=some u->h'.get? b=some u):Inv X pins M H { s with heap:=h',toks:=t' }:=I.un (Un.kept k)<|I.hok.kept k
def Inv.laid{a:Addr}{o:HO}{t':Nat}(I:Inv X pins M H s)(k:∀ b u,s.heap.get? b=some u->h'.get? b=some u)(hp:s.heap.objs.size<=a)(new:zdN X.prog X.w (upd H a o) h' a o) :
   Inv X pins M (upd H a o) { s with heap:=h',toks:=t' }:=I.un (Un.laid k hp<|I.hok.fresh hp) (I.hok.laid k hp new)
def Inv.write{x e:Addr}{o:HO}{t':Nat}(I:Inv X pins M H s)(mu:Mut (H x))(he:e=x\/H e=some (.own x))(k:∀ b u,b≠e->s.heap.get? b=some u->h'.get? b=some u)(heo:∃ u,h'.get? e=some u)
   (new:zdN X.prog X.w (upd H x o) h' x o):Inv X pins M (upd H x o) { s with heap:=h',toks:=t' }:=I.un (Un.write mu he k heo) (I.hok.write mu he k heo new)
def Inv.pins_of{pins':List (Addr×Obj)}(I:Inv X pins M H s)(h:∀ p∈pins',s.heap.get? p.1=some p.2/\H p.1=none/\p.1≠X.env.locals/\p.1 ∉ X.fs/\∀ v,p.2.data≠.cell v):Inv X pins' M H s :=
 ⟨I.ok,I.os,I.bare,I.base,I.loc,I.cell,I.free,I.freeC,fun p hp=>(List.mem_append.mp hp).elim (fun z=>I.pin p (Bw _ z)) (h p),I.hok,I.len⟩
def zjW(hN:N.Nodup)(a:N[i]?=some x)(b:N[j]?=some x):i=j:=by obtain⟨h1,e1⟩:=List.getElem?_eq_some_iff.mp a;obtain⟨h2,e2⟩:=List.getElem?_eq_some_iff.mp b;exact (ER hN).mp<|e1.trans e2.symm
def zhO{Q:Unit->Shared->Prop}(I:Inv X pins M H s)(hN:X.N.Nodup)(hi:X.N[i]?=some x)(hx:Loc X.env.scope x)(r:RelV v u)
   (h:∀ s',Inv X pins (M.set i<|some v) H s'->(∃ a,Be a s.heap s'.heap/\(a=X.env.locals\/X.env.cells.lookup x=some a))->Q () s') (hf:X.fn x=true\/X.env.scope.names.lookup x=some .local:=by first | exact .inl rfl | exact .inr rfl | assumption):wpAny Mq A (storeName X.env x u) Q E s:=by
 obtain⟨m,hn,hl⟩:=id I.loc;have hcls:(X.env.scope.kind==.class || (X.env.scope.kind==.module&&X.env.locals != X.env.globals))=false:=by rw[I.ok.kind];rfl
 have hiM:i < M.length:=by rw[I.len];exact (List.getElem?_eq_some_iff.mp hi).1
 have cne:=I.cne;have tracked:∀ {a:Addr} {h':Heap},(∃ o,s.heap.get? a=some o/\H a=none)->Be a s.heap h'->HOk X.prog X.w H h':=fun {a h'} ha hs b ob e=>by
   obtain⟨_,_,hfree⟩:=ha;refine (I.hok b ob e).stay (fun c w' hc q=>(hs.2 c ?_).trans q) (fun _ q=>q) fun _ _ q=>q;rintro rfl
   rcases hc with rfl | hc
   . rw[hfree] at e;cases e
   rw[hfree] at hc;cases hc
 rcases hx with hk | hk
 . refine wpAny_storeName_local hk hn (fun h' hn' hs=>?_) hcls;obtain⟨oL,_,_,hoL,_⟩:=id hn;refine h _ ⟨I.ok,I.os,I.bare,⟨fun b o e n hb hx=>?_,fun b o e n hb hx=>?_,I.base.free,fun b o e hx=>?_,I.base.tups,I.base.frzs,I.base.tbls⟩,⟨_,hn',fun j y v' e1 e2 e3=>?_⟩,fun y c e=>?_,I.free,I.freeC,fun p hp=>?_,tracked ⟨oL,hoL,I.free⟩ hs,by simpa using I.len⟩ ⟨_,hs,.inl rfl⟩
   . exact (hs.2 b<|Ap<|Ay (Am e) I.ok.above).trans<|I.base.keep b o e n hb hx
   . obtain⟨sl,e1⟩:=I.base.slot b o e n hb hx;exact⟨sl,(hs.2 b<|Ap<|Ay (Am e) I.ok.above).trans e1⟩
   . obtain⟨o',e1⟩:=I.base.there b o e hx;exact⟨o',(hs.2 b<|Ap<|Ay (Am e) I.ok.above).trans e1⟩
   . by_cases hj:j=i
     . subst hj;rw[hi] at e1;cases e1;rw[Cf hiM] at e2;cases e2;exact⟨u,r,.inl ⟨hk,by simp⟩⟩
     . rw[AH (BV hj)] at e2;obtain⟨u',r',q⟩:=hl j y v' e1 e2 e3;refine⟨u',r',?_⟩
       rcases q with ⟨k,e⟩ | ⟨k,c,e,z⟩
       . refine .inl ⟨k,?_⟩;have:y≠x:=fun e=>hj<|zjW hN e1<|e ▸ hi;simp[this,e]
       exact .inr ⟨k,c,e,z.sameBut hs<|cne y c e⟩
   . obtain⟨w',z⟩:=I.cell y c e;exact⟨w',z.sameBut hs<|cne y c e⟩
   obtain⟨e,n,ne,nf,d⟩:=I.pin p hp;exact⟨(hs.2 p.1 ne).trans e,n,ne,nf,d⟩
 . have hfn:X.fn x=true:=by
     rcases hf with z | z
     . exact z
     rw[z] at hk;cases hk
   obtain⟨c,hc⟩:=I.ok.has x<|.inl hk;obtain⟨w',z⟩:=I.cell x c hc;refine wpAny_storeName_cell I.ok.kind hk hc z fun h' hc' hs=>?_;obtain⟨oc,hoc,hocd⟩:=id z;refine h { s with heap:=h' } ⟨I.ok,I.os,I.bare,⟨fun b o e n hb hx=>?_,fun b o e n hb hx=>?_,I.base.free,fun b o e hx=>?_,I.base.tups,I.base.frzs,I.base.tbls⟩,⟨m,hn.sameBut hs<|BV<|cne x c hc,fun j y v' e1 e2 e3=>?_⟩,fun y c' e=>?_,I.free,I.freeC,fun p hp=>?_,tracked ⟨oc,hoc,I.freeC x c hc⟩ hs,by simpa using I.len⟩ ⟨c,hs,.inr hc⟩
   . exact (hs.2 b<|Ap<|Ay (Am e)<|I.ok.cab x c hfn hc).trans<|I.base.keep b o e n hb hx
   . obtain⟨sl,e1⟩:=I.base.slot b o e n hb hx;exact⟨sl,(hs.2 b<|Ap<|Ay (Am e)<|I.ok.cab x c hfn hc).trans e1⟩
   . obtain⟨o',e1⟩:=I.base.there b o e hx;exact⟨o',(hs.2 b<|Ap<|Ay (Am e)<|I.ok.cab x c hfn hc).trans e1⟩
   . by_cases hj:j=i
     . subst hj;rw[hi] at e1;cases e1;rw[Cf hiM] at e2;cases e2;exact⟨u,r,.inr ⟨.inl hk,c,hc,hc'⟩⟩
     . rw[AH (BV hj)] at e2;obtain⟨u',r',q⟩:=hl j y v' e1 e2 e3;refine⟨u',r',?_⟩
       rcases q with q | ⟨k,c',e,z'⟩
       . exact .inl q
       refine .inr ⟨k,c',e,z'.sameBut hs ?_⟩;rintro rfl;exact hj<|zjW hN e1<|I.ok.inj _ _ _ e hc ▸ hi
   . by_cases hcc:c'=c
     . subst hcc;exact⟨_,hc'⟩
     obtain⟨w2,z2⟩:=I.cell y c' e;exact⟨w2,z2.sameBut hs hcc⟩
   obtain⟨e,n,ne,nf,d⟩:=I.pin p hp;refine⟨(hs.2 p.1 ?_).trans e,n,ne,nf,d⟩;intro q;rw[q,hoc] at e;have q':oc=p.2:=Ax e;exact d w' (by rw[<-q'];exact hocd)
def zfK{Q:Unit->Shared->Prop}(I:Inv X pins M H s)(hN:X.N.Nodup)(hi:X.N[i]?=some x)(hx:Loc X.env.scope x)(r:RelV v u)
   (h:∀ s',Inv X pins (M.set i<|some v) H s'->Q () s') (hf:X.fn x=true\/X.env.scope.names.lookup x=some .local:=by first | exact .inl rfl | exact .inr rfl | assumption):wpAny Mq A (storeName X.env x u) Q E s :=
 zhO I hN hi hx r (fun s' I' _=>h s' I') hf
def Inv.call'{ch:List Addr}(I:Inv X pins M H s)(ho:s'.os=s.os)(u:Un (frs X.stack) ch H H' s.heap s'.heap)(hok:HOk X.prog X.w H' s'.heap)(hg:AllBare s'.gens)
   (hch:∀ b∈ch,(b∈X.ex\/X.s₀.heap.objs.size<=b)/\b≠X.env.locals/\(∀ x c,X.env.cells.lookup x=some c->c≠b)/\∀ p∈X.pn++pins,p.1≠b):Inv X pins M H' s':=by
 obtain⟨h',g',d',t',o'⟩:=s';have e:o'=s.os:=ho;subst e;exact I.call (g':=g') (t':=t') (d':=d') u hok hg hch
end
noncomputable abbrev XK:=Value->Option Addr->Hp->Prop
noncomputable abbrev St:=List (Option V)
noncomputable abbrev VK:=V->Hp->Prop
noncomputable abbrev TE:=St->Hp->VK->Prop
noncomputable abbrev TT:=St->Hp->(Bool->Hp->Prop)->Prop
noncomputable abbrev TA:=St->Hp->(List V->Hp->Prop)->Prop
structure Ends where
 nx:St->Hp->Prop
 rt:VK
 bk:St->Hp->Prop:=fun _ _=>False
 ct:St->Hp->Prop:=fun _ _=>False
noncomputable abbrev TS:=Ends->St->Hp->Prop
def EP(X:Cx)(pins:List (Addr×Obj))(M:St)(Q:VK)(u:Value)(s':Shared):Prop:=∃ v H',Inv X pins M H' s'/\RelV v u/\Q v H'
def TP(X:Cx)(pins:List (Addr×Obj))(M:St)(Q:Bool->Hp->Prop)(b:Bool)(s':Shared):Prop:=∃ H',Inv X pins M H' s'/\Q b H'
def AP(X:Cx)(pins:List (Addr×Obj))(M:St)(Q:List V->Hp->Prop)(us:List Value)(s':Shared):Prop:=∃ vs H',Inv X pins M H' s'/\Vals vs us/\Q vs H'
def SP(X:Cx)(pins:List (Addr×Obj))(D:Ends)(f:Flow)(s':Shared):Prop :=
 match f with
 | .next=>∃ M' H',Inv X pins M' H' s'/\D.nx M' H'
 | .brk=>∃ M' H',Inv X pins M' H' s'/\D.bk M' H'
 | .cont=>∃ M' H',Inv X pins M' H' s'/\D.ct M' H'
 | .ret u=>∃ v M' H',Inv X pins M' H' s'/\RelV v u/\D.rt v H'
def PE(X:Cx)(e:Expr)(t:TE):Prop :=
 ∀ (pins:List (Addr×Obj)) (s:Shared) (M:St) (H:Hp) (Q:VK),Inv X pins M H s->t M H Q->wpAny (model X.prog X.w) X.A (eval e X.env) (EP X pins M Q) X.xe s
def PT(X:Cx)(e:Expr)(t:TT):Prop :=
 ∀ (pins:List (Addr×Obj)) (s:Shared) (M:St) (H:Hp) (Q:Bool->Hp->Prop),Inv X pins M H s->t M H Q->wpAny (model X.prog X.w) X.A (isTrue e X.env<|eval e X.env) (TP X pins M Q) X.xe s
def PW(X:Cx)(e:Expr)(t:TT):Prop :=
 ∀ (whole:Sem Value) (pins:List (Addr×Obj)) (s:Shared) (M:St) (H:Hp) (Q:Bool->Hp->Prop),Inv X pins M H s->t M H Q->wpAny (model X.prog X.w) X.A (isTrue e X.env whole) (TP X pins M Q) X.xe s
variable {e:Expr}
def PW.pt{t:TT}(h:PW X e t):PT X e t:=h _
def PA(X:Cx)(es:List Expr)(t:TA):Prop :=
 ∀ (pos:Pos) (pins:List (Addr×Obj)) (s:Shared) (M:St) (H:Hp) (Q:List V->Hp->Prop),Inv X pins M H s->t M H Q->wpAny (model X.prog X.w) X.A (spliced<|backTo pos<|starEach es X.env) (AP X pins M Q) X.xe s
def PS(X:Cx)(st:Stmt)(t:TS):Prop :=
 ∀ (pins:List (Addr×Obj)) (s:Shared) (M:St) (H:Hp) (D:Ends),Inv X pins M H s->t D M H->wpAny (model X.prog X.w) X.A (exec st X.env) (SP X pins D) X.xe s
def PSs(X:Cx)(st:List Stmt)(t:TS):Prop :=
 ∀ (pins:List (Addr×Obj)) (s:Shared) (M:St) (H:Hp) (D:Ends),Inv X pins M H s->t D M H->wpAny (model X.prog X.w) X.A (execs st X.env) (SP X pins D) X.xe s
def thn{t:Sem α}{Q Q':α->Shared->Prop}{s:Shared}(h:wpAny Mq A t Q E s)(hQ:∀ a s,Q a s->Q' a s):wpAny Mq A t Q' E s:=BG h hQ fun _ _ x=>x
variable {M:St}{Q:Value->Shared->Prop}{pos:Pos}{ta tb:TE}{op:CmpOp}{c:Expr}
section
def tVar(i:Nat):TE:=fun M H Q=>∃ v,M[i]?=some (some v)/\Q v H
def tC(v:V):TE:=fun _ H Q=>Q v H
def zqx(hN:X.N[i]?=some x)(hv:Vis X.env.scope x)(hd:(x==("__debug__":Str))=false:=by decide)(hcd:(x==("__classdict__":Str))=false:=by decide):PE X (.Name x pos) (tVar i):=by
 intro pins s M H Q I h;obtain⟨v,e,h⟩:=h;obtain⟨m,hn,hl⟩:=I.loc;obtain⟨u,r,l⟩:=hl i x v hN e hv;have fin:EP X pins M Q u s:=⟨v,H,I,r,h⟩
 rcases l with ⟨hk,hm⟩ | ⟨hk,c,hc,hcell⟩
 . exact G7 (wpAny_loadName_local I.ok.kind hk hn hm fin) hd
 . rcases hk with hk | hk
   . exact G7 (wpAny_loadName_cell I.ok.kind hk hc hcell fin) hd
   exact G7 (wpAny_loadName_free I.ok.kind hk hc hcell fin hcd) hd
def zsG{i j pos}:PE X (.Constant (.int i) j pos) (tC<|.int i):=fun _ _ _ H _ I h=>wpAny_Constant_int ⟨.int i,H,I.tok _,⟨_,rfl⟩,h⟩
def zua{b j pos}:PE X (.Constant (.bool b) j pos) (tC<|.bl b):=fun _ _ _ H _ I h=>Constant_bool ⟨.bl b,H,I,rfl,h⟩
def zsE{j pos}:PE X (.Constant .none j pos) (tC .non):=fun _ _ _ H _ I h=>Constant_none ⟨.non,H,I,rfl,h⟩
def zsB{x j pos}:PE X (.Constant (.str x) j pos) (tC<|.str x):=fun _ _ _ H _ I h=>Calls.Constant_str ⟨.str x,H,I.tok _,⟨_,rfl⟩,h⟩
def Gl(X:Cx)(x:Str):Prop:=X.env.kindOf x=some .globalImplicit
def zmU(I:Inv X pins M H s)(hg:Gl X x)(hm:X.mg x=some u)(h:Q u s)
   (hd:(x==("__debug__":Str))=false:=by decide):wpAny (model X.prog X.w) X.A (eval (.Name x pos) X.env) Q E s :=
 Et I.ok.kind hg (Calls.loadGlobal_global (by rw[I.ok.glob];exact I.mod.glob.keeps I.bk) hm h) hd
def zkg(I:Inv X pins M H s)(hg:Gl X x)(hm:X.mg x=none)(hv:bootBuiltins x=some u)(h:Q u s)
   (hn:x≠"__name__":=by decide) (hd:(x==("__debug__":Str))=false:=by decide):wpAny (model X.prog X.w) X.A (eval (.Name x pos) X.env) Q E s:=by
 obtain⟨mb,h1,h2⟩:=I.mod.blt;exact Et I.ok.kind hg (Calls.loadGlobal_builtin (by rw[I.ok.glob];exact I.mod.glob.keeps I.bk) hm (by rw[I.ok.blt];exact h1.keeps I.bk) ((h2 x hn).trans hv) h) hd
def zqB(hg:Gl X x)(hm:X.mg x=some u)(r:RelV v u)(hd:(x==("__debug__":Str))=false:=by decide):PE X (.Name x pos) (tC v) :=
 fun _ _ _ H _ I h=>zmU I hg hm ⟨v,H,I,r,h⟩ hd
def zqF(hg:Gl X x)(hm:X.mg x=none)(hv:bootBuiltins x=some u)(r:RelV v u)(hn:x≠"__name__":=by decide)(hd:(x==("__debug__":Str))=false:=by decide):PE X (.Name x pos) (tC v) :=
 fun _ _ _ H _ I h=>zkg I hg hm hv ⟨v,H,I,r,h⟩ hn hd
variable {a b:Expr}
def PC(X:Cx)(op:CmpOp)(a b:Expr)(t:TE):Prop :=
 ∀ (pins:List (Addr×Obj)) (s:Shared) (M:St) (H:Hp) (Q:VK),Inv X pins M H s->t M H Q ->
   wpAny (model X.prog X.w) X.A (eval a X.env) (fun v s₁=>wpAny (model X.prog X.w) X.A (eval b X.env) (fun u s₂=>wpAny (model X.prog X.w) X.A (compareOp op v u) (EP X pins M Q) X.xe s₂) X.xe s₁) X.xe s
def tB(t:TE):TT:=fun M H Q=>t M H fun x H1=>∃ c,x=.bl c/\Q c H1
def zsH{t:TE}(h:PC X op a b t)(h1:behindInMarks op b=false:=by first | exact nobehind _ (by decide) (by decide) | rfl):PE X (.Compare a [op] [b] pos) t:=fun pins s M H Q I hw=>wpAny_Compare1 (h pins s M H Q I hw) h1
def zso{t:TE}(h:PC X op a b t)(h1:behindInMarks op b=false:=by first | exact nobehind _ (by decide) (by decide) | rfl):PT X (.Compare a [op] [b] pos) (tB t):=by intro pins s M H Q I hw;refine FO (thn (h pins s M H _ I hw) fun v s1 h1=>thn h1 fun u s2 h2=>thn h2 ?_) h1;rintro c s3 ⟨x,H1,I1,r1,q1⟩;obtain⟨d,rfl,q⟩:=q1;cases r1;exact BQ ⟨H1,I1,q⟩
variable {tA tB':TT} {rest:List Expr}
def tAnd(t u:TT):TT:=fun M H Q=>t M H fun c H1=>if c=true then u M H1 Q else Q false H1
def tOr(t u:TT):TT:=fun M H Q=>t M H fun c H1=>if c=true then Q true H1 else u M H1 Q
def tNot(t:TT):TT:=fun M H Q=>t M H fun c H1=>Q (!c) H1
def pw_and1(ha:PT X a tA):PW X (.BoolOp .And [a] pos) tA:=by
 intro wh pins s M H Q I h;refine isTrue_and<|thn (ha pins s M H Q I h) fun c s1 e=>?_
 cases c with
 | true=>exact isTrue_and_nil e
 | false=>exact e
def pw_or1(ha:PT X a tA):PW X (.BoolOp .Or [a] pos) tA:=by
 intro wh pins s M H Q I h;refine isTrue_or<|thn (ha pins s M H Q I h) fun c s1 e=>?_
 cases c with
 | false=>exact isTrue_or_nil e
 | true=>exact e
def pw_and(ha:PT X a tA)(hb:PW X (.BoolOp .And (b::rest) pos) tB'):PW X (.BoolOp .And (a::b::rest) pos) (tAnd tA tB'):=by
 intro wh pins s M H Q I h;refine isTrue_and<|thn (ha pins s M H _ I h) ?_;rintro c s1 ⟨H1,I1,q1⟩
 cases c with
 | true=>exact hb wh pins s1 M H1 Q I1 q1
 | false=>exact⟨H1,I1,q1⟩
def pw_or(ha:PT X a tA)(hb:PW X (.BoolOp .Or (b::rest) pos) tB'):PW X (.BoolOp .Or (a::b::rest) pos) (tOr tA tB'):=by
 intro wh pins s M H Q I h;refine isTrue_or<|thn (ha pins s M H _ I h) ?_;rintro c s1 ⟨H1,I1,q1⟩
 cases c with
 | true=>exact⟨H1,I1,q1⟩
 | false=>exact hb wh pins s1 M H1 Q I1 q1
def zsn(ha:PT X a tA):PT X (.UnaryOp .Not a pos) (tNot tA):=by intro pins s M H Q I h;exact isTrue_not<|ha pins s M H (fun c H1=>Q (!c) H1) I h
def ztW(ta tb:TE):TE:=fun M H Q=>ta M H fun x H1=>∃ c,x=.bl c/\if c=true then tb M H1 Q else Q (.bl false) H1
def tOrV(ta tb:TE):TE:=fun M H Q=>ta M H fun x H1=>∃ c,x=.bl c/\if c=true then Q (.bl true) H1 else tb M H1 Q
def ztQ(ta:TE):TE:=fun M H Q=>ta M H fun x H1=>∃ c,x=.bl c/\Q (.bl<|!c) H1
def zqA{op}{t:TE}(h:PE X a t):PE X (.BoolOp op [a] pos) t:=fun pins s M H Q I hw=>BoolOp_one<|h pins s M H Q I hw
def zsJ(ha:PE X a ta)(hb:PE X (.BoolOp .And (b::rest) pos) tb):PE X (.BoolOp .And (a::b::rest) pos) (ztW ta tb):=by
 intro pins s M H Q I h;refine BoolOp_and<|thn (ha pins s M H _ I h) ?_;rintro v s1 ⟨x,H1,I1,r1,q1⟩;obtain⟨c,rfl,q1⟩:=q1;cases r1;refine BQ ?_
 cases c with
 | true=>exact hb pins s1 M H1 Q I1 q1
 | false=>exact⟨.bl false,H1,I1,rfl,q1⟩
def zt7(ha:PE X a ta)(hb:PE X (.BoolOp .Or (b::rest) pos) tb):PE X (.BoolOp .Or (a::b::rest) pos) (tOrV ta tb):=by
 intro pins s M H Q I h;refine BoolOp_or<|thn (ha pins s M H _ I h) ?_;rintro v s1 ⟨x,H1,I1,r1,q1⟩;obtain⟨c,rfl,q1⟩:=q1;cases r1;refine BQ ?_
 cases c with
 | false=>exact hb pins s1 M H1 Q I1 q1
 | true=>exact⟨.bl true,H1,I1,rfl,q1⟩
def zsD(ha:PE X a ta):PE X (.UnaryOp .Not a pos) (ztQ ta):=by intro pins s M H Q I h;refine UnaryOp_<|thn (ha pins s M H _ I h) ?_;rintro v s1 ⟨x,H1,I1,r1,q1⟩;obtain⟨c,rfl,q1⟩:=q1;cases r1;exact not_of<|BQ ⟨.bl<|!c,H1,I1,rfl,q1⟩
def tIf(t:TT)(ta tb:TE):TE:=fun M H Q=>t M H fun c H1=>if c=true then ta M H1 Q else tb M H1 Q
def zn4(hc:PT X c tA)(ha:PE X a ta)(hb:PE X b tb):PE X (.IfExp c a b pos) (tIf tA ta tb):=by
 intro pins s M H Q I h;refine wpAny_IfExp<|thn (hc pins s M H _ I h) ?_;rintro d s1 ⟨H1,I1,q1⟩
 cases d with
 | true=>exact ha pins s1 M H1 Q I1 q1
 | false=>exact hb pins s1 M H1 Q I1 q1
end
def SqL(K:Ae)(H:Hp)(a:Addr)(xs:List V):Prop :=
 Rd H a (.lst xs) \/
   ∃ (o:Obj) (its:Array Value) (n:Nat),K.lookup a=some o/\o.cls=.type "list"/\o.dict=none/\o.data=.seq its n/\its.size<=sizeLine/\Vals xs its.toList
def SqT(K:Ae)(H:Hp)(a:Addr)(xs:List V):Prop :=
 Rd H a (.tup xs) \/
   ∃ (o:Obj) (its:Array Value) (n:Nat),K.lookup a=some o/\o.cls=.type "tuple"/\o.data=.seq its n/\its.size<=sizeLine/\Vals xs its.toList
def absV:Value->Option V
 | .none=>some .non
 | .bool b=>some<|.bl b
 | .int i _=>some<|.int i
 | .str x _=>some<|.str x
 | .bytes b _=>some<|.byt b
 | .float b _=>some<|.flt b
 | .ref a=>some<|.ref a
 | .type n=>some<|.ty n
 | _=>none
def RelV.abs{x:V}(r:RelV x u):absV u=some x:=by
 cases x with
 | non=>cases r;rfl
 | bl _=>cases r;rfl
 | int _=>obtain⟨t,rfl⟩:=r;rfl
 | str _=>obtain⟨t,rfl⟩:=r;rfl
 | byt _=>obtain⟨t,rfl⟩:=r;rfl
 | flt _=>obtain⟨t,rfl⟩:=r;rfl
 | ref _=>cases r;rfl
 | ty _=>cases r;rfl
variable {y:V}
def RelV.inj{x:V}(r:RelV x u)(q:RelV y u):x=y:=Ax<|r.abs.symm.trans q.abs
def Vals.inj:∀ {xs ys:List V} {us:List Value},Vals xs us->Vals ys us->xs=ys
 | _,_,_,.nil,.nil=>rfl
 | _,_,_,.cons r t,.cons r' t'=>by rw[r.inj r',Vals.inj t t']
variable {K:Ae}
section
variable {xs ys:List V}
def SqL.of(h:H a=some (.lst xs)):SqL K H a xs:=.inl<|.inl h
def SqT.of(h:H a=some (.tup xs)):SqT K H a xs:=.inl<|.inl h
def Inv.list(I:Inv X pins M H s)(h:SqL X.K H a xs):∃ its:List Value,Vals xs its/\PlainL s.heap a its.toArray/\xs.length<=sizeLine:=by
 rcases h with h | ⟨o,its,n,hk,hc,hd,hs,hz,r⟩
 . obtain⟨z,its,n,r,e⟩:=h.ok I.hok;exact⟨its,r,⟨_,n,e,rfl,rfl,rfl⟩,z⟩
 refine⟨its.toList,r,⟨o,n,I.kIn a o hk,hc,hd,by simpa using hs⟩,?_⟩;have e:=r.length;simp only[Au] at e;omega
def Inv.tuple(I:Inv X pins M H s)(h:SqT X.K H a xs):∃ its:List Value,Vals xs its/\IsTup s.heap a its.toArray/\xs.length<=sizeLine:=by
 rcases h with h | ⟨o,its,n,hk,hc,hs,hz,r⟩
 . obtain⟨z,its,r,p⟩:=h.ok I.hok;exact⟨its,r,p.t,z⟩
 refine⟨its.toList,r,⟨o,I.kIn a o hk,hc,n,by simpa using hs⟩,?_⟩;have e:=r.length;simp only[Au] at e;omega
def Inv.list_inj(I:Inv X pins M H s)(h:SqL X.K H a xs)(h':SqL X.K H a ys):xs=ys:=by
 obtain⟨its,r,⟨o,n,e,_,_,d⟩,_⟩:=I.list h;obtain⟨its',r',⟨o',n',e',_,_,d'⟩,_⟩:=I.list h';rw[e] at e';cases e';rw[d] at d';injection d' with d1 _
 have:its=its':=by simpa using congrArg HF d1
 subst this;exact r.inj r'
def Inv.tuple_inj(I:Inv X pins M H s)(h:SqT X.K H a xs)(h':SqT X.K H a ys):xs=ys:=by
 obtain⟨its,r,⟨o,e,_,n,d⟩,_⟩:=I.tuple h;obtain⟨its',r',⟨o',e',_,n',d'⟩,_⟩:=I.tuple h';rw[e] at e';cases e';rw[d] at d';injection d' with d1 _
 have:its=its':=by simpa using congrArg HF d1
 subst this;exact r.inj r'
end
noncomputable abbrev Cx.wish (X:Cx) (E:Value->Shared->Prop):Cx:={ X with xe:=E }
noncomputable abbrev Cx.nox (X:Cx):Cx:=X.wish fun _ _=>False
def Cx.Ok.wish{X:Cx}(ok:X.Ok)(E:Value->Shared->Prop):(X.wish E).Ok :=
 ⟨ok.mod,ok.kind,ok.glob,ok.blt,ok.above,ok.inj,ok.has,ok.cab,ok.hd,ok.frames,ok.stk,ok.exf,ok.bs,ok.bsz,ok.noex,ok.exfs,ok.funs,ok.frf⟩
def Cx.Ok.unwish(ok:(X.wish E).Ok):X.Ok :=
 ⟨ok.mod,ok.kind,ok.glob,ok.blt,ok.above,ok.inj,ok.has,ok.cab,ok.hd,ok.frames,ok.stk,ok.exf,ok.bs,ok.bsz,ok.noex,ok.exfs,ok.funs,ok.frf⟩
def Inv.wish(I:Inv X pins M H s)(E:Value->Shared->Prop):Inv (X.wish E) pins M H s:=⟨I.ok.wish E,I.os,I.bare,I.base,I.loc,I.cell,I.free,I.freeC,I.pin,I.hok,I.len⟩
def Inv.unwish(I:Inv (X.wish E) pins M H s):Inv X pins M H s:=⟨I.ok.unwish,I.os,I.bare,I.base,I.loc,I.cell,I.free,I.freeC,I.pin,I.hok,I.len⟩
def SP.unwish{D:Ends}{f:Flow}{s':Shared}(h:SP (X.wish E) pins D f s'):SP X pins D f s':=by
 cases f with
 | next=>obtain⟨M',H',I,q⟩:=h;exact⟨M',H',I.unwish,q⟩
 | brk=>obtain⟨M',H',I,q⟩:=h;exact⟨M',H',I.unwish,q⟩
 | cont=>obtain⟨M',H',I,q⟩:=h;exact⟨M',H',I.unwish,q⟩
 | ret u=>obtain⟨v,M',H',I,r,q⟩:=h;exact⟨v,M',H',I.unwish,r,q⟩
def PSs.nox{st:List Stmt}{t:TS}(h:PSs X.nox st t):PSs X st t:=fun pins s M H D I hw =>
 BG (h pins s M H D (I.wish _) hw) (fun _ _ q=>q.unwish) fun _ _ z=>False.elim z
variable {te:TE}
section
variable {st:Stmt} {rest:List Stmt} {t u:TS}
def ztR:TS:=fun D M H=>D.nx M H
def tSeq(t u:TS):TS:=fun D M H=>t { D with nx:=u D } M H
def zqp:PSs X [] ztR:=fun _ _ M H _ I h=>Fm ⟨M,H,I,h⟩
def znY(h1:PS X st t)(h2:PSs X rest u):PSs X (st::rest) (tSeq t u):=by
 intro pins s M H D I h;refine wpAny_execs_cons<|thn (h1 pins s M H { D with nx:=u D } I h) fun f s1 q=>?_
 cases f with
 | next =>
   obtain⟨M',H',I',q⟩:=q;exact h2 pins s1 M' H' D I' q
 | ret v=>exact q
 | brk=>exact q
 | cont=>exact q
def zqo(h1:PS X st t):PSs X [st] t:=by
 intro pins s M H D I h;refine wpAny_execs_cons<|thn (h1 pins s M H D I h) fun f s1 q=>?_
 cases f with
 | next=>exact Fm q
 | ret v=>exact q
 | brk=>exact q
 | cont=>exact q
def Inv.quiet(I:Inv X pins M H s):interactive X.env=false:=by simp[interactive,I.ok.kind]
def ztS(te:TE):TS:=fun D M H=>te M H fun _ H1=>D.nx M H1
def zqq(he:PE X e te)(hs:swapsWith e none pos.line X.env=pure false:=by rfl):PS X (.Expr e pos) (ztS te):=by intro pins s M H D I h;exact wpAny_Expr_any (thn (he pins s M H _ I h) fun v s1 ⟨x,H1,I1,r1,q1⟩=>⟨M,H1,I1,q1⟩) I.quiet hs
def tRet(te:TE):TS:=fun D M H=>te M H D.rt
def zsq(he:PE X e te):PS X (.Return (some e) pos) (tRet te):=by intro pins s M H D I h;exact wpAny_Return_some<|thn (he pins s M H _ I h) fun v s1 ⟨x,H1,I1,r1,q1⟩=>⟨x,M,H1,I1,r1,q1⟩
def tIfS(c:TT)(t u:TS):TS:=fun D M H=>c M H fun b H1=>if b=true then t D M H1 else u D M H1
def zt4{a b:List Stmt}{tc:TT}(hc:PT X c tc)(ha:PSs X a t)(hb:PSs X b u):PS X (.If c a b pos) (tIfS tc t u):=by
 intro pins s M H D I h;refine wpAny_If<|thn (hc pins s M H _ I h) ?_;rintro d s1 ⟨H1,I1,q1⟩
 cases d with
 | true=>exact ha pins s1 M H1 D I1 q1
 | false=>exact hb pins s1 M H1 D I1 q1
end
noncomputable abbrev TG:=V->St->Hp->(St->Hp->Prop)->Prop
noncomputable abbrev TGs:=List V->St->Hp->(St->Hp->Prop)->Prop
def PG(X:Cx)(target:Expr)(t:TG):Prop :=
 ∀ (pins:List (Addr×Obj)) (s:Shared) (M:St) (H:Hp) (v:V) (u:Value) (Q:St->Hp->Prop),Inv X pins M H s->RelV v u->t v M H Q ->
   wpAny (model X.prog X.w) X.A (assign target X.env u) (fun _ s'=>∃ M' H',Inv X pins M' H' s'/\Q M' H') X.xe s
def PGs(X:Cx)(ts:List Expr)(t:TGs):Prop :=
 ∀ (pins:List (Addr×Obj)) (s:Shared) (M:St) (H:Hp) (vs:List V) (us:List Value) (Q:St->Hp->Prop),Inv X pins M H s->Vals vs us->t vs M H Q ->
   wpAny (model X.prog X.w) X.A (assignInOrder ((assignEach ts X.env).map (·.2)) us) (fun _ s'=>∃ M' H',Inv X pins M' H' s'/\Q M' H') X.xe s
noncomputable abbrev TSet:=V->V->V->Hp->(Hp->Prop)->Prop
def PSet(X:Cx)(t:TSet):Prop :=
 ∀ (pins:List (Addr×Obj)) (s:Shared) (M:St) (H:Hp) (o i v:V) (ov iv u:Value) (Q:Hp->Prop),Inv X pins M H s->RelV o ov->RelV i iv->RelV v u->t o i v H Q ->
   wpAny (model X.prog X.w) X.A (setItem ov iv u) (fun _ s'=>∃ H',Inv X pins M H' s'/\Q H') X.xe s
variable {es:List Expr}{n:Nat}{tg:Expr}{pos':Pos}
def ztG(i:Nat):TG:=fun v M H Q=>Q (M.set i<|some v) H
def zqw(hN:X.N.Nodup)(hi:X.N[i]?=some x)(hx:Loc X.env.scope x)(hf:X.fn x=true\/X.env.scope.names.lookup x=some .local:=by first | exact .inl rfl | exact .inr rfl | assumption):PG X (.Name x pos) (ztG i):=by intro pins s M H v u Q I r h;exact GH<|zfK I hN hi hx r (fun s' I'=>⟨_,H,I',h⟩) hf
def gNil:TGs:=fun vs M H Q=>vs=[]/\Q M H
def zuu(t:TG)(u:TGs):TGs:=fun vs M H Q=>∃ v r,vs=v::r/\t v M H fun M' H'=>u r M' H' Q
def zqv:PGs X [] gNil:=by intro pins s M H vs us Q I r h;obtain⟨e,h⟩:=h;subst e;cases r;exact GI ⟨M,H,I,h⟩
def zn3{t:TG}{u:TGs}(h1:PG X e t)(h2:PGs X es u)
   (hs:(assignEach (e::es) X.env).map (·.2)=assign e X.env::(assignEach es X.env).map (·.2):=by rfl):PGs X (e::es) (zuu t u):=by
 intro pins s M H vs us Q I r h;obtain⟨v,vr,e1,h⟩:=h;subst e1
 cases r with
 | cons r rr =>
   rw[hs];refine Ei<|thn (h1 pins s M H _ _ _ I r h) ?_;rintro _ s1 ⟨M1,H1,I1,q1⟩;exact h2 pins s1 M1 H1 _ _ Q I1 rr q1
def gTup(K:Ae)(n:Nat)(t:TGs):TG:=fun v M H Q=>∃ a xs,v=.ref a/\SqT K H a xs/\xs.length=n/\t xs M H Q
def zsy{k:Nat}{t:TGs}(hc:X.calm=true)(h:PGs X es t)
   (hn:(assignEach es X.env).length=n:=by rfl) (hst:(assignEach es X.env).findIdx? (·.1)=none:=by rfl):PG X (.Tuple es k pos) (gTup X.K n t):=by
 intro pins s M H v u Q I r hw;obtain⟨a,xs,e1,hq,hl,hw⟩:=hw;subst e1;cases r;obtain⟨its,rv,ht,hz⟩:=I.tuple hq;refine assign_Tuple_tuple (I.ok.hd hc) ht (by simp[hn,<-hl,rv.length]) hst fun h' hx=>?_;have I1:Inv X pins M H { s with heap:=h' }:=I.kept (t':=s.toks) fun b o e=>hx b o (Ap<|Am e) e;exact h pins _ M H xs _ Q I1 (by simpa using rv) hw
def gSub(to ti:TE)(t:TSet):TG:=fun v M H Q=>to M H fun o H1=>ti M H1 fun i H2=>t o i v H2 fun H3=>Q M H3
def zsz{o i:Expr}{to ti:TE}{t:TSet}(ho:PE X o to)(hi:PE X i ti)(hs:PSet X t)
   (ha:∀ v,assign (.Subscript o i pos) X.env v=(do
     let ov <-holding [v] (eval o X.env)
     let iv <-holding [v,ov] (eval i X.env)
     standAt pos
     holding [v,ov,iv] (setItem ov iv v)
     release [v,ov,iv] []):=by intro _;rfl):PG X (.Subscript o i pos) (gSub to ti t):=by
 intro pins s M H v u Q I r h;rw[ha];refine Aa<|AS<|thn (ho pins s M H _ I h) ?_;rintro ov s1 ⟨x,H1,I1,r1,q1⟩;refine Aa<|AS<|thn (hi pins s1 M H1 _ I1 q1) ?_;rintro iv s2 ⟨y,H2,I2,r2,q2⟩;refine Aa<|Eu<|Aa<|AS<|thn (hs pins s2 M H2 x y v ov iv u _ I2 r1 r2 r q2) ?_;rintro _ s3 ⟨H3,I3,q3⟩;exact wpAny_release ⟨M,H3,I3,q3⟩
def tAsg(te:TE)(g:TG):TS:=fun D M H=>te M H fun x H1=>g x M H1 D.nx
def zst{g:TG}(he:PE X e te)(hg:PG X tg g)(hs:swapsWithSole [tg] e pos.line X.env=pure false:=by rfl)(hw:swappedStores [tg] e X.env=pure none:=by rfl)
   (h1:(assignEach [tg] X.env).map (·.2)=[assign tg X.env]:=by rfl):PS X (.Assign [tg] e pos) (tAsg te g):=by
 intro pins s M H D I h;refine wpAny_Assign_stores (thn (he pins s M H _ I h) ?_) hs hw;rintro v s1 ⟨x,H1,I1,r1,q1⟩;rw[h1];exact thn (hg pins s1 M H1 x v _ I1 r1 q1) fun _ s2 q=>q
def zsp(hN:X.N.Nodup)(hi:X.N[i]?=some x)(hx:Loc X.env.scope x)(he:PE X e te)(hs:swapsWith e (some<|.Name x pos') pos.line X.env=pure false:=by rfl)(hf:X.fn x=true\/X.env.scope.names.lookup x=some .local:=by first | exact .inl rfl | exact .inr rfl | assumption) :
   PS X (.Assign [.Name x pos'] e pos) (tAsg te<|ztG i):=by
 intro pins s M H D I h;refine wpAny_Assign_Name (thn (he pins s M H _ I h) ?_) hs;rintro v s1 ⟨y,H1,I1,r1,q1⟩;exact zfK I1 hN hi hx r1 (fun s2 I2=>⟨_,H1,I2,q1⟩) hf
def tPar(i j:Nat)(ta:TA):TS:=fun D M H=>ta M H fun vs H1=>∃ v w,vs=[v,w]/\D.nx ((M.set i<|some v).set j<|some w) H1
def zsr{y:Str}{a b:Expr}{ta:TA}{px py pt:Pos}{kt k2 pt2}(hc:X.calm=true)(hN:X.N.Nodup)(hi:X.N[i]?=some x)(hj:X.N[j]?=some y)(hij:i≠j)
   (hx:X.env.scope.names.lookup x=some .local) (hy:X.env.scope.names.lookup y=some .local) (ha:PA X [a,b] ta)
   (hw:swappedStores [.Tuple [.Name x px,.Name y py] kt pt] (.Tuple [a,b] k2 pt2) X.env=pure (some [x,y]))
   (hs:swapsWithSole [.Tuple [.Name x px,.Name y py] kt pt] (.Tuple [a,b] k2 pt2) pos.line X.env=pure false:=by rfl) :
   PS X (.Assign [.Tuple [.Name x px,.Name y py] kt pt] (.Tuple [a,b] k2 pt2) pos) (tPar i j ta):=by
 intro pins s M H D I h;rw[exec_Assign_arm];refine Aa<|Eu ?_;rw[hs];refine Aa<|Ab ?_;rw[if_neg (by decide)];refine Aa<|Tuple_<|thn (ha _ pins s M H _ I h) ?_;rintro us s1 ⟨vs,H1,I1,r1,q1⟩;obtain⟨v,w,e1,q1⟩:=q1;subst e1;obtain⟨u1,u2,rfl,rv,rw'⟩:∃ u1 u2,us=[u1,u2]/\RelV v u1/\RelV w u2:=by
   cases r1 with
   | cons p q =>
     cases q with
     | cons p' q' =>
       cases q';exact⟨_,_,rfl,p,p'⟩
 refine AF ?_ (by show 2<=sizeLine;decide);have I2:Inv X pins M H1 { s1 with heap:=s1.heap.push { cls:=.type "tuple",data:=.seq [u1,u2].toArray } }:=I1.kept (t':=s1.toks) fun b o e=>Ad _ e;rw[hw];refine Aa<|Ab ?_;show wpAny (model X.prog X.w) X.A (do rule "assign.swapped-stores";let items <-unpackItems (.ref s1.heap.objs.size) 2 none;assignInOrder [fun v=>bindName X.env y v,fun v=>bindName X.env x v] items.reverse;pure Flow.next) _ _ _;refine Aa<|Cs<|Aa<|unpackItems_tuple (items:=#[u1,u2]) (I.ok.hd hc) (IsTup.new s1.heap _) fun h' hx'=>?_;have I3:=I2.kept (h':=h') (t':=s1.toks) fun b o e=>hx' b o (Ap<|Am e) e;show wpAny _ _ (assignInOrder [fun v=>bindName X.env y v,fun v=>bindName X.env x v] [u2,u1] >>= fun _=>pure Flow.next) _ _ _;refine Aa<|Ei<|wpAny_bindName<|zfK I3 hN hj (.inl hy) rw' (fun s2 I4=>?_)<|.inr hy;refine Ei<|wpAny_bindName<|zfK I4 hN hi (.inl hx) rv (fun s3 I5=>GI (Ab ?_))<|.inr hx;rw[List.set_comm _ _ (BV hij)] at I5;exact⟨_,H1,I5,q1⟩
structure It where
 go:Nat->Hp->Prop
 yld:Nat->Hp->V->Hp->Prop
 stop:Nat->Hp->Prop
def FpOk(X:Cx)(pins:List (Addr×Obj))(H:Hp)(b:Addr):Prop :=
 H b=none/\b≠X.env.locals/\b ∉ X.fs/\(b∈X.ex\/X.s₀.heap.objs.size<=b)/\(∀ x c,X.env.cells.lookup x=some c->c≠b)/\∀ p∈X.pn++pins,p.1≠b
def Inv.fpOk(I:Inv X pins M H s)(hb:s.heap.objs.size<=b)(hn:H' b=none):FpOk X pins H' b:=by
 refine⟨hn,AJ<|Ay I.lt hb,I.nofs hb,.inr<|AR I.sz hb,fun x c e z=>?_,fun p hp z=>?_⟩
 . obtain⟨v,q⟩:=I.cell x c e;exact absurd (Ay q.lt (by rw[z];exact hb))<|AX _
 exact absurd (Ay (Am (I.pin p hp).1) (by rw[z];exact hb))<|AX _
structure Turn(P:Program)(w:World)(K:Ae)(tg:Expr)(J:It)(fp:List Addr)(it:Addr)(tn:Nat->Heap->Prop):Prop where
 mem:it∈fp
 obj:∀ i h,tn i h->∀ b∈fp,∃ o,h.get? b=some o/\∀ v,o.data≠.cell v
 keep:∀ i h h',tn i h->(∀ b∈fp,∀ o,h.get? b=some o->h'.get? b=some o)->tn i h'
 item:∀ (X:Cx),X.prog=P->X.w=w->X.K=K->X.calm=true->∀ (i:Nat) (pins:List (Addr×Obj)) (s:Shared) (M:St) (H:Hp) (E:Value->Shared->Prop),Inv X pins M H s->(∀ b∈fp,FpOk X pins H b)->tn i s.heap->J.go i H ->
   wpAny (model P w) X.A (pyNext (.ref it)) (fun r s1=>∃ u,r=some u /\
     wpAny (model P w) X.A (letOwnedTupleGo tg (.ref it) u) (fun _ s2=>∃ x H',Inv X pins M H' s2/\RelV x u/\J.yld i H x H'/\tn (i+1) s2.heap/\∀ b∈fp,H' b=none) E s1) E s
 done:∀ (X:Cx),X.prog=P->X.w=w->X.K=K->X.calm=true->∀ (i:Nat) (pins:List (Addr×Obj)) (s:Shared) (M:St) (H:Hp) (E:Value->Shared->Prop),Inv X pins M H s->(∀ b∈fp,FpOk X pins H b)->tn i s.heap->J.stop i H ->
   wpAny (model P w) X.A (pyNext (.ref it)) (fun r s1=>r=none/\Inv X pins M H s1) E s
 self:∀ (A:Around) (i:Nat) (s:Shared) (Q:Value->Shared->Prop) (E:Value->Shared->Prop),tn i s.heap->Q (.ref it) s->wpAny (model P w) A (pyIter (.ref it)) Q E s
noncomputable abbrev TI:=St->Hp->(It->Hp->Prop)->Prop
def PIE(X:Cx)(pins:List (Addr×Obj))(M:St)(tg:Expr)(R:It->Hp->Prop)(itv:Value)(s2:Shared):Prop :=
 ∃ (it:Addr) (fp:List Addr) (tn:Nat->Heap->Prop) (J:It) (H':Hp),itv=.ref it/\Inv X pins M H' s2/\Turn X.prog X.w X.K tg J fp it tn/\tn 0 s2.heap/\(∀ b∈fp,FpOk X pins H' b)/\R J H'
def PI(X:Cx)(tg iter:Expr)(wi:TI):Prop :=
 ∀ (pins:List (Addr×Obj)) (s:Shared) (M:St) (H:Hp) (R:It->Hp->Prop),Inv X pins M H s->wi M H R ->
   wpAny (model X.prog X.w) X.A (eval iter X.env) (fun v s1=>wpAny (model X.prog X.w) X.A (pyIter v) (PIE X pins M tg R) X.xe s1) X.xe s
def zrN{it:Addr}{o:Obj}{n:String}{vs:Array Value}{Q:Unit->Shared->Prop}(ho:s.heap.get? it=some o)(hc:o.cls=.type n)(hd:o.data=.fields vs)
   (hn:["enumerate","zip","dict_itemiterator","dict_reverseitemiterator","odict_iterator","itertools.zip_longest","itertools.pairwise"].contains n=false) (hQ:Q () s):wpAny Mq A (letOwnedTupleGo tg (.ref it) u) Q E s:=by
 unfold letOwnedTupleGo
 cases tg <;> first
   | exact Ab hQ
   | (cases u <;> first
       | exact Ab hQ
       | (refine Aa (wpAny_load ho ?_)
          rw[hc,hd];show wpAny Mq A (if (["enumerate","zip","dict_itemiterator","dict_reverseitemiterator","odict_iterator","itertools.zip_longest","itertools.pairwise"].contains n&&vs[0]?==some (rawInt _))=true then _ else _) Q E s;rw[if_neg (by intro h;rw[hn,Bq] at h;cases h)];exact Ab hQ))
def Itl(K:Ae)(a:Addr):It :=
 ⟨fun i H=>∃ xs x,SqL K H a xs/\xs[i]?=some x,fun i H x H'=>H'=H/\∀ xs,SqL K H a xs->xs[i]?=some x,fun i H=>∃ xs,SqL K H a xs/\xs.length<=i⟩
def Itt(K:Ae)(a:Addr):It :=
 ⟨fun i H=>∃ xs x,SqT K H a xs/\xs[i]?=some x,fun i H x H'=>H'=H/\∀ xs,SqT K H a xs->xs[i]?=some x,fun i H=>∃ xs,SqT K H a xs/\xs.length<=i⟩
def Itr(lo:Int)(n:Nat):It:=⟨fun i _=>i < n,fun i H x H'=>H'=H/\x=.int (lo+i),fun i _=>n<=i⟩
def zk2(a it:Addr):Turn P w K tg (Itl K a) [it] it (fun i h=>h.IsListIter it a i) where
 mem:=by simp
 obj:=fun i h st b hb=>by
   have e:b=it:=by simpa using hb
   subst e;obtain⟨o,e,c,d⟩:=st;exact⟨o,e,fun v z=>by rw[d] at z;cases z⟩
 keep:=fun i h h' st k=>st.at fun o e=>k it (by simp) o e
 item:=by intro X hP hw hK hc i pins s M H E I hf st hg;subst hP hw hK;obtain⟨xs,x,hq,hx⟩:=hg;obtain⟨its,rv,p,hz⟩:=I.list hq;obtain⟨u,hu,ru⟩:=rv.get hx;obtain⟨f0,f1,f2,f3,f4,f5⟩:=hf it (by simp);refine DG st p.isList (x:=u) (by simpa using hu) fun h' st' sb=>?_;have I1:Inv X pins M H { s with heap:=h' }:=I.turned (t':=s.toks) (fun b o hb e=>(sb.2 b hb).trans e) f0 f1 f3 f4 f5;obtain⟨o,e,c,d⟩:=id st';exact⟨u,rfl,zrN (s:={ s with heap:=h' }) e c d (by decide) ⟨x,H,I1,ru,⟨rfl,fun ys hy=>by rw[I.list_inj hy hq];exact hx⟩,st',fun b hb=>(hf b hb).1⟩⟩
 done:=by intro X hP hw hK hc i pins s M H E I hf st hg;subst hP hw hK;obtain⟨xs,hq,hx⟩:=hg;obtain⟨its,rv,p,hz⟩:=I.list hq;obtain⟨f0,f1,f2,f3,f4,f5⟩:=hf it (by simp);have hl:=rv.length;exact DV (I.ok.hd hc) st p.isList (by simp;omega) fun h' eb=>⟨rfl,I.turned (t':=s.toks) (fun b o hb e=>eb b o hb e) f0 f1 f3 f4 f5⟩
 self:=fun _ _ _ _ _ st h=>wpAny_pyIter_listiter st h
def zi7(a it:Addr):Turn P w K tg (Itt K a) [it] it (fun i h=>h.IsTupleIter it a i) where
 mem:=by simp
 obj:=fun i h st b hb=>by
   have e:b=it:=by simpa using hb
   subst e;obtain⟨o,e,c,d⟩:=st;exact⟨o,e,fun v z=>by rw[d] at z;cases z⟩
 keep:=fun i h h' st k=>st.at fun o e=>k it (by simp) o e
 item:=by intro X hP hw hK hc i pins s M H E I hf st hg;subst hP hw hK;obtain⟨xs,x,hq,hx⟩:=hg;obtain⟨its,rv,p,hz⟩:=I.tuple hq;obtain⟨u,hu,ru⟩:=rv.get hx;obtain⟨f0,f1,f2,f3,f4,f5⟩:=hf it (by simp);refine Fg st (show s.heap.IsTuple a its.toArray from p) (x:=u) (by simpa using hu) fun h' st' sb=>?_;have I1:Inv X pins M H { s with heap:=h' }:=I.turned (t':=s.toks) (fun b o hb e=>(sb.2 b hb).trans e) f0 f1 f3 f4 f5;obtain⟨o,e,c,d⟩:=id st';exact⟨u,rfl,zrN (s:={ s with heap:=h' }) e c d (by decide) ⟨x,H,I1,ru,⟨rfl,fun ys hy=>by rw[I.tuple_inj hy hq];exact hx⟩,st',fun b hb=>(hf b hb).1⟩⟩
 done:=by intro X hP hw hK hc i pins s M H E I hf st hg;subst hP hw hK;obtain⟨xs,hq,hx⟩:=hg;obtain⟨its,rv,p,hz⟩:=I.tuple hq;obtain⟨f0,f1,f2,f3,f4,f5⟩:=hf it (by simp);have hl:=rv.length;exact Fy (I.ok.hd hc) st (show s.heap.IsTuple a its.toArray from p) (by simp;omega) fun h' eb=>⟨rfl,I.turned (t':=s.toks) (fun b o hb e=>eb b o hb e) f0 f1 f3 f4 f5⟩
 self:=fun _ _ _ _ _ st h=>wpAny_pyIter_tupleiter st h
def zi8(it:Addr)(lo:Int)(n:Nat):Turn P w K tg (Itr lo n) [it] it (fun i h=>IsRangeIter h it (lo+(i:Nat)*1) ((n:Int) - (i:Nat)) 1) where
 mem:=by simp
 obj:=fun i h st b hb=>by
   have e:b=it:=by simpa using hb
   subst e;exact⟨_,st,fun v z=>by have z':Data.fields _=Data.cell v:=z;cases z'⟩
 keep:=fun i h h' st k=>k it (by simp) _ st
 item:=by intro X hP hw hK hc i pins s M H E I hf st hg;subst hP hw hK;obtain⟨f0,f1,f2,f3,f4,f5⟩:=hf it (by simp);have W:=Walks.range (prog:=X.prog) (w:=X.w) (I.ok.hd hc) it lo 1 n;refine W.item i s _ _ hg st fun v h' tk hv st' kk=>?_;obtain⟨t,rfl⟩:=hv;have I1:Inv X pins M H { s with heap:=h',toks:=tk }:=I.turned (fun b o hb e=>kk b o (by simpa using hb) e) f0 f1 f3 f4 f5;refine⟨_,rfl,zrN (s:={ s with heap:=h',toks:=tk }) (n:="range_iterator") st' rfl rfl (by decide) ⟨.int<|lo+i,H,I1,⟨t,?_⟩,⟨rfl,rfl⟩,st',fun b hb=>(hf b hb).1⟩⟩;rw[Int.mul_one]
 done:=by intro X hP hw hK hc i pins s M H E I hf st hg;subst hP hw hK;obtain⟨f0,f1,f2,f3,f4,f5⟩:=hf it (by simp);exact wpAny_pyNext_range_end (I.ok.hd hc) st (by have:n<=i:=hg;omega) fun h' eb=>⟨rfl,I.turned (t':=s.toks) (fun b o hb e=>eb b o hb e) f0 f1 f3 f4 f5⟩
 self:=fun _ _ _ _ _ st h=>wpAny_pyIter_rangeiter st h
variable {p:Pos}{l:Expr}{tl:TE}{fp:List Addr}{body:List Stmt}
def zus(K:Ae)(tl:TE):TI:=fun M H R=>tl M H fun x H1=>∃ a,x=.ref a/\(∃ xs,SqL K H1 a xs)/\R (Itl K a) H1
def iTup(K:Ae)(tl:TE):TI:=fun M H R=>tl M H fun x H1=>∃ a,x=.ref a/\(∃ xs,SqT K H1 a xs)/\R (Itt K a) H1
def zqu(hl:PE X l tl):PI X tg l (zus X.K tl):=by
 intro pins s M H R I h;refine thn (hl pins s M H _ I h) ?_;rintro v s1 ⟨x,H1,I1,r1,q1⟩;obtain⟨a,e,⟨xs,hq⟩,q⟩:=q1;subst e;cases r1;obtain⟨its,rv,p,hz⟩:=I1.list hq;refine CS p.isList ?_;refine⟨s1.heap.objs.size,[s1.heap.objs.size],_,_,H1,rfl,I1.kept (t':=s1.toks) fun b o e=>Ad _ e,zk2 a _,⟨_,Al _ rfl,rfl,rfl⟩,fun b hb=>?_,q⟩;have e:b=s1.heap.objs.size:=by simpa using hb
 subst e;exact I1.fpOk (Af _)<|I1.hok.fresh<|Af _
def zsw(hl:PE X l tl):PI X tg l (iTup X.K tl):=by
 intro pins s M H R I h;refine thn (hl pins s M H _ I h) ?_;rintro v s1 ⟨x,H1,I1,r1,q1⟩;obtain⟨a,e,⟨xs,hq⟩,q⟩:=q1;subst e;cases r1;obtain⟨its,rv,p,hz⟩:=I1.tuple hq;refine wpAny_pyIter_tuple (show s1.heap.IsTuple a its.toArray from p) ?_;refine⟨s1.heap.objs.size,[s1.heap.objs.size],_,_,H1,rfl,I1.kept (t':=s1.toks) fun b o e=>Ad _ e,zi7 a _,⟨_,Al _ rfl,rfl,rfl⟩,fun b hb=>?_,q⟩;have e:b=s1.heap.objs.size:=by simpa using hb
 subst e;exact I1.fpOk (Af _)<|I1.hok.fresh<|Af _
def znT{R:It->Hp->Prop}{lo hi:Int}{t u v:Tok}{tk:Nat}(I:Inv X pins M H s)(h1:-(2 ^ 62)<=lo)(h2:lo < 2 ^ 62)(h3:-(2 ^ 62)<=hi)(h4:hi < 2 ^ 62)
   (q:R (Itr lo (hi - lo).toNat) H):wpAny (model X.prog X.w) X.A (pyIter<|.ref s.heap.objs.size) (PIE X pins M tg R) E { s with heap:=s.heap.push { cls:=.type "range",data:=.fields #[.int lo t,.int hi u,.int 1 v] },toks:=tk }:=by
 refine wpAny_pyIter_range (IsRange.new ..) (small_one h1 h2 h3 h4) ?_;have I1:Inv X pins M H { s with heap:=s.heap.push { cls:=.type "range",data:=.fields #[.int lo t,.int hi u,.int 1 v] },toks:=tk }:=I.kept fun b o e=>Ad _ e;refine⟨(s.heap.push { cls:=.type "range",data:=.fields #[.int lo t,.int hi u,.int 1 v] }).objs.size,[(s.heap.push { cls:=.type "range",data:=.fields #[.int lo t,.int hi u,.int 1 v] }).objs.size],_,_,H,rfl,
   I1.kept (t':=tk) fun b o e=>Ad _ e,zi8 _ lo (hi - lo).toNat,?_,fun b hb=>?_,q⟩
 . have e1:lo+((0:Nat):Int)*1=lo:=by simp
   have e2:(((hi - lo).toNat:Nat):Int) - ((0:Nat):Int)=Builtin.Range.rangeSize lo hi 1:=by rw[rangeSize_one];split <;> omega
   show IsRangeIter _ _ (lo+((0:Nat):Int)*1) ((((hi - lo).toNat:Nat):Int) - ((0:Nat):Int)) 1;rw[e1,e2];exact Al _ rfl
 . have e:b=(s.heap.push { cls:=.type "range",data:=.fields #[.int lo t,.int hi u,.int 1 v] }).objs.size:=by simpa using hb
   subst e;exact I1.fpOk (Af _)<|I1.hok.fresh<|Af _
def zur(ta:TA):TI:=fun M H R=>ta M H fun vs H1=>∃ j:Int,vs=[.int j]/\-(2 ^ 62)<=j/\j < 2 ^ 62/\R (Itr 0 j.toNat) H1
def zlE{a:Expr}{ta:TA}(hg:Gl X "range")(hm:X.mg "range"=none)(ha:PA X [a] ta)(hs:starEach [a] X.env=[(false,eval a X.env)]:=by rfl):PI X tg (.Call (.Name "range" p) [a] [] pos) (zur ta):=by
 intro pins s M H R I h;refine Call_<|zkg I hg hm boot_range<|C4 (thn (ha pos pins s M H _ I h) ?_) hs rfl;rintro us s1 ⟨vs,H1,I1,r1,q1⟩;obtain⟨j,e,q1,q2,q⟩:=q1;subst e
 cases r1 with
 | cons r rr =>
   cases rr;obtain⟨t,rfl⟩:=r;exact call_range_1<|znT I1 (by omega) (by omega) q1 q2<|by simpa using q
def tFor(wi:TI)(g:TG)(tb:TS):TS:=fun D M H=>wi M H fun J H1=>∃ W:Nat->Nat->St->Hp->Prop,(∃ m,W 0 m M H1)/\∀ i m M H,W i m M H ->
 (J.stop i H/\D.nx M H)\/(J.go i H/\∃ N:St->Hp->Prop,(∀ M' H',N M' H'->∃ m',m' < m/\W (i+1) m' M' H')/\∀ x H',J.yld i H x H'->g x M H' fun M2 H2=>tb { D with nx:=N,ct:=N,bk:=D.nx } M2 H2)
def zjD(fp:List Addr)(h:Heap):List (Addr×Obj):=fp.filterMap fun b=>(h.get? b).map fun o=>(b,o)
def zdQ{o:Obj}(hb:b∈fp)(e:h.get? b=some o):(b,o)∈zjD fp h:=List.mem_filterMap.mpr ⟨b,hb,by rw[e];rfl⟩
def zlL{p:Addr×Obj}(hp:p∈zjD fp h):p.1∈fp/\h.get? p.1=some p.2:=by
 obtain⟨b,hb,e⟩:=List.mem_filterMap.mp hp
 cases q:h.get? b with
 | none=>rw[q] at e;cases e
 | some o =>
   rw[q] at e;have e':(b,o)=p:=Ax e;subst e';exact⟨hb,q⟩
def Inv.pinned{fp:List Addr}(I:Inv X pins M H s)(hf:∀ b∈fp,FpOk X pins H b)(ho:∀ b∈fp,∃ o,s.heap.get? b=some o/\∀ v,o.data≠.cell v):Inv X (pins++zjD fp s.heap) M H s :=
 I.pins_of fun p hp=>(List.mem_append.mp hp).elim (fun z=>I.pin p (A0 _ z)) fun z=>by obtain⟨hb,e⟩:=zlL z;obtain⟨f0,f1,f2,_⟩:=hf p.1 hb;obtain⟨o,e',d⟩:=ho p.1 hb;rw[e] at e';cases e';exact⟨e,f0,f1,f2,d⟩
def Inv.unpinned{pl:List (Addr×Obj)}(I:Inv X (pins++pl) M H s):Inv X pins M H s:=I.pins_of fun p hp=>I.pin p<|A0 _<|Bw _ hp
def zss{iter:Expr}{wi:TI}{g:TG}{tb:TS}(hp:PassesOwn (model X.prog X.w) X.A X.env X.xe)(hc:X.calm=true)(hi:PI X tg iter wi)(hg:PG X tg g)(hb:PSs X body tb)
   (hs:∀ x,foldedSetIterable iter X.env x=pure x:=by intro _;rfl):PS X (.For tg iter body [] pos) (tFor wi g tb):=by
 intro pins s M H D I h;refine wpAny_For (thn (hi pins s M H _ I h) fun v s1 h1=>thn h1 fun itv s2 h2=>?_) hs;obtain⟨it,fp,tn,J,H2,e,I2,T,st2,f2,W,⟨m0,w0⟩,turn⟩:=h2;subst e
 -- what stays true of the iterator's objects through the loop
 have stat:∀ {H':Hp},(∀ b∈fp,H' b=none)->∀ b∈fp,FpOk X pins H' b:=fun hn b hb=>⟨hn b hb,(f2 b hb).2⟩
 refine codeAny_forLoop_any (fun n s'=>∃ i M' H',Inv X pins M' H' s'/\tn i s'.heap/\(∀ b∈fp,H' b=none)/\W i n M' H') ?_ m0 ⟨0,M,H2,I2,st2,fun b hb=>(f2 b hb).1,w0⟩;rintro n s3 ⟨i,M3,H3,I3,st3,fr3,w3⟩
 rcases turn i n M3 H3 w3 with ⟨stop,qn⟩ | ⟨go,N,hN,step⟩
 . refine Dg hp (thn (T.done X rfl rfl rfl hc i pins s3 M3 H3 X.xe I3 (stat fr3) st3 stop) ?_);rintro r s4 ⟨hr,I4⟩;subst hr;exact Fm ⟨M3,H3,I4,qn⟩
 . refine Dg hp (thn (T.item X rfl rfl rfl hc i pins s3 M3 H3 X.xe I3 (stat fr3) st3 go) ?_);rintro r s4 ⟨u,hr,h4⟩;subst hr;refine Dg hp (thn h4 ?_);rintro _ s5 ⟨x,H5,I5,r5,y5,st5,fr5⟩;have I5':=I5.pinned (stat fr5) (T.obj _ _ st5);refine Dg hp (thn (hg _ s5 M3 H5 x u _ I5' r5 (step x H5 y5)) ?_);rintro _ s6 ⟨M6,H6,I6,q6⟩;refine Dg hp (thn (hb _ s6 M6 H6 _ I6 q6) fun f s7 q7=>?_);have again:∀ {M7:St} {H7:Hp},Inv X (pins++zjD fp s5.heap) M7 H7 s7->N M7 H7->∃ m,m < n/\∃ i M' H',Inv X pins M' H' s7/\tn i s7.heap/\(∀ b∈fp,H' b=none)/\W i m M' H':=fun {M7 H7} I7 n7=>by
     obtain⟨m',hm,w7⟩:=hN M7 H7 n7;refine⟨m',hm,i+1,M7,H7,I7.unpinned,T.keep _ _ _ st5 fun b hb o e=>(I7.pin (b,o) (A0 _ (A0 _ (zdQ hb e)))).1,fun b hb=>?_,w7⟩;obtain⟨o,e,d⟩:=T.obj _ _ st5 b hb;exact (I7.pin (b,o) (A0 _ (A0 _ (zdQ hb e)))).2.1
   cases f with
   | next=>obtain⟨M7,H7,I7,n7⟩:=q7;exact again I7 n7
   | cont=>obtain⟨M7,H7,I7,n7⟩:=q7;exact again I7 n7
   | brk=>obtain⟨M7,H7,I7,q7⟩:=q7;exact⟨M7,H7,I7.unpinned,q7⟩
   | ret v=>obtain⟨x7,M7,H7,I7,r7,q7⟩:=q7;exact⟨x7,M7,H7,I7.unpinned,r7,q7⟩
noncomputable abbrev R2:=V->V->Hp->VK->Prop
def OpR(X:Cx)(f:Value->Value->Sem Value)(r:R2):Prop :=
 ∀ (pins:List (Addr×Obj)) (s:Shared) (M:St) (H:Hp) (x y:V) (v u:Value) (Q:VK),Inv X pins M H s->RelV x v->RelV y u->r x y H Q ->
   wpAny (model X.prog X.w) X.A (f v u) (EP X pins M Q) X.xe s
def UnR(X:Cx)(f:Value->Sem Value)(r:V->Hp->VK->Prop):Prop :=
 ∀ (pins:List (Addr×Obj)) (s:Shared) (M:St) (H:Hp) (x:V) (v:Value) (Q:VK),Inv X pins M H s->RelV x v->r x H Q ->
   wpAny (model X.prog X.w) X.A (f v) (EP X pins M Q) X.xe s
def zgU(X:Cx)(f:Value)(r:List V->Hp->VK->Prop):Prop :=
 ∀ (pins:List (Addr×Obj)) (s:Shared) (M:St) (H:Hp) (xs:List V) (us:List Value) (Q:VK),Inv X pins M H s->Vals xs us->r xs H Q ->
   wpAny (model X.prog X.w) X.A (call f us) (EP X pins M Q) X.xe s
def TruR(X:Cx)(r:V->Hp->(Bool->Hp->Prop)->Prop):Prop :=
 ∀ (pins:List (Addr×Obj)) (s:Shared) (M:St) (H:Hp) (x:V) (v:Value) (Q:Bool->Hp->Prop),Inv X pins M H s->RelV x v->r x H Q ->
   wpAny (model X.prog X.w) X.A (truthy v) (TP X pins M Q) X.xe s
def tOp(r:R2)(ta tb:TE):TE:=fun M H Q=>ta M H fun x H1=>tb M H1 fun y H2=>r x y H2 Q
def tUn(r:V->Hp->VK->Prop)(ta:TE):TE:=fun M H Q=>ta M H fun x H1=>r x H1 Q
def rI(C:Int->Int->Prop)(g:Int->Int->V):R2:=fun x y H Q=>∃ i j,x=.int i/\y=.int j/\C i j/\Q (g i j) H
def rI0(g:Int->Int->V):R2:=fun x y H Q=>∃ i j,x=.int i/\y=.int j/\Q (g i j) H
def rU(g:Int->V):V->Hp->VK->Prop:=fun x H Q=>∃ i,x=.int i/\Q (g i) H
variable {f:Value->Value->Sem Value}{tc:TE}{r:R2}
section
variable {a b:Expr}
def binT(ha:PE X a ta)(hb:PE X b tb){R:V->V->Hp->Prop}(I:Inv X pins M H s)
   (h:ta M H fun x H1=>tb M H1 fun y H2=>R x y H2)  
   (hf:∀ v u s2 x y H2,Inv X pins M H2 s2->RelV x v->RelV y u->R x y H2->wpAny (model X.prog X.w) X.A (f v u) Q X.xe s2) :
   wpAny (model X.prog X.w) X.A (eval a X.env) (fun v s₁=>wpAny (model X.prog X.w) X.A (eval b X.env) (fun u s₂=>wpAny (model X.prog X.w) X.A (f v u) Q X.xe s₂) X.xe s₁) X.xe s:=by
 refine thn (ha pins s M H _ I h) ?_;rintro v s1 ⟨x,H1,I1,r1,q1⟩;refine thn (hb pins s1 M H1 _ I1 q1) ?_;rintro u s2 ⟨y,H2,I2,r2,q2⟩;exact hf v u s2 x y H2 I2 r1 r2 q2
def zt8{op:Operator}(ho:OpR X (binaryOp op) r)(ha:PE X a ta)(hb:PE X b tb):PE X (.BinOp a op b pos) (tOp r ta tb):=by intro pins s M H Q I h;exact wpAny_BinOp<|binT ha hb I h fun v u s2 x y H2 I2 rx ry q=>ho pins s2 M H2 x y v u Q I2 rx ry q
def zt6{op:UnaryOp}{r:V->Hp->VK->Prop}(ho:UnR X (unaryOp op) r)(ha:PE X a ta):PE X (.UnaryOp op a pos) (tUn r ta):=by intro pins s M H Q I h;exact UnaryOp_<|thn (ha pins s M H _ I h) fun v s1 ⟨x,H1,I1,r1,q1⟩=>ho pins s1 M H1 x v Q I1 r1 q1
def opI{C:Int->Int->Prop}{g:Int->Int->Int}
   (rule:∀ (i j:Int) (t u:Tok) (s:Shared) (Q:Value->Shared->Prop) (E:Value->Shared->Prop),C i j->Q (.int (g i j) s.toks) { s with toks:=s.toks+1 }->wpAny (model X.prog X.w) X.A (f (.int i t)<|.int j u) Q E s) :
   OpR X f (rI C fun i j=>.int (g i j)):=by
 intro pins s M H x y v u Q I rx ry h;obtain⟨i,j,rfl,rfl,hc,q⟩:=h;obtain⟨t,rfl⟩:=rx;obtain⟨t',rfl⟩:=ry;exact rule i j t t' s _ _ hc ⟨.int<|g i j,H,I.tok _,⟨_,rfl⟩,q⟩
def opI0{g:Int->Int->Int}
   (rule:∀ (i j:Int) (t u:Tok) (s:Shared) (Q:Value->Shared->Prop) (E:Value->Shared->Prop),Q (.int (g i j) s.toks) { s with toks:=s.toks+1 }->wpAny (model X.prog X.w) X.A (f (.int i t)<|.int j u) Q E s) :
   OpR X f (rI0 fun i j=>.int (g i j)):=by
 intro pins s M H x y v u Q I rx ry h;obtain⟨i,j,rfl,rfl,q⟩:=h;obtain⟨t,rfl⟩:=rx;obtain⟨t',rfl⟩:=ry;exact rule i j t t' s _ _ ⟨.int<|g i j,H,I.tok _,⟨_,rfl⟩,q⟩
def opB0{g:Int->Int->Bool}
   (rule:∀ (i j:Int) (t u:Tok) (s:Shared) (Q:Value->Shared->Prop) (E:Value->Shared->Prop),Q (.bool<|g i j) s->wpAny (model X.prog X.w) X.A (f (.int i t)<|.int j u) Q E s) :
   OpR X f (rI0 fun i j=>.bl (g i j)):=by
 intro pins s M H x y v u Q I rx ry h;obtain⟨i,j,rfl,rfl,q⟩:=h;obtain⟨t,rfl⟩:=rx;obtain⟨t',rfl⟩:=ry;exact rule i j t t' s _ _ ⟨.bl<|g i j,H,I,rfl,q⟩
def CMul(i j:Int):Prop:=(-(2 ^ 64) < i/\i < 2 ^ 64)\/(-(2 ^ 64) < j/\j < 2 ^ 64)
def CMul.ok{i j:Int}(h:CMul i j):IntMulOk i j:=by
 rcases h with ⟨h1,h2⟩ | ⟨h1,h2⟩
 . exact .of_left<|intBits_le_64 h1 h2
 exact .of_right<|intBits_le_64 h1 h2
def zsV:OpR X (binaryOp .Add) (rI0 fun i j=>.int (i+j)):=opI0 fun _ _ _ _ _ _ _ q=>add_int q
def zsL:OpR X (binaryOp .Sub) (rI0 fun i j=>.int (i - j)):=opI0 fun _ _ _ _ _ _ _ q=>sub_int q
def zsM:OpR X (binaryOp .Mult) (rI CMul fun i j=>.int (i*j)):=opI fun _ _ _ _ _ _ _ hc q=>mul_int q hc.ok
def zsN:OpR X (binaryOp .Mod) (rI (fun _ j=>0 < j) fun i j=>.int (i % j)):=opI fun i j _ _ _ _ _ hc q=>by have h1:(0:Int) < j:=hc;exact mod_int' (by omega) (by rw[Int.fmod_eq_emod_of_nonneg i (by omega)];exact q)
def unI{f:Value->Sem Value}{g:Int->Int}
   (rule:∀ (i:Int) (t:Tok) (s:Shared) (Q:Value->Shared->Prop) (E:Value->Shared->Prop),Q (.int (g i) s.toks) { s with toks:=s.toks+1 }->wpAny (model X.prog X.w) X.A (f<|.int i t) Q E s) :
   UnR X f (rU fun i=>.int (g i)):=by
 intro pins s M H x v Q I rx h;obtain⟨i,rfl,q⟩:=h;obtain⟨t,rfl⟩:=rx;exact rule i t s _ _ ⟨.int<|g i,H,I.tok _,⟨_,rfl⟩,q⟩
def zrR:UnR X (unaryOp .USub) (rU fun i=>.int (-i)):=unI fun _ _ _ _ _ q=>neg_int q
end
section
variable {a b:Expr}
def zoN{Q:VK}{k k':Bool}(I:Inv X pins M H s)(q:Q (.bl k) H)(e:k=k'):EP X pins M Q (.bool k') s:=by subst e;exact⟨.bl k,H,I,rfl,q⟩
def zuc:OpR X (compareOp .Lt) (rI0 fun i j=>.bl (decide (i < j))):=opB0 fun _ _ _ _ _ _ _ q=>G6 q
def zud:OpR X (compareOp .LtE) (rI0 fun i j=>.bl (decide (i<=j))):=opB0 fun _ _ _ _ _ _ _ q=>le_int q
def zue:OpR X (compareOp .Gt) (rI0 fun i j=>.bl (decide (j < i))):=opB0 fun _ _ _ _ _ _ _ q=>gt_int q
def zuf:OpR X (compareOp .GtE) (rI0 fun i j=>.bl (decide (j<=i))):=opB0 fun _ _ _ _ _ _ _ q=>ge_int q
def zlI:OpR X (compareOp .In) (fun x y H Q=>∃ i j,x=.str i/\y=.str j/\Q (.bl<|!(BC j i 0 j.length 1).isEmpty) H):=by intro pins s M H x y v u Q I rx ry h;obtain⟨i,j,rfl,rfl,q⟩:=h;obtain⟨t,rfl⟩:=rx;obtain⟨t',rfl⟩:=ry;exact in_str<|zoN I q rfl
def zsQ:OpR X (compareOp .Is) (fun x y H Q=>y=.non/\Q (.bl<|decide (x=.non)) H):=by
 intro pins s M H x y v u Q I rx ry h;obtain⟨rfl,q⟩:=h;cases ry;refine is_none_gen<|zoN I q ?_
 cases x <;> first
   | (cases rx;rfl)
   | (obtain⟨t,rfl⟩:=rx;rfl)
def zhj:OpR X (compareOp .NotIn) (fun x y H Q=>∃ i j,x=.str i/\y=.str j/\Q (.bl<|!(!(BC j i 0 j.length 1).isEmpty)) H):=by intro pins s M H x y v u Q I rx ry h;obtain⟨i,j,rfl,rfl,q⟩:=h;obtain⟨t,rfl⟩:=rx;obtain⟨t',rfl⟩:=ry;exact notIn_str<|zoN I q rfl
def zqD(ho:OpR X (compareOp op) r)(ha:PE X a ta)(hb:PE X b tb)(hm:behindInMarks op b=false):PE X (.Compare a [op] [b] pos) (tOp r ta tb):=by intro pins s M H Q I h;exact wpAny_Compare1 (binT ha hb I h fun v u s2 x y H2 I2 rx ry q=>ho pins s2 M H2 x y v u Q I2 rx ry q) hm
def ztM(t:TE):TT:=fun M H Q=>t M H fun x H'=>∃ k,x=.bl k/\Q k H'
def zqn(ho:OpR X (compareOp op) r)(ha:PE X a ta)(hb:PE X b tb)(hm:behindInMarks op b=false):PT X (.Compare a [op] [b] pos) (ztM<|tOp r ta tb):=by
 intro pins s M H Q I h;refine FO (thn (ha pins s M H _ I h) fun v s1 ⟨x,H1,I1,r1,q1⟩=>thn (hb pins s1 M H1 _ I1 q1) fun u s2 ⟨y,H2,I2,r2,q2⟩ =>
   thn (ho pins s2 M H2 x y v u _ I2 r1 r2 q2) fun c s3 ⟨z,H3,I3,r3,k,e,q3⟩=>?_) hm
 subst e;cases r3;exact BQ ⟨H3,I3,q3⟩
def zpC(r r':R2)(ta tb tc:TE):TE:=fun M H Q=>ta M H fun x H1=>tb M H1 fun y H2=>r x y H2 fun z H3=>∃ k,z=.bl k /\
 (if k=true then tc M H3 fun w' H4=>r' y w' H4 Q else Q (.bl false) H3)
def zn7{op':CmpOp}{r':R2}(ho:OpR X (compareOp op) r)(ho':OpR X (compareOp op') r')(ha:PE X a ta)(hb:PE X b tb)(hc:PE X c tc)
   (hm:lastMarks [op,op'] [b,c]=false:=by with_unfolding_all rfl):PE X (.Compare a [op,op'] [b,c] pos) (zpC r r' ta tb tc):=by
 intro pins s M H Q I h;refine Compare_chain (thn (ha pins s M H _ I h) fun v s1 ⟨x,H1,I1,r1,q1⟩=>chain_link (thn (hb pins s1 M H1 _ I1 q1) fun u s2 ⟨y,H2,I2,r2,q2⟩ =>
   thn (ho pins s2 M H2 x y v u _ I2 r1 r2 q2) fun d s3 ⟨z,H3,I3,r3,k,e,q3⟩=>?_)) hm
 subst e;cases r3;refine BQ ?_
 cases k with
 | false=>exact ite_ff ⟨.bl false,H3,I3,rfl,q3⟩
 | true=>exact ite_tt<|chain_last<|thn (hc pins s3 M H3 _ I3 q3) fun w' s4 ⟨z',H4,I4,r4,q4⟩=>ho' pins s4 M H4 y z' u w' Q I4 r2 r4 q4
def TruV(K:Ae)(x:V)(H:Hp)(k:Bool):Prop :=
 match x with
 | .non=>k=false
 | .bl b=>k=b
 | .int i=>k=(i != 0)
 | .str y=>y.length<=sizeLine/\k=((y.length:Int) != 0)
 | .byt y=>y.size<=sizeLine/\k=((y.size:Int) != 0)
 | .ref p=>(∃ xs,SqL K H p xs/\k=!xs.isEmpty)\/(∃ xs,SqT K H p xs/\k=!xs.isEmpty)\/∃ kvs,H p=some (.dK kvs)/\k=!kvs.isEmpty
 | _=>False
def zkr{kvs:List (κ×V)}{vs:List (κ×Value)}(r:KV kvs vs):(!vs.isEmpty)=!kvs.isEmpty:=by cases r <;> rfl
def zgA{xs:List V}{its:List Value}(r:Vals xs its):(!its.toArray.isEmpty)=!xs.isEmpty:=by cases r <;> simp
def zhv:(sizeLine:Nat) < 2 ^ 63:=by rw[Fz];decide
def zrW:TruR X (fun x H Q=>∃ k,TruV X.K x H k/\Q k H):=by
 intro pins s M H x v Q I rx h;obtain⟨k,e,q⟩:=h;have hl:=zhv;have hs:sizeLine=16777216:=Fz
 cases x with
 | non =>
   cases rx;have e':k=false:=e;subst e';exact truthy_none ⟨H,I,q⟩
 | bl b =>
   cases rx;have e':k=b:=e;subst e';exact BQ ⟨H,I,q⟩
 | int i =>
   obtain⟨t,rfl⟩:=rx;have e':k=(i != 0):=e;subst e';exact PySem.P.truthy_int ⟨H,I,q⟩
 | str y =>
   obtain⟨t,rfl⟩:=rx;obtain⟨hy,e'⟩:y.length<=sizeLine/\k=((y.length:Int) != 0):=e;subst e';exact PySem.P.truthy_str (by omega) ⟨H,I.tok _,q⟩
 | byt y =>
   obtain⟨t,rfl⟩:=rx;obtain⟨hy,e'⟩:y.size<=sizeLine/\k=((y.size:Int) != 0):=e;subst e';exact PySem.W.truthy_bytes (by omega) ⟨H,I.tok _,q⟩
 | ref p =>
   cases rx;have e':(∃ xs,SqL X.K H p xs/\k=!xs.isEmpty)\/(∃ xs,SqT X.K H p xs/\k=!xs.isEmpty)\/∃ kvs,H p=some (.dK kvs)/\k=!kvs.isEmpty:=e
   rcases e' with ⟨xs,hx,e'⟩ | ⟨xs,hx,e'⟩ | ⟨kvs,hx,e'⟩
   . subst e';obtain⟨its,r,pl,hz⟩:=I.list hx;have hlen:=r.length;exact wpAny_truthy_list pl.isList (by simp only[Aq];omega) ⟨H,I.tok _,by rw[zgA r];exact q⟩
   . subst e';obtain⟨its,r,pl,hz⟩:=I.tuple hx;have hlen:=r.length;exact truthy_tuple pl (by simp only[Aq];omega) ⟨H,I.tok _,by rw[zgA r];exact q⟩
   subst e';obtain⟨hz,hS,vs,r,m⟩:kvs.length<=sizeLine/\(p==sysModules)=false/\∃ vs,KV kvs vs/\s.heap.DictOf (zbm X.prog X.w) p vs:=I.hok p _ hx;have hlen:kvs.length=vs.length:=BF r;exact wpAny_truthy_dict hS m (by omega) ⟨H,I.tok _,by rw[zkr r];exact q⟩
 | _=>exact (show False from e).elim
def znX(ha:PE X a ta)(he:∀ whole,isTrue a X.env whole=(do let v <-whole;standAt a.pos;holding [v] (truthy v))) :
   PT X a (fun M H Q=>ta M H fun x H'=>∃ k,TruV X.K x H' k/\Q k H'):=by
 intro pins s M H Q I h;exact isTrue_plain (thn (ha pins s M H _ I h) fun v s1 ⟨x,H1,I1,r1,q1⟩=>zrW pins s1 M H1 x v Q I1 r1 q1)<|he _
def zjI:OpR X (binaryOp .Add) (fun x y H Q=>∃ i j,x=.str i/\y=.str j/\i.length+j.length<=sizeLine/\Q (.str<|i++j) H):=by intro pins s M H x y v u Q I rx ry h;obtain⟨i,j,rfl,rfl,hz,q⟩:=h;obtain⟨t,rfl⟩:=rx;obtain⟨t',rfl⟩:=ry;exact add_str (fun t' tk=>⟨.str<|i++j,H,I.tok _,⟨_,rfl⟩,q⟩) hz
def vals1{x:V}(r:Vals [x] us):∃ u,us=[u]/\RelV x u:=by
 cases r with
 | cons r1 r2=>cases r2;exact⟨_,rfl,r1⟩
def vals2{x:V}(r:Vals [x,y] us):∃ u w',us=[u,w']/\RelV x u/\RelV y w':=by
 cases r with
 | cons r1 r2 =>
   cases r2 with
   | cons r3 r4=>cases r4;exact⟨_,_,rfl,r1,r3⟩
def zo6:zgU X (.builtin "abs") (fun xs H Q=>∃ i,xs=[.int i]/\Q (.int<|if i < 0 then -i else i) H):=by intro pins s M H xs us Q I r h;obtain⟨i,rfl,q⟩:=h;obtain⟨u,rfl,t,rfl⟩:=vals1 r;exact call_abs_int fun u tk=>⟨.int<|if i < 0 then -i else i,H,I.tok _,⟨_,rfl⟩,q⟩
def zmj(hc:X.calm=true):zgU X (.builtin "max") (fun xs H Q=>∃ i j,xs=[.int i,.int j]/\Q (.int<|if j > i then j else i) H):=by
 intro pins s M H xs us Q I r h;obtain⟨i,j,rfl,q⟩:=h;obtain⟨u,w',rfl,⟨t,rfl⟩,⟨t',rfl⟩⟩:=vals2 r;refine max_two_ints (I.ok.hd hc) fun h' tk k=>⟨_,H,I.kept k,?_,q⟩
 by_cases hj:j > i
 . rw[if_pos hj,if_pos hj];exact⟨_,rfl⟩
 rw[if_neg hj,if_neg hj];exact⟨_,rfl⟩
def zmh(hc:X.calm=true):zgU X (.builtin "min") (fun xs H Q=>∃ i j,xs=[.int i,.int j]/\Q (.int<|if j < i then j else i) H):=by
 intro pins s M H xs us Q I r h;obtain⟨i,j,rfl,q⟩:=h;obtain⟨u,w',rfl,⟨t,rfl⟩,⟨t',rfl⟩⟩:=vals2 r;refine min_two_ints (I.ok.hd hc) fun h' tk k=>⟨_,H,I.kept k,?_,q⟩
 by_cases hj:j < i
 . rw[if_pos hj,if_pos hj];exact⟨_,rfl⟩
 rw[if_neg hj,if_neg hj];exact⟨_,rfl⟩
def zii:zgU X (.type "int") (fun xs H Q=>(∃ i,xs=[.int i]/\Q (.int i) H)\/∃ k,xs=[.bl k]/\Q (.int<|if k then 1 else 0) H):=by
 intro pins s M H xs us Q I r h
 rcases h with ⟨i,rfl,q⟩ | ⟨k,rfl,q⟩
 . obtain⟨u,rfl,t,rfl⟩:=vals1 r;exact call_int_int ⟨.int i,H,I,⟨_,rfl⟩,q⟩
 obtain⟨u,rfl,r1⟩:=vals1 r;cases r1;exact call_int_bool ⟨.int<|if k then 1 else 0,H,I.tok _,⟨_,rfl⟩,q⟩
def zhB:zgU X (.type "str") (fun xs H Q=>∃ i,xs=[.int i]/\i.natAbs.log2 < 1920/\Q (.str<|toString i) H):=by intro pins s M H xs us Q I r h;obtain⟨i,rfl,hz,q⟩:=h;obtain⟨u,rfl,t,rfl⟩:=vals1 r;exact PySem.P.str_of_int hz ⟨.str _,H,I.tok _,⟨_,rfl⟩,q⟩
end
def RelO.some_of{o:Option Value}(r:RelO (some v) o):∃ u,o=some u/\RelV v u:=by
 cases o with
 | none=>exact (show False from r).elim
 | some u=>exact⟨u,rfl,r⟩
structure Room(k:Nat)(A:Around):Prop where
 hd:A.handled=none
 dp:A.depth+3*k+5 < recursionLimit
 un:A.units+16*k+200 < cLine
 gd:A.guards=some []
def Room.mono{k:Nat}(r:Room k A)(h:j<=k):Room j A:=⟨r.hd,by have:=r.dp;omega,by have:=r.un;omega,r.gd⟩
def Room.deeper{k:Nat}{A:Around}(r:Room (k+1) A)(env:Env):Room k (A.deeper env) :=
 ⟨r.hd,by have:=r.dp;show A.depth+1+3*k+5 < _;omega,by have:=r.un;show A.units+3+16*k+200 < _;omega,r.gd⟩
def Room.depth{k:Nat}{A:Around}(r:Room k A):A.depth < recursionLimit:=by have:=r.dp;omega
def Room.units{k:Nat}{A:Around}(r:Room k A):A.units+64 < cLine:=by have:=r.un;omega
def tNil:TA:=fun _ H Q=>Q [] H
def ztU(ta:TE)(tr:TA):TA:=fun M H Q=>ta M H fun x H1=>tr M H1 fun xs H2=>Q (x::xs) H2
section
variable {t:TA}
def ziE:PA X [] tNil:=fun _ _ _ _ H Q I h=>Calls.spliced_nil ⟨[],H,I,.nil,h⟩
def zeZ(ha:PE X e te)(hr:PA X es t)(hs:starEach (e::es) X.env=(false,eval e X.env)::starEach es X.env:=by rfl):PA X (e::es) (ztU te t):=by intro pos pins s M H Q I h;rw[hs];show wpAny _ _ (spliced ((false,eval e X.env)::backTo pos (starEach es X.env))) _ _ s;refine Calls.spliced_cons<|thn (ha pins s M H _ I h) ?_;rintro u s1 ⟨x,H1,I1,r1,q1⟩;exact thn (hr pos pins s1 M H1 _ I1 q1) fun us s2 ⟨xs,H2,I2,r2,q2⟩=>⟨x::xs,H2,I2,.cons r1 r2,q2⟩
def tTup(t:TA):TE:=fun M H Q=>t M H fun xs H1=>xs.length<=sizeLine/\∀ p,H1 p=none->Q (.ref p) (upd H1 p<|.tup xs)
def tLst(t:TA):TE:=fun M H Q=>t M H fun xs H1=>xs.length<=sizeLine/\∀ p,H1 p=none->Q (.ref p) (upd H1 p<|.lst xs)
def zsA{x1}(h:PA X es t):PE X (.Tuple es x1 pos) (tTup t):=by intro pins s M H Q I hq;refine wpAny_Tuple_spliced<|thn (h pos pins s M H _ I hq) fun us s1 ⟨xs,H1,I1,r,z,q⟩=>⟨by rw[<-r.length];exact z,?_⟩;have hf:H1 s1.heap.objs.size=none:=I1.hok.fresh<|Af _;refine⟨.ref s1.heap.objs.size,upd H1 s1.heap.objs.size<|.tup xs,I1.laid (t':=s1.toks) (fun b u e=>Ad _ e) (Af _) ?_,rfl,q _ hf⟩;exact⟨z,us,r,⟨_,Al _ rfl,rfl,rfl,_,rfl⟩⟩
def zsF(h:PA X es t):PE X (.List es pos) (tLst t):=by intro pins s M H Q I hq;refine wpAny_List_spliced<|thn (h pos pins s M H _ I hq) fun us s1 ⟨xs,H1,I1,r,z,q⟩=>⟨by rw[<-r.length];exact z,?_⟩;have hf:H1 s1.heap.objs.size=none:=I1.hok.fresh<|Af _;refine⟨.ref s1.heap.objs.size,upd H1 s1.heap.objs.size<|.lst xs,I1.laid (t':=s1.toks) (fun b u e=>Ad _ e) (Af _) ?_,rfl,q _ hf⟩;exact⟨z,us,0,r,Al _ rfl⟩
end
noncomputable abbrev Sp:=List V->Hp->VK->XK->Prop
noncomputable abbrev CXT:=List Env->Hp->Shared->XK->Value->Shared->Prop
structure Env0(P:Program)(w:World)(K:Ae)(mg:Str->Option Value)(base:Heap)(A:Around)(outer:List Env)(s:Shared)(H:Hp):Prop where
 frames:A.frames=some outer
 mod:Mod K mg base
 bs:∀ b o,base.get? b=some o->s.heap.get? b=some o/\H b=none
 bsz:base.objs.size<=s.heap.objs.size
 funs:s.heap.FunFrames base outer
 frf:∀ b∈frs outer,H b=none
 hok:HOk P w H s.heap
 bare:AllBare s.gens
def CE(outer:List Env)(P:Program)(w:World)(H:Hp)(s:Shared)(Q:VK)(u:Value)(s':Shared):Prop :=
 ∃ v H',s'.os=s.os/\AllBare s'.gens/\Un (frs outer) [] H H' s.heap s'.heap/\HOk P w H' s'.heap/\RelV v u/\Q v H'
def CR(CX:CXT)(outer:List Env)(P:Program)(w:World)(H:Hp)(s:Shared)(Q:VK)(E:XK)(r:Result)(s':Shared):Prop :=
 match r with
 | .ok (.ret u)=>CE outer P w H s Q u s'
 | .ok _=>False
 | .error e=>CX outer H s E e s'
structure FnOk(P:Program)(w:World)(K:Ae)(mg:Str->Option Value)(base:Heap)(CX:CXT)(k:Nat)(f:Addr)(fd:FuncData)(ps:List Str)(sp:Sp):Prop where
 len:∀ vs H Q E,sp vs H Q E->vs.length=ps.length
 run:∀ (A:Around) (outer:List Env) (s:Shared) (H:Hp) (args:Args) (us:List Value) (vs:List V) (Q:VK) (E:XK),Room k A->Env0 P w K mg base A outer s H->BindsTo s fd args (ps.zip us)->Vals vs us->sp vs H Q E ->
   codeAny (model P w) A (.call (.ref f) args) (CR CX outer P w H s Q E) s
def Inv.env0(I:Inv X pins M H s):Env0 X.prog X.w X.K X.mg X.base X.A X.stack s H :=
 ⟨I.ok.frames,I.ok.mod,I.bs,AR I.ok.bsz I.sz,I.stack,I.stkFree,I.hok,I.bare⟩
def Inv.after{Q:VK}(I:Inv X pins M H s)(h:CE X.stack X.prog X.w H s Q u s'):EP X pins M Q u s':=by obtain⟨v,H',os,bare,un,hok,r,q⟩:=h;obtain⟨hh,g,d,t,os'⟩:=s';obtain rfl:os'=s.os:=os;exact⟨v,H',I.call (h':=hh) (g':=g) (d':=d) (t':=t) (ch:=[]) un hok bare fun b z=>absurd z (by simp),r,q⟩
def ztV(sp:Sp)(dvs:List V)(E:XK)(t:TA):TE:=fun M H Q=>t M H fun vs H1=>sp (vs++dvs) H1 Q E
def Binds(K:Ae)(fd:FuncData)(ps:List Str)(ds:List Value):Prop :=
 ∀ (s:Shared) (us:List Value),K.In s.heap->(us++ds).length=ps.length->BindsTo s fd ⟨us,[]⟩ (ps.zip<|us++ds)
variable {fd:FuncData}{ps:List Str}
def Binds.all(h:∀ us:List Value,us.length=ps.length->bindArgs fd ⟨us,[]⟩=pure (ps.zip us)):Binds K fd ps []:=fun s us _ hl=>by rw[As] at hl ⊢;exact .of_eq<|h us hl
def Passes(CX:CXT)(X:Cx)(E:XK):Prop:=∀ (pins:List (Addr×Obj)) (M:St) (H:Hp) (s:Shared) (e:Value) (s':Shared),Inv X pins M H s->CX X.stack H s E e s'->X.xe e s'
variable {CX:CXT}{sp:Sp}
section
variable {k:Nat} {f C:Addr} {dvs:List V} {ds:List Value} {E:XK} {m:Str} {apos:Pos} {o:Expr} {t:TA}
def zsj{Q:VK}{vs:List V}(F:FnOk X.prog X.w X.K X.mg X.base CX k f fd ps sp)(hr:Room k X.A)(hb:Binds X.K fd ps ds)(hd:Vals dvs ds)(hx:Passes CX X E)
   (I:Inv X pins M H s) (r:Vals vs us) (h:sp (vs++dvs) H Q E):wpAny (model X.prog X.w) X.A (call (.ref f) us) (EP X pins M Q) X.xe s:=by
 have r2:Vals (vs++dvs) (us++ds):=r.append hd;have hl:(us++ds).length=ps.length:=by rw[<-r2.length];exact F.len _ _ _ _ h
 refine G8<|CW (F.run X.A X.stack s H ⟨us,[]⟩ (us++ds) (vs++dvs) Q E hr I.env0 (hb s us I.kIn hl) r2 h) fun r s' hq=>?_
 cases r with
 | error e=>exact hx pins M H s e s' I hq
 | ok fl =>
   cases fl with
   | ret u=>exact I.after hq
   | next=>exact False.elim hq
   | brk=>exact False.elim hq
   | cont=>exact False.elim hq
def zqE(F:FnOk X.prog X.w X.K X.mg X.base CX k f fd ps sp)(hr:Room k X.A)(hg:Gl X x)(hm:X.mg x=some (.ref f))(hk:Cv X.K (.ref f)=true)(hb:Binds X.K fd ps ds)(hd:Vals dvs ds)(hx:Passes CX X E)
   (ha:PA X (e::es) t) (hdb:(x==("__debug__":Str))=false:=by decide) (he:starEach (e::es) X.env=(false,eval e X.env)::starEach es X.env:=by rfl) (hpl:(backTo pos<|starEach es X.env).any (·.1)=false:=by rfl) :
   PE X (.Call (.Name x p) (e::es) [] pos) (ztV sp dvs E t):=by
 intro pins s M H Q I h;refine Ej<|zmU I hg hm ?_ hdb;refine PySem.W.callWith_K (h₀:=X.base) I.ok.mod.kin hk (thn (ha pos pins s M H _ I h) fun us s1 ⟨vs,H1,I1,r,q⟩=>⟨I1.kIn,?_⟩) he hpl;exact zsj F hr hb hd hx I1 r q
end
structure FnScope(N P:List Str)(sc:Scope):Prop where
 kind:sc.kind=.function
 co:sc.isCoroutine=false
 gen:sc.isGenerator=false
 nd:N.Nodup
 pre:N.take P.length=P
 par:∀ x∈P,sc.names.lookup x=some .local\/sc.names.lookup x=some .cell
 nofree:∀ y∈sc.names,y.2≠.free
variable {kindOf:Str->Option NameKind}
def zik{kindOf:Str->Option NameKind}{x:Str}:∀ {binds:List (Str×Value)} {m:Str->Option Value},(∀ v,(x,v) ∉ binds)->bindL kindOf binds m x=m x
 | [],_,_=>rfl
 | (n,v)::r,m,h=>by
   unfold bindL;rw[zik fun w hw=>h w (Ah _ hw)]
   split
   . have:x≠n:=by rintro rfl;exact h v Aj
     simp[this]
   rfl
def zim{kindOf:Str->Option NameKind}{x:Str}:∀ {binds:List (Str×Value)} {m:Str->Option Value},(∀ v,(x,v) ∉ binds)->bindC kindOf binds m x=m x
 | [],_,_=>rfl
 | (n,v)::r,m,h=>by
   unfold bindC;rw[zim fun w hw=>h w (Ah _ hw)]
   split
   . rfl
   . have:x≠n:=by rintro rfl;exact h v Aj
     simp[this]
def zil{kindOf:Str->Option NameKind}{x:Str}{v:Value}:∀ {P:List Str} {vs:List Value} {i:Nat} {m:Str->Option Value},P.Nodup->P[i]?=some x->vs[i]?=some v->kindOf x=some .local ->
   bindL kindOf (P.zip vs) m x=some v
 | [],_,_,_,_,h,_,_=>by simp at h
 | _::_,[],_,_,_,_,h,_=>by simp at h
 | p::P,w::vs,0,m,nd,h1,h2,hk=>by simp at h1 h2;subst h1;subst h2;show bindL kindOf ((p,w)::P.zip vs) m p=_;unfold bindL;rw[zik fun v hv=>(List.nodup_cons.mp nd).1 (Fn hv).1,if_pos hk];simp
 | p::P,w::vs,i+1,m,nd,h1,h2,hk=>by show bindL kindOf ((p,w)::P.zip vs) m x=_;unfold bindL;exact zil (i:=i) (List.nodup_cons.mp nd).2 (by simpa using h1) (by simpa using h2) hk
def zin{kindOf:Str->Option NameKind}{x:Str}{v:Value}:∀ {P:List Str} {vs:List Value} {i:Nat} {m:Str->Option Value},P.Nodup->P[i]?=some x->vs[i]?=some v->kindOf x≠some .local ->
   bindC kindOf (P.zip vs) m x=some v
 | [],_,_,_,_,h,_,_=>by simp at h
 | _::_,[],_,_,_,_,h,_=>by simp at h
 | p::P,w::vs,0,m,nd,h1,h2,hk=>by simp at h1 h2;subst h1;subst h2;show bindC kindOf ((p,w)::P.zip vs) m p=_;unfold bindC;rw[zim fun v hv=>(List.nodup_cons.mp nd).1 (Fn hv).1,if_neg hk];simp
 | p::P,w::vs,i+1,m,nd,h1,h2,hk=>by show bindC kindOf ((p,w)::P.zip vs) m x=_;unfold bindC;exact zin (i:=i) (List.nodup_cons.mp nd).2 (by simpa using h1) (by simpa using h2) hk
def start(N:List Str)(vs:List V):St:=vs.map some++Cw (N.length - vs.length) none
def cxOf(CX:CXT)(P:Program)(w:World)(K:Ae)(mg:Str->Option Value)(base:Heap)(N:List Str)(qual:Str)(scope:Scope)(f:Addr)(cd:Value)(A:Around)(outer:List Env)(s:Shared)(H:Hp)(E:XK):Cx where
 prog:=P
 w:=w
 K:=K
 mg:=mg
 base:=base
 A:=A.deeper (envOfC qual scope s.heap.objs.size f cd)
 N:=N
 s₀:=s
 H₀:=H
 env:=envOfC qual scope s.heap.objs.size f cd
 outer:=outer
 stack:=envOfC qual scope s.heap.objs.size f cd::outer
 ex:=[]
 calm:=true
 fn:=fun _=>true
 pn:=[]
 xe:=fun e s'=>wpAny (model P w) (A.deeper<|envOfC qual scope s.heap.objs.size f cd) (leaving (envOfC qual scope s.heap.objs.size f cd) e) (fun _ s''=>CX outer H s E e s'') (fun e' s''=>CX outer H s E e' s'') s'
def zkL{sc:Scope}(h:sc.names.lookup x=some .cell):∃ c,(cellsFrom n sc.names []).lookup x=some c:=by have q:=FA sc.names n []<|.inl h;exact Option.isSome_iff_exists.mp q
variable {mg:Str->Option Value}{base:Heap}{qual:Str}{scope:Scope}
def zl0{f:Addr}{cd:Value}{outer:List Env}{s1:Shared}{E:XK}{vs:List V}
   (S:FnScope N ps scope) (hd:A.handled=none) (e0:Env0 P w K mg base A outer s H) (hl:vs.length=ps.length) (r:Vals vs us)
   (x:InCallC s s.heap.objs.size (bindL (envOfC qual scope s.heap.objs.size f cd).kindOf (ps.zip us) fun _=>none) (cellsFrom (s.heap.objs.size+1) scope.names []) (bindC (envOfC qual scope s.heap.objs.size f cd).kindOf (ps.zip us) fun _=>none) s1) :
   Inv (cxOf CX P w K mg base N qual scope f cd A outer s H E) [] (start N vs) H s1:=by
 have hpl:ps.length<=N.length:=by have:=congrArg List.length S.pre;rw[A1] at this;omega
 obtain⟨h1,tk,rfl,hk⟩:=x.done;have noA:∀ b:Addr,b ∉ (cxOf CX P w K mg base N qual scope f cd A outer s H E).ex:=fun b z=>absurd (show b∈([]:List Addr) from z) (by simp);refine⟨⟨e0.mod,S.kind,rfl,rfl,Af _,fun y z c h1 h2=>?_,fun y hy=>?_,fun y c _ h=>?_,fun _=>hd,Around.frames_deeper e0.frames,.inr ⟨rfl,rfl⟩,fun b z=>absurd z (noA b),e0.bs,e0.bsz,fun b _ _=>noA b,fun b z=>absurd z (noA b),e0.funs,e0.frf⟩,
   rfl,e0.bare,Un.kept hk,⟨_,x.toInCall.ns,fun i y v h1 h2 h3=>?_⟩,fun y c h=>⟨_,x.cell y c h⟩,e0.hok.fresh (Af _),fun y c h=>?_,fun p hp=>absurd (show p∈([]:List (Addr×Obj)) from hp) (by simp),e0.hok.kept hk,?_⟩
 . exact name_of_addr x.apart (A6 h1)<|A6 h2
 . have hy:scope.names.lookup y=some .cell\/scope.names.lookup y=some .free:=hy
   rcases hy with hy | hy
   . exact zkL hy
   exact absurd rfl<|S.nofree _<|A6 hy
 . exact Cy<|x.above y c<|A6 h
 . have hi:i < vs.length:=by
     unfold start at h2
     by_cases hi:i < vs.length
     . exact hi
     . rw[Bb (by simpa using hi)] at h2;rw[CG] at h2
       split at h2 <;> cases h2
   have ha:vs[i]?=some v:=by
     unfold start at h2;rw[Az (by simpa using hi),AB] at h2
     cases e:vs[i]? with
     | none=>rw[e] at h2;cases h2
     | some a=>rw[e] at h2;cases h2;rfl
   obtain⟨u,hu,rv⟩:=r.get ha;have hp:ps[i]?=some y:=by rw[<-S.pre,List.getElem?_take_of_lt (by omega)];exact h1
   have ndP:ps.Nodup:=by rw[<-S.pre];exact S.nd.sublist<|GJ _ _
   refine⟨u,rv,?_⟩
   rcases S.par y (AW hp) with k | k
   . exact .inl ⟨k,zil ndP hp hu k⟩
   obtain⟨c,e⟩:=zkL (n:=s.heap.objs.size+1) k;refine .inr ⟨.inl k,c,e,?_⟩;have q:=x.cell y c e;rw[zin ndP hp hu (by show scope.names.lookup y≠_;rw[k];decide)] at q;exact q
 . exact e0.hok.fresh<|Cy<|x.above y c<|A6 h
 unfold start;show _=N.length;rw[AE,Ai,CY];omega
def zuw{k:Nat}{f:Addr}{name qual:Str}{params:Arguments}{body:List Stmt}{scope:Scope}{dV kV doc pm cdv ct oc:Value}{an od:Option Addr}
   {osl:Array (Option Value)}   (lk:K.lookup f=some ⟨oc,od,.func<|Ci name qual params body scope dV kV doc pm an cdv ct,osl⟩) (hcd:Du K cdv qual=true) (S:FnScope N ps scope)
   (len:∀ vs H Q E,sp vs H Q E->vs.length=ps.length)
   (hbody:∀ (A:Around) (outer:List Env) (s:Shared) (H:Hp) (vs:List V) (Q:VK) (E:XK),Room k (A.deeper<|envOfC qual scope s.heap.objs.size f cdv)->sp vs H Q E ->
     ∃ t,PSs (cxOf CX P w K mg base N qual scope f cdv A outer s H E) body t/\t { nx:=fun _ H'=>Q .non H',rt:=Q } (start N vs) H) :
   FnOk P w K mg base CX (k+1) f (Ci name qual params body scope dV kV doc pm an cdv ct) ps sp:=by
 refine⟨len,fun A outer s H args us vs Q E hr e0 hb r hsp=>?_⟩;have hl:=len _ _ _ _ hsp;have KX:K.In s.heap:=e0.mod.kin.keeps fun b o e=>(e0.bs b o e).1;have lim:s.heap.NoLimit:=e0.mod.nolimit.keeps fun b o e=>(e0.bs b o e).1;have hkind:∀ y∈ps.zip us,scope.names.lookup y.1=some .local\/(scope.names.lookup y.1=some .cell/\((cellsFrom (s.heap.objs.size+1) scope.names []).lookup y.1).isSome=true):=by
   rintro ⟨n,v⟩ hy
   rcases S.par n (Fn hy).1 with q | q
   . exact .inl q
   exact .inr ⟨q,FA _ _ _<|.inl q⟩
 refine codeAny_call_function hr.depth (KX _ _ lk) rfl S.co S.gen rfl (PySem.W.codeRec_of KX hcd)<|hb _ _ _ _ ?_;refine wpAny_newFunctionEnv_cells S.kind hkind fun env he s1 x=>?_;subst he;refine⟨lim.keeps x.toInCall.keep,codeAny_func ?_⟩;obtain⟨t,ht,hq⟩:=hbody A outer s H vs Q E (hr.deeper _) hsp;have I:Inv (cxOf CX P w K mg base N qual scope f cdv A outer s H E) [] (start N vs) H s1:=zl0 S hr.hd e0 hl r x;refine BG (ht [] s1 (start N vs) H _ I hq) (fun fl s' hs=>?_) fun e s' hs=>hs;have fin:∀ {M':St} {H':Hp} {v:V} {u:Value},Inv (cxOf CX P w K mg base N qual scope f cdv A outer s H E) [] M' H' s'->RelV v u->Q v H'->CE outer P w H s Q u s' :=
   fun {M' H' v u} J rv q=>⟨v,H',J.os,J.bare,J.base,J.hok,rv,q⟩
 cases fl with
 | ret u =>
   obtain⟨v,M',H',J,rv,q⟩:=hs;exact fin J rv q
 | next =>
   obtain⟨M',H',J,q⟩:=hs;exact fin (v:=V.non) (u:=AZ) J rfl q
 | brk =>
   obtain⟨_,_,_,q⟩:=hs;exact False.elim q
 | cont =>
   obtain⟨_,_,_,q⟩:=hs;exact False.elim q
variable {id T:String}
section
variable {t:TA} {r:List V->Hp->VK->Prop}
def tCB(r:List V->Hp->VK->Prop)(t:TA):TE:=fun M H Q=>t M H fun vs H1=>r vs H1 Q
def zfW(hc:zgU X (.builtin id) r)(hg:Gl X x)(hm:X.mg x=none)(hv:bootBuiltins x=some (.builtin id))(ha:PA X (e::es) t)(hn:x≠"__name__":=by decide)(hdb:(x==("__debug__":Str))=false:=by decide)
   (he:starEach (e::es) X.env=(false,eval e X.env)::starEach es X.env:=by rfl) (hpl:(backTo pos<|starEach es X.env).any (·.1)=false:=by rfl):PE X (.Call (.Name x p) (e::es) [] pos) (tCB r t):=by
 intro pins s M H Q I h;refine Ej<|zkg I hg hm hv ?_ hn hdb;exact PyProof.Rows.callWith_builtin1 (thn (ha pos pins s M H _ I h) fun us s1 ⟨vs,H1,I1,r1,q1⟩=>hc pins s1 M H1 vs us Q I1 r1 q1) he hpl
def zfV(hc:zgU X (.type T) r)(hg:Gl X x)(hm:X.mg x=none)(hv:bootBuiltins x=some (.type T))(ha:PA X (e::es) t)(hn:x≠"__name__":=by decide)(hdb:(x==("__debug__":Str))=false:=by decide)
   (he:starEach (e::es) X.env=(false,eval e X.env)::starEach es X.env:=by rfl) (hpl:(backTo pos<|starEach es X.env).any (·.1)=false:=by rfl):PE X (.Call (.Name x p) (e::es) [] pos) (tCB r t):=by
 intro pins s M H Q I h;refine Ej<|zkg I hg hm hv ?_ hn hdb;exact C4 (thn (ha pos pins s M H _ I h) fun us s1 ⟨vs,H1,I1,r1,q1⟩=>hc pins s1 M H1 vs us Q I1 r1 q1) he hpl
end
section
variable [DecidableEq κ]
def valV(kvs:List (κ×V))(k:κ):Option V:=(kvs.find? fun kv=>decide (kv.1=k)).map (·.2)
def putK(kvs:List (κ×V))(k:κ)(v:V):List (κ×V) :=
 if (kvs.any fun kv=>decide (kv.1=k))=true then kvs.map (fun kv=>if kv.1=k then (kv.1,v) else kv) else kvs++[(k,v)]
def zg5{p:κ×V}{r:List (κ×V)}{k:κ}(e:p.1=k):valV (p::r) k=some p.2:=by simp[valV,Bx,e]
def zg6{p:κ×V}{r:List (κ×V)}{k:κ}(e:¬ p.1=k):valV (p::r) k=valV r k:=by simp[valV,Bx,e]
def zi4(k:κ):∀ kvs:List (κ×V),(kvs.any fun kv=>decide (kv.1=k))=(valV kvs k).isSome
 | []=>rfl
 | p::r=>by
   rw[CJ]
   by_cases e:p.1=k
   . simp only[zg5 e,decide_eq_true e,Bool.true_or,Gq]
   rw[zg6 e,decide_eq_false e,Bool.false_or];exact zi4 k r
def zd5(kvs:List (κ×V))(k:κ)(v:V):(putK kvs k v).length<=kvs.length+1:=by
 unfold putK
 split
 . rw[Ai];omega
 rw[AE,AA,BH];omega
def RelO.isSome_eq{o:Option V}{u:Option Value}(r:RelO o u):o.isSome=u.isSome:=by
 cases o with
 | none=>cases u with
   | none=>rfl
   | some _=>exact (show False from r).elim
 | some _=>cases u with
   | none=>exact (show False from r).elim
   | some _=>rfl
def KV.val{kvs:List (κ×V)}{vs:List (κ×Value)}(r:KV kvs vs)(k:κ):RelO (valV kvs k) (valueAt vs k):=by
 unfold KV at r
 induction r with
 | nil=>exact F6
 | @cons p q ps qs h t ih =>
   obtain⟨h1,h2⟩:=h
   by_cases e:p.1=k
   . have e':q.1=k:=h1.symm.trans e;have b:valueAt (q::qs) k=some q.2:=by simp[valueAt,Bx,e']
     rw[zg5 e,b];exact h2
   . have e':¬ q.1=k:=fun z=>e<|h1.trans z;have b:valueAt (q::qs) k=valueAt qs k:=by simp[valueAt,Bx,e']
     rw[zg6 e,b];exact ih
def KV.any{kvs:List (κ×V)}{vs:List (κ×Value)}(r:KV kvs vs)(k:κ):(kvs.any fun kv=>decide (kv.1=k))=vs.any fun kv=>decide (kv.1=k):=by
 unfold KV at r
 induction r with
 | nil=>rfl
 | cons h t ih=>rw[CJ,CJ,ih,h.1]
def KV.repl{kvs:List (κ×V)}{vs:List (κ×Value)}(r:KV kvs vs)(k:κ)(ry:RelV y u) :
   KV (kvs.map fun kv=>if kv.1=k then (kv.1,y) else kv) (vs.map fun kv=>if kv.1=k then (kv.1,u) else kv):=by
 unfold KV at r ⊢
 induction r with
 | nil=>exact .nil
 | @cons p q ps qs h t ih =>
   rw[Ao,Ao];refine .cons ?_ ih;obtain⟨h1,h2⟩:=h
   by_cases e:p.1=k
   . rw[if_pos e,if_pos (h1.symm.trans e)];exact⟨h1,ry⟩
   rw[if_neg e,if_neg (fun z=>e (h1.trans z))];exact⟨h1,h2⟩
def KV.put{kvs:List (κ×V)}{vs:List (κ×Value)}(r:KV kvs vs)(k:κ)(ry:RelV y u):KV (putK kvs k y) (stored vs k u):=by
 unfold putK stored;rw[r.any k]
 by_cases e:(vs.any fun kv=>decide (kv.1=k))=true
 . rw[if_pos e,if_pos e];exact r.repl k ry
 rw[if_neg e,if_neg e];exact HR r ⟨rfl,ry⟩
def KV.length{kvs:List (κ×V)}{vs:List (κ×Value)}(r:KV kvs vs):kvs.length=vs.length:=BF r
end
def zpn{k:Key}(r:RelV (kV k) u):(zbm P w).is k u=true:=by
 cases k with
 | inl i=>obtain⟨t,e⟩:=(show ∃ t,u=Gn i t from r);subst e;exact ziM P w i t
 | inr x=>obtain⟨t,e⟩:=(show ∃ t,u=Fk x t from r);subst e;exact ziL P w x t
def zid{P:Program}{w:World}:∀ {ks:List Key} {us:List Value},Vals (ks.map kV) us->ItemsAre (zbm P w) ks us
 | [],_,r=>by rw[Cz] at r;cases r;exact .nil
 | k::ks,_,r=>by
   rw[Ao] at r
   cases r with
   | cons h t=>exact .cons (zpn h)<|zid t
noncomputable abbrev KT (H:Hp):List (List Key×V)->List (List Key×Addr×Value)->Prop:=Paired fun p q=>p.1=q.1/\H q.2.1=some (.tup<|p.1.map kV)/\RelV p.2 q.2.2
variable {xs:List (List Key×Addr×Value)}{kvs:List (List Key×V)}
def KT.val(r:KT H kvs xs)(k:List Key):RelO (valV kvs k) ((atKey xs k).map (·.2)):=by
 induction r with
 | nil=>exact F6
 | @cons p q ps qs h t ih =>
   obtain⟨h1,_,h2⟩:=h
   by_cases e:p.1=k
   . have e':q.1=k:=h1.symm.trans e;have b:atKey (q::qs) k=some q.2:=by simp[atKey,Bx,e']
     rw[zg5 e,b];exact h2
   . have e':¬ q.1=k:=fun z=>e<|h1.trans z;have b:atKey (q::qs) k=atKey qs k:=by simp[atKey,Bx,e']
     rw[zg6 e,b];exact ih
def KT.repl(r:KT H kvs xs)(k:List Key)(ry:RelV y u) :
   KT H (kvs.map fun kv=>if kv.1=k then (kv.1,y) else kv) (xs.map<|putAt k u):=by
 induction r with
 | nil=>exact .nil
 | @cons p q ps qs h t ih =>
   rw[Ao,Ao];refine .cons ?_ ih;obtain⟨h1,h2,h3⟩:=h;unfold putAt
   by_cases e:p.1=k
   . rw[if_pos e,if_pos (h1.symm.trans e)];exact⟨h1,h2,ry⟩
   rw[if_neg e,if_neg (fun z=>e (h1.trans z))];exact⟨h1,h2,h3⟩
def KT.put(r:KT H kvs xs)(k:List Key)(hb:H b=some (.tup<|k.map kV))(ry:RelV y u) :
   KT H (putK kvs k y) (storedH xs k b u):=by
 have e:(kvs.any fun kv=>decide (kv.1=k))=(atKey xs k).isSome:=by rw[zi4,(r.val k).isSome_eq,EB]
 unfold putK storedH;rw[e]
 by_cases q:(atKey xs k).isSome=true
 . rw[if_pos q,if_pos q];exact r.repl k ry
 rw[if_neg q,if_neg q];exact HR r ⟨rfl,hb,ry⟩
def KT.keeps(r:KT H kvs xs)(ht:∀ b ys,H b=some (.tup ys)->H' b=some (.tup ys)):KT H' kvs xs :=
 Paired.mapP r fun _ _ z=>⟨z.1,ht _ _ z.2.1,z.2.2⟩
def ztB{u:HO}(ok:HOk P w H h)(e:Rd H a u):zdN P w H h a u:=e.ok ok
def zpr{kvs:List (Key×V)}(ok:HOk P w H h)(e:Rd H a (.dK kvs)):kvs.length<=sizeLine/\(a==sysModules)=false/\∃ vs,KV kvs vs/\h.DictOf (zbm P w) a vs :=
 show zdN P w H h a (.dK kvs) from ztB ok e
def zuE{kvs:List (Key×V)}(ok:HOk P w H h)(e:H a=some (.dK kvs)):kvs.length<=sizeLine/\(a==sysModules)=false/\∃ vs,KV kvs vs/\h.DictOf (zbm P w) a vs:=zpr ok<|.inl e
def zkj{ks:List Key}(ok:HOk P w H h)(e:H a=some (.tup<|ks.map kV)):(tupleKind<|zbm P w).is h ks a:=by
 obtain⟨_,its,r,o,h1,h2,_,n,h3⟩:=(show zdN P w H h a (.tup<|ks.map kV) from ok a _ e)
 exact⟨o,its.toArray,n,h1,h2,h3,by simpa using zid r⟩
def zpq(ok:HOk P w H h)(e:Rd H a (.dT kvs)):kvs.length<=sizeLine/\(a==sysModules)=false /\
   ∃ xs,KT H kvs xs/\h.DictOfH (tupleKind<|zbm P w) a xs:=by
 obtain⟨z,y,xs,r,o,es,ep,h1,h2,h3,h4,h5⟩:=(show zdN P w H h a (.dT kvs) from ztB ok e)
 refine⟨z,y,xs,r,o,es,ep,h1,h2,h3,h4,fun x hx=>?_,h5⟩;have all:∀ {l:List (List Key×V)} {m:List (List Key×Addr×Value)},KT H l m->∀ x∈m,(tupleKind<|zbm P w).is h x.1 x.2.1:=by
   intro l m q
   induction q with
   | nil=>intro x hx;exact nomatch hx
   | @cons p q ps qs hq t ih =>
     intro x hx
     rcases List.mem_cons.mp hx with e | hx
     . subst e;exact zkj ok (by rw[<-hq.1];exact hq.2.1)
     exact ih x hx
 exact all r x hx
def zuC(ok:HOk P w H h)(e:H a=some (.dT kvs)):kvs.length<=sizeLine/\(a==sysModules)=false /\
   ∃ xs,KT H kvs xs/\h.DictOfH (tupleKind<|zbm P w) a xs:=zpq ok (.inl e)
def DGet(H:Hp)(a:Addr)(y:V)(r:Option V):Prop :=
 (∃ kvs k,Rd H a (.dK kvs)/\y=kV k/\r=valV kvs k)\/∃ kvs k b,Rd H a (.dT kvs)/\y=.ref b/\H b=some (.tup<|k.map kV)/\r=valV kvs k
def DPut(H:Hp)(a:Addr)(y v:V)(H':Hp):Prop :=
 (∃ kvs k,H a=some (.dK kvs)/\y=kV k/\kvs.length < sizeLine/\H'=upd H a (.dK<|putK kvs k v)) \/
 ∃ kvs k b,H a=some (.dT kvs)/\y=.ref b/\H b=some (.tup<|k.map kV)/\kvs.length < sizeLine/\H'=upd H a (.dT<|putK kvs k v)
def DGet.k{H:Hp}{a:Addr}{kvs:List (Key×V)}{k:Key}(e:H a=some (.dK kvs)):DGet H a (kV k) (valV kvs k):=.inl ⟨kvs,k,.inl e,rfl,rfl⟩
def DGet.t{k:List Key}(e:H a=some (.dT kvs))(eb:H b=some (.tup<|k.map kV)):DGet H a (.ref b) (valV kvs k):=.inr ⟨kvs,k,b,.inl e,rfl,eb,rfl⟩
def DPut.k{H:Hp}{a:Addr}{kvs:List (Key×V)}{k:Key}{v:V}(e:H a=some (.dK kvs))(hl:kvs.length < sizeLine):DPut H a (kV k) v (upd H a<|.dK<|putK kvs k v):=.inl ⟨kvs,k,e,rfl,hl,rfl⟩
def DPut.t{k:List Key}(e:H a=some (.dT kvs))(eb:H b=some (.tup<|k.map kV))(hl:kvs.length < sizeLine) :
   DPut H a (.ref b) v (upd H a<|.dT<|putK kvs k v):=.inr ⟨kvs,k,b,e,rfl,eb,hl,rfl⟩
section
variable {r:Value} {o:Option V}
def Inv.big(I:Inv X pins M H s):sysModules < s.heap.objs.size:=by have h:mainGlobals < s.heap.objs.size:=(I.mod.glob.keeps I.bk).lt;exact CA (by decide) h
def zl7(hu:A.units+1 < cLine)(I:Inv X pins M H s)(g:DGet H a y (some v))(ry:RelV y u)(h:∀ w' s',Inv X pins M H s'->RelV v w'->Q w' s') :
   wpAny (model X.prog X.w) A (getItem (.ref a) u) Q E s:=by
 rcases g with ⟨kvs,k,e,ey,l⟩ | ⟨kvs,k,b,e,ey,eb,l⟩
 . subst ey;obtain⟨z,hd,vs,rel,dd⟩:=zpr I.hok e;obtain⟨w',hw,rw'⟩:=RelO.some_of (v:=v) (o:=valueAt vs k) (by rw[l];exact rel.val k);exact wpAny_getItem_of (zpn ry) dd.mapOf hw<|h w' _ (I.tok _) rw'
 . subst ey
   cases (show u=AC b from ry)
   obtain⟨z,hd,xs,rel,dd⟩:=zpq I.hok e;obtain⟨w',hw,rw'⟩:=RelO.some_of (v:=v) (o:=(atKey xs k).map (·.2)) (by rw[l];exact rel.val k);obtain⟨p,hp,hp2⟩:=Option.map_eq_some_iff.mp hw;refine wpAny_getItem_heap (Dl hu) (zkj I.hok eb) dd hp ?_;rw[hp2];exact h w' _ (I.tok _) rw'
def d_in(hu:A.units+1 < cLine)(I:Inv X pins M H s)(g:DGet H a y o)(ry:RelV y u)(h:∀ s',Inv X pins M H s'->Q (.bool o.isSome) s') :
   wpAny (model X.prog X.w) A (compareOp .In u<|.ref a) Q E s:=by
 rcases g with ⟨kvs,k,e,ey,l⟩ | ⟨kvs,k,b,e,ey,eb,l⟩
 . subst ey;obtain⟨z,hd,vs,rel,dd⟩:=zpr I.hok e;refine wpAny_in_of (zpn ry) hd dd.mapOf ?_;rw[<-(rel.val k).isSome_eq,<-l];exact h _<|I.tok _
 . subst ey
   cases (show u=AC b from ry)
   obtain⟨z,hd,xs,rel,dd⟩:=zpq I.hok e;refine wpAny_in_heap (Dl hu) (zkj I.hok eb) hd dd ?_;have q:=(rel.val k).isSome_eq;rw[EB] at q;rw[<-q,<-l];exact h _<|I.tok _
def zrr(hu:A.units+1 < cLine)(I:Inv X pins M H s)(g:DGet H a y o)(ry:RelV y u)(h:∀ s',Inv X pins M H s'->Q (.bool<|!o.isSome) s') :
   wpAny (model X.prog X.w) A (compareOp .NotIn u<|.ref a) Q E s:=by
 rcases g with ⟨kvs,k,e,ey,l⟩ | ⟨kvs,k,b,e,ey,eb,l⟩
 . subst ey;obtain⟨z,hd,vs,rel,dd⟩:=zpr I.hok e;refine wpAny_notIn_of (zpn ry) hd dd.mapOf ?_;rw[<-(rel.val k).isSome_eq,<-l];exact h _<|I.tok _
 . subst ey
   cases (show u=AC b from ry)
   obtain⟨z,hd,xs,rel,dd⟩:=zpq I.hok e;refine wpAny_notIn_heap (Dl hu) (zkj I.hok eb) hd dd ?_;have q:=(rel.val k).isSome_eq;rw[EB] at q;rw[<-q,<-l];exact h _<|I.tok _
def zna{ob:HO}(I:Inv X pins M H s)(mu:Mut (H a))(hs:Be a s.heap h')(he:∃ q,h'.get? a=some q)(new:zdN X.prog X.w (upd H a ob) h' a ob) :
   Inv X pins M (upd H a ob) { s with heap:=h',toks:=t' } :=
 I.write (x:=a) (e:=a) mu (.inl rfl) (fun b q hb z=>(hs.2 b hb).trans z) he new
def zoX{kvs:List (Key×V)}{vs:List (Key×Value)}(z:kvs.length<=sizeLine)(hd:(a==sysModules)=false)(rel:KV kvs vs)(dd:h'.DictOf (zbm P w) a vs) :
   zdN P w H' h' a (.dK kvs):=⟨z,hd,vs,rel,dd⟩
def zl6{Q:Unit->Shared->Prop}(hu:A.units+1 < cLine)(I:Inv X pins M H s)(g:DPut H a y v H')(ry:RelV y u)(rv:RelV v r)(h:∀ s',Inv X pins M H' s'->Q () s') :
   wpAny (model X.prog X.w) A (setItem (.ref a) u r) Q E s:=by
 rcases g with ⟨kvs,k,e,ey,l,eH⟩ | ⟨kvs,k,b,e,ey,eb,l,eH⟩
 . subst ey eH;obtain⟨z,hd,vs,rel,dd⟩:=zuE I.hok e;have hz:vs.length<=sizeLine:=by rw[<-rel.length];exact z
   have hl:(putK kvs k v).length<=sizeLine:=by have:=zd5 kvs k v;omega
   refine wpAny_setItem_pairs (hsz:=hz) (zpn ry) dd fun h' dd' hs=>h _ ?_;have he:∃ q,h'.get? a=some q:=let ⟨q,_,_,hq,_⟩:=dd';⟨q,hq⟩
   exact zna I (by rw[e];exact F6) hs he<|zoX hl hd (rel.put k rv) dd'
 . subst ey eH
   cases (show u=AC b from ry)
   obtain⟨z,hd,xs,rel,dd⟩:=zuC I.hok e;have hz:xs.length<=sizeLine:=by rw[<-BF rel];exact z
   have hl:(putK kvs k v).length<=sizeLine:=by have:=zd5 kvs k v;omega
   refine wpAny_setItem_heap (hsz:=hz) (Dl hu) (zkj I.hok eb) dd fun h' dd' hs=>h _ ?_;obtain⟨q,es,ep,hq,h2,h3,h4,_,h5⟩:=dd';refine zna I (by rw[e];exact F6) hs ⟨q,hq⟩ ⟨hl,hd,_,(rel.put k eb rv).keeps fun c ys ec=>?_,q,es,ep,hq,h2,h3,h4,h5⟩;rw[zaV (zsX ec e fun z=>nomatch z)];exact ec
end
def NoSl(i:Expr):Prop:=∀ ov iv,subscripted i false ov iv=operate [ov,iv] (getItem ov iv)
variable {value:Expr}
def zpD{prog:Program}{env:Env}{slice:Expr}
   (hl:typeLookup (.type T) "__getitem__"=pure (some<|.builtin id)) (hs:NoSl slice)
   (h:wpAny (model prog w) A (eval value env) (fun o s₁=>wpAny (model prog w) A (eval slice env) (fun i s₂=>s₂.TypeIs o T/\wpAny (model prog w) A (getItem o i) Q E s₂) E s₁) E s) :
   wpAny (model prog w) A (eval (.Subscript value slice pos) env) Q E s:=by
 refine DY<|BG h (fun o s₁ h₁=>BG h₁ (fun i s₂ h₂=>?_) fun _ _ x=>x) fun _ _ x=>x;obtain⟨hT,h₂⟩:=h₂;unfold subscriptTail;refine Aa ?_;rw[getitemInPython_of_ne hT.not_modules];refine Aa<|Fo hT hl ?_;have fin:wpAny (model prog w) A (subscripted slice false o i) (fun r s₃=>wpAny (model prog w) A (letTemporaryGo value o r >>= fun _=>pure r) Q E s₃) E s₂:=by rw[hs o i];exact wpAny_operating<|BG h₂ (fun r s₃ h₃=>Aa (wpAny_letTemporaryGo<|Ab h₃)) fun _ _ x=>x
 first
   | exact Ab (Aa fin)
   | exact Aa (Ab<|Aa fin)
   | exact Aa fin
def ziP{o:Option V}(I:Inv X pins M H s)(g:DGet H a y o):s.TypeIs (.ref a) "dict":=by
 rcases g with ⟨kvs,k,e,_,_⟩ | ⟨kvs,k,b,e,_,_,_⟩
 . obtain⟨_,_,vs,_,dd⟩:=zpr I.hok e;exact dd.typeIs
 obtain⟨_,_,xs,_,dd⟩:=zpq I.hok e;exact dd.typeIs
def ztT(td ty:TE):TE:=fun M H Q=>td M H fun x H1=>ty M H1 fun y H2=>∃ a v,x=.ref a/\DGet H2 a y (some v)/\Q v H2
def tDIn(ty td:TE):TE:=fun M H Q=>ty M H fun y H1=>td M H1 fun x H2=>∃ a o,x=.ref a/\DGet H2 a y o/\Q (.bl o.isSome) H2
def zpB(ty td:TE):TE:=fun M H Q=>ty M H fun y H1=>td M H1 fun x H2=>∃ a o,x=.ref a/\DGet H2 a y o/\Q (.bl<|!o.isSome) H2
def zt1(td ty tv:TE):TS:=fun D M H=>tv M H fun v H1=>td M H1 fun x H2=>ty M H2 fun y H3=>∃ a H4,x=.ref a/\DPut H3 a y v H4/\D.nx M H4
section
variable {o i:Expr} {tpos:Pos} {td ty tv:TE}
def zqC(hu:X.A.units+1 < cLine)(ho:PE X o td)(hi:PE X i ty)(hs:NoSl i):PE X (.Subscript o i pos) (ztT td ty):=by intro pins s M H Q I h;refine zpD PySem.F.slot_dict_getitem.lookup hs<|thn (ho pins s M H _ I h) fun u s1 ⟨x,H1,I1,rx,q1⟩=>thn (hi pins s1 M H1 _ I1 q1) ?_;rintro iv s2 ⟨y,H2,I2,ry,a,v,ex,g,q2⟩;subst ex;obtain rfl:u=AC a:=rx;exact⟨ziP I2 g,zl7 hu I2 g ry fun w' s3 I3 rw'=>⟨v,H2,I3,rw',q2⟩⟩
def zsK(hu:X.A.units+1 < cLine)(hi:PE X i ty)(ho:PE X o td):PC X .In i o (tDIn ty td):=by intro pins s M H Q I h;refine thn (hi pins s M H _ I h) fun iv s1 ⟨y,H1,I1,ry,q1⟩=>thn (ho pins s1 M H1 _ I1 q1) ?_;rintro u s2 ⟨x,H2,I2,rx,a,ov,ex,g,q2⟩;subst ex;obtain rfl:u=AC a:=rx;exact d_in hu I2 g ry fun s3 I3=>⟨.bl ov.isSome,H2,I3,rfl,q2⟩
def zlF(hu:X.A.units+1 < cLine)(hi:PE X i ty)(ho:PE X o td):PC X .NotIn i o (zpB ty td):=by intro pins s M H Q I h;refine thn (hi pins s M H _ I h) fun iv s1 ⟨y,H1,I1,ry,q1⟩=>thn (ho pins s1 M H1 _ I1 q1) ?_;rintro u s2 ⟨x,H2,I2,rx,a,ov,ex,g,q2⟩;subst ex;obtain rfl:u=AC a:=rx;exact zrr hu I2 g ry fun s3 I3=>⟨.bl<|!ov.isSome,H2,I3,rfl,q2⟩
def zqr(hu:X.A.units+1 < cLine)(ho:PE X o td)(hi:PE X i ty)(hv:PE X value tv)(hs:swapsWith value (some<|.Subscript o i pos') pos.line X.env=pure false) :
   PS X (.Assign [.Subscript o i pos'] value pos) (zt1 td ty tv):=by
 intro pins s M H D I h;refine wpAny_Assign_Subscript (thn (hv pins s M H _ I h) fun r s1 ⟨v,H1,I1,rv,q1⟩=>thn (ho pins s1 M H1 _ I1 q1) fun u s2 ⟨x,H2,I2,rx,q2⟩=>thn (hi pins s2 M H2 _ I2 q2) ?_) hs;rintro iv s3 ⟨y,H3,I3,ry,a,H4,ex,g,q3⟩;subst ex;obtain rfl:u=AC a:=rx;exact zl6 hu I3 g ry rv fun s4 I4=>⟨M,H4,I4,q3⟩
end
def zoY(h:Heap)(hb:sysModules < h.objs.size):zdN P w H (h.push { cls:=.type "dict",data:=.dict #[] }) h.objs.size (.dK []) :=
 ⟨AY _,beq_eq_false_iff_ne.mpr<|BV<|Ap hb,[],.nil,Fp h⟩
def zoV(h:Heap)(hb:sysModules < h.objs.size):zdN P w H (h.push { cls:=.type "dict",data:=.dict #[] }) h.objs.size (.dT []) :=
 ⟨AY _,beq_eq_false_iff_ne.mpr<|BV<|Ap hb,[],.nil,_,#[],0,Al _ rfl,⟨rfl,rfl,rfl⟩,rfl,rfl,Ec⟩
def zrY:TE:=fun _ H Q=>∀ p,H p=none->Q (.ref p) (upd H p<|.dK [])
def zrX:TE:=fun _ H Q=>∀ p,H p=none->Q (.ref p) (upd H p<|.dT [])
def zn6:PE X (.Dict [] [] pos) zrY:=fun pins s M H Q I h =>
 wpAny_Dict_empty ⟨.ref s.heap.objs.size,_,I.laid (a:=s.heap.objs.size) (o:=.dK []) (t':=s.toks) (fun _ _ q=>Ad _ q) (Af _)<|zoY s.heap I.big,rfl,h _<|I.hok.fresh<|Af _⟩
def zn5:PE X (.Dict [] [] pos) zrX:=fun pins s M H Q I h =>
 wpAny_Dict_empty ⟨.ref s.heap.objs.size,_,I.laid (a:=s.heap.objs.size) (o:=.dT []) (t':=s.toks) (fun _ _ q=>Ad _ q) (Af _)<|zoV s.heap I.big,rfl,h _<|I.hok.fresh<|Af _⟩
def zfm(kvs more:List (Key×V)):List (Key×V):=more.foldl (fun acc kv=>putK acc kv.1 kv.2) kvs
def KV.merge:∀ {more:List (Key×V)} {rs:List (Key×Value)} {kvs:List (Key×V)} {vs:List (Key×Value)},KV more rs->KV kvs vs->KV (zfm kvs more) (merged vs rs):=by
 intro more rs kvs vs r;unfold KV at r
 induction r generalizing kvs vs with
 | nil=>intro q;exact q
 | @cons p q ps qs h t ih =>
   intro r0;have e:KV (putK kvs p.1 p.2) (stored vs q.1 q.2):=by have:=r0.put p.1 h.2;rw[<-h.1];exact this
   exact ih e
def zdh:∀ (more kvs:List (Key×V)),(zfm kvs more).length<=kvs.length+more.length
 | [],kvs=>by show kvs.length<=kvs.length+0;omega
 | p::r,kvs=>by have h1:=zdh r<|putK kvs p.1 p.2;have h2:=zd5 kvs p.1 p.2;show (zfm (putK kvs p.1 p.2) r).length<=_;rw[AA];omega
def IsD(H:Hp)(a:Addr):Prop:=(∃ kvs,Rd H a (.dK kvs))\/∃ kvs,Rd H a (.dT kvs)
def zrf(I:Inv X pins M H s)(d:IsD H a) :
   s.TypeIs (.ref a) "dict"/\(∀ b,AC a=.ref b->∃ ob,s.heap.get? b=some ob/\ob.dict=none)/\(a==sysModules)=false:=by
 rcases d with ⟨kvs,e⟩ | ⟨kvs,e⟩
 . obtain⟨_,hd,vs,_,dd⟩:=zpr I.hok e;refine⟨dd.typeIs,fun b q=>?_,hd⟩;cases q;obtain⟨ob,_,_,h1,h2,_⟩:=dd;exact⟨ob,h1,h2.2.1⟩
 obtain⟨_,hd,xs,_,dd⟩:=zpq I.hok e;refine⟨dd.typeIs,fun b q=>?_,hd⟩;cases q;obtain⟨ob,_,_,h1,h2,_⟩:=dd;exact⟨ob,h1,h2.2.1⟩
end L2
namespace HT
open PySem PyProof.Rows
def lexLt:List Int->List Int->Bool
 | [],[]=>false
 | [],_::_=>true
 | _::_,[]=>false
 | x::xs,y::ys=>if x=y then lexLt xs ys else decide (x < y)
theorem lexLt_cons(x y:Int)(xs ys:List Int):lexLt (x::xs) (y::ys)=if x=y then lexLt xs ys else decide (x < y):=rfl
theorem lexLt_nil_nil:lexLt [] []=false:=rfl
theorem lexLt_nil_cons(y:Int)(ys:List Int):lexLt [] (y::ys)=true:=rfl
theorem lexLt_cons_nil(x:Int)(xs:List Int):lexLt (x::xs) []=false:=rfl
def zoS(A:Around)(s:Shared)(a:Int)(t:Tok)(c:Int)(u:Tok):∃ e,SeqAt.EqAt A s (.int a t) (.int c u) e/\(e=true ↔ a=c) :=
 ⟨(a==c),Gs a t c u,by simp⟩
def znS(A:Around)(s:Shared)(a:Int)(t:Tok)(c:Int)(u:Tok)(prog:Program)(w:World)(E:Value->Shared->Prop)(Q:Value->Shared->Prop)(h:Q (.bool<|decide (a < c)) s) :
   wpAny (model prog w) A (richCompare .Lt (.int a t)<|.int c u) Q E s :=
 (G6 h:wpAny (model prog w) A (compareOp .Lt (.int a t)<|.int c u) Q E s)
section
open PySem.SeqAt
open PySem.MeetsSeq PySem.MeetsSeq2 PySem.MeetsSeq3
def zgh(l b:Addr)(items items2:Array Value)(n n2:Nat)(dd dd2:Option Addr)(sl sl2:Array (Option Value))(ns ms:List Int)(hi:IntsAre items.toList ns)(hj:IntsAre items2.toList ms) :
   Meets (Builtin.«tuple.__lt__» ⟨[.ref l,.ref b],[]⟩)
     (fun _ R s=>s.heap.get? l=some { cls:=.type "tuple",dict:=dd,data:=.seq items n,slots:=sl }/\s.heap.get? b=some { cls:=.type "tuple",dict:=dd2,data:=.seq items2 n2,slots:=sl2 } /\
       R (.ok<|.ret<|.bool<|lexLt ns ms) s) :=
 .of_wp fun prog w A R s h=>by
   obtain⟨hp,g,d,tk,os⟩:=s;obtain⟨hl,hb,h⟩:=h;have f2:=AutoSeq1.sub_tuple_tuple;have z1:items.size=ns.length:=by rw[<-hi.length];simp
   have z2:items2.size=ms.length:=by rw[<-hj.length];simp
   wp_walk using wpAny_loadPart' hl,wpAny_loadPart' hb,DQ _ (fun rest b s'=>b.1=none/\s'=⟨hp,g,d,tk,os⟩/\∃ (vs ws:List Value) (ns' ms':List Int),rest=vs.zip ws /\
     IntsAre vs ns'/\IntsAre ws ms'/\ns'.length+items2.size=ms'.length+items.size/\R (.ok<|.ret<|.bool<|lexLt ns' ms') ⟨hp,g,d,tk,os⟩) _
   case turn =>
     rintro ⟨y,x⟩ rest b s' ⟨hb',rfl,vs,ws,ns',ms',hz,hvi,hwi,hlen,hR⟩
     cases hvi with
     | nil=>rw[List.zip_nil_left] at hz;cases hz
     | cons a t hvi' =>
       cases hwi with
       | nil=>rw[List.zip_nil_right] at hz;cases hz
       | cons c u hwi' =>
         rw[CM] at hz;injection hz with hyx hrest
         injection hyx with hy hx
         subst hy hx;rw[lexLt_cons] at hR;simp only[AA] at hlen;obtain⟨e,he,hiff⟩:=zoS A.in1 ⟨hp,g,d,tk,os⟩ a t c u;refine Aa<|he prog w _ _ ?_
         cases e with
         | true =>
           rw[if_pos (hiff.mp rfl)] at hR
           wp_walk
           exact⟨rfl,rfl,_,_,_,_,hrest,hvi',hwi',by omega,hR⟩
         | false =>
           rw[if_neg (fun q=>absurd (hiff.mpr q) Bn)] at hR;have hri:=znS A.in1 ⟨hp,g,d,tk,os⟩ a t c u prog w
           wp_walk using hri
           exact⟨_,rfl,by simpa using hR⟩
   case fin =>
     rintro ⟨b1,b2⟩ s' ⟨hb',rfl,vs,ws,ns',ms',hz,hvi,hwi,hlen,hR⟩;simp only at hb';subst hb';have hv:lexLt ns' ms'=decide (items.size < items2.size):=by
       cases hvi with
       | nil =>
         cases hwi with
         | nil =>
           simp only[BH] at hlen;rw[lexLt_nil_nil];exact (decide_eq_false<|by omega).symm
         | cons c u hw =>
           simp only[BH,AA] at hlen;rw[lexLt_nil_cons];exact (decide_eq_true<|by omega).symm
       | cons a t hv =>
         cases hwi with
         | nil =>
           simp only[BH,AA] at hlen;rw[lexLt_cons_nil];exact (decide_eq_false<|by omega).symm
         | cons c u hw =>
           rw[CM] at hz;cases hz
     rw[hv] at hR
     wp_walk
     exact⟨_,rfl,by simpa[Builtin.Tuple.tupleCompareSizes] using hR⟩
   case h =>
     exact⟨rfl,rfl,items.toList,items2.toList,ns,ms,rfl,hi,hj,by omega,h⟩
end
variable {b t sl:Addr}{items:Array Value}{Q:Value->Shared->Prop}{vl vu:Value}{lo hi:Option Int}
section
variable {prog:Program} {w:World} {A:Around} {E:Value->Shared->Prop} {s:Shared}
def lt_tupInts{l:Addr}{items2:Array Value}{ns ms:List Int}(hl:IsTup s.heap l items)(hb:IsTup s.heap b items2)(hi:IntsAre items.toList ns)(hj:IntsAre items2.toList ms)
   (hu:A.units < cLine) (h:Q (.bool<|lexLt ns ms) s):wpAny (model prog w) A (compareOp .Lt (.ref l)<|.ref b) Q E s:=by
 obtain⟨⟨cls,dd,data,sl⟩,ho,hc,n,hd⟩:=id hl;obtain⟨⟨cls2,dd2,data2,sl2⟩,ho2,hc2,n2,hd2⟩:=id hb;simp only at hc hd hc2 hd2;subst hc hd hc2 hd2;exact richCompare_meets_room (op:=.Lt) ⟨_,ho,rfl⟩ ⟨_,ho2,rfl⟩ PySem.F.slot_tuple_lt PySem.F.entry_tuple_lt (PySem.F.args_tuple_lt_2 _ _) (zgh l b items items2 n n2 dd dd2 sl sl2 ns ms hi hj)
   ⟨ho,ho2,show Dt (lexLt ns ms)≠Value.notImplemented/\Q (.bool<|lexLt ns ms) s from ⟨(fun x=>nomatch x),h⟩⟩ hu
def cat_tup{vs ws:List Value}(ht:IsTup s.heap t vs.toArray)(hb:IsTup s.heap b ws.toArray)(hv:vs≠[])
   (h1:ws=[]->Q (.ref t) s) (h2:ws≠[]->Q (.ref s.heap.objs.size) { s with heap:=s.heap.push { cls:=.type "tuple",data:=.seq (vs++ws).toArray } })
   (hsz:vs.length+ws.length<=sizeLine):wpAny (model prog w) A (binaryOp .Add (.ref t)<|.ref b) Q E s:=by
 obtain⟨⟨cls,dd,data,sl⟩,ho,hc,n,hd⟩:=id ht;obtain⟨⟨cls2,dd2,data2,sl2⟩,ho2,hc2,n2,hd2⟩:=id hb;simp only at hc hd hc2 hd2;subst hc hd hc2 hd2;have e:vs.toArray++ws.toArray=(vs++ws).toArray:=by simp
 by_cases hw:ws=[]
 . exact concat_meets ⟨_,ho,rfl⟩ ⟨_,ho2,rfl⟩ noFill_tuple_add seq_tuple_add FB Fh (ES _ _)
     (tuple_addW1 t b vs.toArray ws.toArray n n2 dd dd2 sl sl2 (by simpa using hv)<|by simp[hw]) ⟨ho,ho2,h1 hw⟩
 . refine concat_meets ⟨_,ho,rfl⟩ ⟨_,ho2,rfl⟩ noFill_tuple_add seq_tuple_add FB Fh (ES _ _)
     (tuple_addW2 t b vs.toArray ws.toArray n n2 dd dd2 sl sl2 (by simpa using hv) (by simpa using hw) (by rw[Aq,Aq];exact hsz)) ⟨ho,ho2,?_⟩
   rw[e];exact h2 hw
def sIx(n d:Nat):Option Int->Nat
 | none=>d
 | some v=>if v < 0 then (v+(n:Int)).toNat else min v.toNat n
theorem sIx_none(n d:Nat):sIx n d none=d:=rfl
def sIx_nat(n d k:Nat):sIx n d (some (k:Int))=min k n:=by show (if (k:Int) < 0 then ((k:Int)+(n:Int)).toNat else min (k:Int).toNat n)=min k n;rw[if_neg (by omega),Ba]
def zsh(n d:Nat)(hd:d<=n)(o:Option Int):sIx n d o<=n:=by
 cases o with
 | none=>exact hd
 | some v =>
   show (if v < 0 then (v+(n:Int)).toNat else min v.toNat n)<=n
   by_cases hv:v < 0
   . rw[if_pos hv];omega
   rw[if_neg hv];exact ET _ _
def znc(v:Int)(n d:Nat):(if v < 0 then max (v+(n:Int)) 0 else min v (n:Int))=((sIx n d (some v):Nat):Int):=by
 show (if v < 0 then max (v+(n:Int)) 0 else min v (n:Int))=(((if v < 0 then (v+(n:Int)).toNat else min v.toNat n):Nat):Int)
 by_cases hv:v < 0
 . simp only[if_pos hv];omega
 simp only[if_neg hv];omega
def zkV(lo hi:Option Int)(n:Nat):BI lo hi 1 (n:Int)=(((sIx n 0 lo:Nat):Int),((sIx n n hi:Nat):Int)):=by
 have h1:¬ ((1:Int) < 0):=by omega
 unfold BI;simp only[h1,if_false];refine Prod.ext ?_ ?_
 . cases lo with
   | none=>rfl
   | some v=>exact znc v n 0
 . cases hi with
   | none=>rfl
   | some v=>exact znc v n n
def zjC(i j:Nat):Bl (i:Int) (j:Int) 1=j - i:=by
 unfold Bl;have h1:(1:Int) > 0:=by omega
 simp only[h1,if_true,Int.ediv_one]
 split <;> omega
def slicePart_{v:Value}{o:Option Int}{Q:Option Int->Shared->Prop}(p:IsPart v o)(h:Q o s):wpAny (model prog w) A (Builtin.Slice.slicePartIndex v) Q E s:=by
 cases p with
 | none=>exact slicePart_none h
 | int i t=>exact slicePart_int h
def sliceApplied_gen{n:Nat}{Q:Int×Int×Nat->Shared->Prop}(hs:s.heap.IsSliceOf sl vl vu .none)(pl:IsPart vl lo)(pu:IsPart vu hi)
   (h:Q (((sIx n 0 lo:Nat):Int),1,sIx n n hi - sIx n 0 lo) s):wpAny (model prog w) A (Cn (.ref sl)<|pure (n:Int)) Q E s:=by
 obtain⟨os,hos,hcs,hds⟩:=id hs;unfold Cn EJ;refine Aa<|Aa<|A8 hos hds (x:=vl) rfl<|Aa<|A8 hos hds (x:=vu) rfl<|Aa<|A8 hos hds (x:=.none) rfl<|Ab ?_;refine Aa<|slicePart_none ?_;show wpAny _ _ (if ((1:Int)==0)=true then _ else _) _ _ s;rw[if_neg (by decide)];refine Aa<|slicePart_ pl<|Aa<|slicePart_ pu<|Aa<|Ab ?_;show wpAny _ _ (match BI lo hi 1 (n:Int) with | (lo,hi)=>pure (lo,(1:Int),Bl lo hi 1)) _ _ s;rw[zkV lo hi n];show wpAny _ _ (pure (((sIx n 0 lo:Nat):Int),(1:Int),Bl ((sIx n 0 lo:Nat):Int) ((sIx n n hi:Nat):Int) 1)) _ _ s;rw[zjC];exact Ab h
def zn2(xs:Array Value)(i k:Nat):((AV k).filterMap fun (m:Nat)=>xs[((i:Int)+(m:Int)*1).toNat]?).toArray=((xs.toList.drop i).take k).toArray:=by
 have e:(fun (m:Nat)=>xs[((i:Int)+(m:Int)*1).toNat]?)=fun m=>xs[i+m]?:=by
   funext m
   have:((i:Int)+(m:Int)*1).toNat=i+m:=by omega
   rw[this]
 rw[e];have:=pick_run xs i k;rw[Gu] at this;have e2:((fun x=>xs[x]?) ∘ fun x=>i+x)=fun m=>xs[i+m]?:=rfl;rw[e2] at this;rw[this]
def getItem_tuple_cut(ht:IsTup s.heap t items)(hs:s.heap.IsSliceOf sl vl vu .none)(pl:IsPart vl lo)(pu:IsPart vu hi)
   (hw:¬ (sIx items.size 0 lo=0/\sIx items.size items.size hi=items.size))
   (h:Q (.ref s.heap.objs.size) { s with heap:=s.heap.push { cls:=.type "tuple",data:=.seq ((items.toList.drop<|sIx items.size 0 lo).take<|sIx items.size items.size hi - sIx items.size 0 lo).toArray } })
   (hsz:items.size<=sizeLine):wpAny (model prog w) A (getItem (.ref t)<|.ref sl) Q E s:=by
 have htake:sizeOk (.seq ((items.toList.drop<|sIx items.size 0 lo).take<|sIx items.size items.size hi - sIx items.size 0 lo).toArray):=by show ((items.toList.drop<|sIx items.size 0 lo).take<|sIx items.size items.size hi - sIx items.size 0 lo).toArray.size<=sizeLine;rw[Aq,A1,B9,Au];omega
 have hj:sIx items.size items.size hi<=items.size:=zsh _ _ (Af _) hi;obtain⟨os,hos,hcs,hds⟩:=id hs;have hTs:s.TypeIs (.ref sl) "slice":=⟨os,hos,hcs⟩
 unfold getItem
 try with_reducible refine AS ?_
 first | refine Aa (Ab ?_) | skip
 refine Aa (EC ht.typeIs (by decide) ?_);refine Aa (AO (name:=Bf "__getitem__") ht.typeIs Bv
   (AG Bv ht.typeIs Ea ?_<|Ek _ _))
 show wpAny _ _ (Da (.ref t) >>= _) _ _ s;refine Aa<|Gb ht ?_;refine Aa<|BZ hTs ?_;rw[if_pos (by decide)];refine Aa<|sliceApplied_gen hs pl pu ?_;have hno:¬ ((((sIx items.size 0 lo:Nat):Int)==0&&(1:Int)==1&&(sIx items.size items.size hi - sIx items.size 0 lo)==items.size)=true):=by intro q;rw[An,An] at q;have q1:((sIx items.size 0 lo:Nat):Int)=0:=eq_of_beq q.1.1;have q2:sIx items.size items.size hi - sIx items.size 0 lo=items.size:=eq_of_beq q.2;exact hw ⟨by omega,by omega⟩
 show wpAny _ _ (if (((sIx items.size 0 lo:Nat):Int)==0&&(1:Int)==1&&(sIx items.size items.size hi - sIx items.size 0 lo)==items.size)=true then _ else _) _ _ s;rw[if_neg hno,zn2]
 first
   | exact Aa (m:=Bu _) (AF (Ab ⟨_,rfl,Ab h⟩) htake)
   | exact Aa (m:=Bu _) (AF (Aa<|Ab<|Ab ⟨_,rfl,Ab h⟩) htake)
   | exact Aa (Aa (m:=Bu _)<|AF (Ab<|Ab ⟨_,rfl,Ab h⟩) htake)
   | exact Aa (Aa (m:=Bu _)<|AF (Ab ⟨_,rfl,Ab h⟩) htake)
end
end HT
namespace L2
open PySem PySem.Spec PyProof.Rows
noncomputable abbrev TO:=St->Hp->(Option Int->Hp->Prop)->Prop
def PO(X:Cx)(e:Option Expr)(t:TO):Prop :=
 ∀ (pins:List (Addr×Obj)) (s:Shared) (M:St) (H:Hp) (Q:Option Int->Hp->Prop),Inv X pins M H s->t M H Q ->
   wpAny (model X.prog X.w) X.A (evalPart e X.env) (fun u s'=>∃ o H',Inv X pins M H' s'/\IsPart u o/\Q o H') X.xe s
def zpA:TO:=fun _ H Q=>Q none H
def ztP(t:TE):TO:=fun M H Q=>t M H fun x H1=>∃ i,x=.int i/\Q (some i) H1
def intsAre_of{ns:List Int}:∀ {us:List Value},Vals (ns.map V.int) us->IntsAre us ns:=by
 induction ns with
 | nil=>intro us r;rw[Cz] at r;cases r;exact .nil
 | cons n ns ih =>
   intro us r;rw[Ao] at r
   cases r with
   | cons r1 r2 =>
     obtain⟨t,e⟩:=r1;subst e;exact .cons n t<|ih r2
variable {X:Cx}{e:Expr}{pos:Pos}{xs:List V}{us:List Value}
section
variable {te:TE} {lo hi:Option Expr} {tl th:TO} {p2:Pos}
def zqs:PO X none zpA:=by intro pins s M H Q I h;rw[DM];exact Ab ⟨none,H,I,.none,h⟩
def zhW(h:PE X e te):PO X (some e) (ztP te):=by intro pins s M H Q I hw;rw[evalPart_some];refine thn (h pins s M H _ I hw) ?_;rintro u s1 ⟨x,H1,I1,r1,q1⟩;obtain⟨i,rfl,q⟩:=q1;obtain⟨t,rfl⟩:=r1;exact⟨some i,H1,I1,.int i t,q⟩
def SlR(X:Cx)(r:V->Option Int->Option Int->Hp->VK->Prop):Prop :=
 ∀ (pins:List (Addr×Obj)) (s:Shared) (M:St) (H:Hp) (x:V) (v vl vu:Value) (lo hi:Option Int) (sl:Addr) (Q:VK),Inv X pins M H s->RelV x v->s.heap.IsSliceOf sl vl vu .none->IsPart vl lo->IsPart vu hi->r x lo hi H Q ->
   ∃ T id,typeLookup (.type T) "__getitem__"=pure (some<|.builtin id)/\s.TypeIs v T/\wpAny (model X.prog X.w) X.A (getItem v<|.ref sl) (EP X pins M Q) X.xe s
def tSl(r:V->Option Int->Option Int->Hp->VK->Prop)(te:TE)(tl th:TO):TE:=fun M H Q=>te M H fun x H1=>tl M H1 fun l H2=>th M H2 fun u H3=>r x l u H3 Q
def zfU{r:V->Option Int->Option Int->Hp->VK->Prop}(hr:SlR X r)(he:PE X e te)(hl:PO X lo tl)(hu:PO X hi th):PE X (.Subscript e (.Slice lo hi none p2) pos) (tSl r te tl th):=by intro pins s M H Q I h;refine DY<|thn (he pins s M H _ I h) ?_;rintro v s1 ⟨x,H1,I1,r1,q1⟩;refine FC<|thn (hl pins s1 M H1 _ I1 q1) fun vl s2 ⟨l,H2,I2,pl,q2⟩=>thn (hu pins s2 M H2 _ I2 q2) ?_;rintro vu s3 ⟨u,H3,I3,pu,q3⟩;rw[DM];refine Ab ?_;have I4:Inv X pins M H3 { s3 with heap:=s3.heap.push { cls:=.type "slice",data:=.fields #[vl,vu,.none] } }:=I3.kept (t':=s3.toks) fun b ob q=>Ad _ q;obtain⟨T,id,hT,ht,hg⟩:=hr pins { s3 with heap:=s3.heap.push { cls:=.type "slice",data:=.fields #[vl,vu,.none] } } M H3 x v vl vu l u s3.heap.objs.size Q I4 r1 (Dm ..) pl pu q3;show wpAny (model X.prog X.w) X.A (subscriptTail e (.Slice lo hi none p2) v<|.ref s3.heap.objs.size) (EP X pins M Q) X.xe { s3 with heap:=s3.heap.push { cls:=.type "slice",data:=.fields #[vl,vu,.none] } };exact F7 (ops:=[.ref s3.heap.objs.size,v]) ht hT hg<|by with_unfolding_all rfl
def cutV(xs:List V)(lo hi:Option Int):List V:=(xs.drop<|HT.sIx xs.length 0 lo).take<|HT.sIx xs.length xs.length hi - HT.sIx xs.length 0 lo
def zfC(xs:List V)(lo hi:Option Int):(cutV xs lo hi).length<=xs.length:=by unfold cutV;rw[A1,B9];omega
def rSlT(K:Ae):V->Option Int->Option Int->Hp->VK->Prop:=fun x lo hi H Q=>∃ a xs,x=.ref a/\SqT K H a xs /\
 ¬ (HT.sIx xs.length 0 lo=0/\HT.sIx xs.length xs.length hi=xs.length)/\∀ p,H p=none->Q (.ref p) (upd H p<|.tup<|cutV xs lo hi)
def zr4:SlR X (rSlT X.K):=by
 intro pins s M H x v vl vu lo hi sl Q I rx hs pl pu h;obtain⟨a,xs,rfl,hx,hw,q⟩:=h;cases rx;obtain⟨its,r,ht,hz⟩:=I.tuple hx;have hlen:its.toArray.size=xs.length:=by rw[Aq];exact r.length.symm
 refine⟨"tuple",_,PyProof.Rows.slot_tuple_getitem.lookup,ht.typeIs,?_⟩;refine HT.getItem_tuple_cut ht hs pl pu (by rw[hlen];exact hw) ?_ (by rw[hlen];exact hz);rw[hlen];refine⟨.ref s.heap.objs.size,_,I.laid (t':=s.toks) (o:=.tup (cutV xs lo hi)) (fun b ob q=>Ad _ q) (Af _) ?_,rfl,q _<|I.hok.fresh<|Af _⟩;exact⟨AR (zfC xs lo hi) hz,_,(r.drop<|HT.sIx xs.length 0 lo).take<|HT.sIx xs.length xs.length hi - HT.sIx xs.length 0 lo,zdJ.new _ _⟩
def rLtT(K:Ae):R2:=fun x y H Q=>∃ a b ns ms,x=.ref a/\y=.ref b/\SqT K H a (ns.map V.int)/\SqT K H b (ms.map V.int)/\Q (.bl<|HT.lexLt ns ms) H
def zsO(hu:X.A.units < cLine):OpR X (compareOp .Lt) (rLtT X.K):=by intro pins s M H x y v u Q I rx ry h;obtain⟨a,b,ns,ms,rfl,rfl,ha,hb,q⟩:=h;cases rx;cases ry;obtain⟨its,r1,p1,_⟩:=I.tuple ha;obtain⟨its2,r2,p2,_⟩:=I.tuple hb;have i1:IntsAre its.toArray.toList ns:=intsAre_of r1;have i2:IntsAre its2.toArray.toList ms:=intsAre_of r2;exact HT.lt_tupInts p1 p2 i1 i2 hu ⟨.bl<|HT.lexLt ns ms,H,I,rfl,q⟩
def zt3(K:Ae):R2:=fun x y H Q=>∃ a b xs ys,x=.ref a/\y=.ref b/\SqT K H a xs/\SqT K H b ys/\xs≠[]/\xs.length+ys.length<=sizeLine /\
 (ys=[]->Q (.ref a) H)/\(ys≠[]->∀ p,H p=none->Q (.ref p) (upd H p<|.tup<|xs++ys))
def Vals.nil_iff(r:Vals xs us):us=[] ↔ xs=[]:=by
 cases r with
 | nil=>simp
 | cons _ _=>simp
def zqP:OpR X (binaryOp .Add) (zt3 X.K):=by intro pins s M H x y v u Q I rx ry h;obtain⟨a,b,xs,ys,rfl,rfl,ha,hb,hx,hz,q1,q2⟩:=h;cases rx;cases ry;obtain⟨its,r1,p1,_⟩:=I.tuple ha;obtain⟨its2,r2,p2,_⟩:=I.tuple hb;refine HT.cat_tup p1 p2 (fun z=>hx (r1.nil_iff.mp z)) (fun z=>⟨.ref a,H,I,rfl,q1<|r2.nil_iff.mp z⟩) (fun z=>?_) (by rw[<-r1.length,<-r2.length];exact hz);refine⟨.ref s.heap.objs.size,_,I.laid (t':=s.toks) (o:=.tup (xs++ys)) (fun b ob q=>Ad _ q) (Af _) ?_,rfl,q2 (fun w=>z (r2.nil_iff.mpr w)) _<|I.hok.fresh<|Af _⟩;exact⟨by rw[AE];exact hz,_,r1.append r2,zdJ.new _ _⟩
end
def ixN(n:Nat)(i:Int):Option Nat:=if 0<=i then (if i < n then some i.toNat else none) else if -(n:Int)<=i then some (i+n).toNat else none
variable {α:Type}
def atI(xs:List α)(i:Int):Option α:=(ixN xs.length i).bind fun j=>xs[j]?
variable {n:Nat}{i:Int}
def zmX{j:Nat}(h:ixN n i=some j):seqIndex? i n=some j/\j < n/\-(n:Int)<=i/\i < n:=by
 unfold ixN at h
 by_cases h0:0<=i
 . rw[if_pos h0] at h
   by_cases h1:i < n
   . rw[if_pos h1] at h;have e:i.toNat=j:=Ax h;exact⟨by rw[GU h0 h1,e],by omega,by omega,h1⟩
   rw[if_neg h1] at h;cases h
 . rw[if_neg h0] at h
   by_cases h1:-(n:Int)<=i
   . rw[if_pos h1] at h;have e:(i+n).toNat=j:=Ax h;exact⟨by rw[Gv (by omega) h1,e],by omega,h1,by omega⟩
   rw[if_neg h1] at h;cases h
def zkS{xs:List α}{v:α}(h:atI xs i=some v):∃ j,seqIndex? i xs.length=some j/\xs[j]?=some v/\j < xs.length/\-(xs.length:Int)<=i/\i < xs.length:=by
 unfold atI at h
 cases e:ixN xs.length i with
 | none=>rw[e] at h;cases h
 | some j =>
   rw[e] at h;obtain⟨h1,h2,h3,h4⟩:=zmX e;exact⟨j,h1,h,h2,h3,h4⟩
def zkW(b:Expr):Prop:=∀ o i,subscripted b false o i=operate [o,i] (getItem o i)
def IxR(X:Cx)(r:R2):Prop :=
 ∀ (value slice:Expr) (pins:List (Addr×Obj)) (s:Shared) (M:St) (H:Hp) (x y:V) (v u:Value) (Q:VK),Inv X pins M H s->RelV x v->RelV y u->r x y H Q ->
   subscripted slice false v u=operate [v,u] (getItem v u)->wpAny (model X.prog X.w) X.A (subscriptTail value slice v u) (EP X pins M Q) X.xe s
def MtR(X:Cx)(id:String)(r:V->List V->Hp->VK->Prop):Prop :=
 ∀ (pins:List (Addr×Obj)) (s:Shared) (M:St) (H:Hp) (x:V) (xs:List V) (v:Value) (us:List Value) (Q:VK),Inv X pins M H s->RelV x v->Vals xs us->r x xs H Q ->
   wpAny (model X.prog X.w) X.A (call (.builtin id) (v::us)) (EP X pins M Q) X.xe s
variable {pins:List (Addr×Obj)}{M:St}{H:Hp}{s:Shared}{p:Addr}{ys:List V}{its its':List Value}{T:String}{x:V}
section
variable {a b:Expr} {ta tb:TE}
def zt9{r:R2}(hr:IxR X r)(ha:PE X a ta)(hb:PE X b tb)(hs:zkW b):PE X (.Subscript a b pos) (tOp r ta tb):=by intro pins s M H Q I h;exact DY<|binT ha hb I h fun v u s2 x y H2 I2 rx ry q=>hr a b pins s2 M H2 x y v u Q I2 rx ry q (hs _ _)
def rIxL(K:Ae):R2:=fun x y H Q=>∃ p xs i v,x=.ref p/\y=.int i/\SqL K H p xs/\atI xs i=some v/\Q v H
def rIxT(K:Ae):R2:=fun x y H Q=>∃ p xs i v,x=.ref p/\y=.int i/\SqT K H p xs/\atI xs i=some v/\Q v H
def rIxS:R2:=fun x y H Q=>∃ z i c,x=.str z/\y=.int i/\z.length<=sizeLine/\atI z.cps.toList i=some c/\Q (.str ⟨#[c]⟩) H
def zmW:IxR X (rIxL X.K):=by
 intro value slice pins s M H x y v u Q I rx ry h hs;obtain⟨p,xs,i,z,rfl,rfl,hq,he,q⟩:=h;cases rx;obtain⟨t,rfl⟩:=ry;obtain⟨its,r,pl,hz⟩:=I.list hq;obtain⟨j,h1,h2,h3,h4,h5⟩:=zkS he;obtain⟨w,ew,rw'⟩:=r.get h2;have hl:=r.length;have hn:=zhv;have fin:EP X pins M Q w s:=⟨z,H,I,rw',q⟩
 by_cases h0:0<=i
 . have hj:i.toNat=j:=by
     rw[GU h0 h5] at h1;exact Ax h1
   exact item_listR pl.isList h0 (by omega) (by rw[hj];simpa using ew) fin hs
 . have hj:(i+(its.toArray.size:Int)).toNat=j:=by
     rw[Gv (by omega) h4] at h1;rw[Aq,<-hl];exact Ax h1
   exact FD (x:=w) pl.isList.typeIs slot_list_getitem.lookup
     (wpAny_getItem_list_neg (Q:=fun r s'=>r=w/\EP X pins M Q r s') pl.isList (by omega) (by rw[Aq] <;> omega) (by omega) (by rw[hj];simpa using ew) ⟨rfl,fin⟩) hs
def zbs:IxR X (rIxT X.K):=by
 intro value slice pins s M H x y v u Q I rx ry h hs;obtain⟨p,xs,i,z,rfl,rfl,hq,he,q⟩:=h;cases rx;obtain⟨t,rfl⟩:=ry;obtain⟨its,r,pl,hz⟩:=I.tuple hq;obtain⟨j,h1,h2,h3,h4,h5⟩:=zkS he;obtain⟨w,ew,rw'⟩:=r.get h2;have hl:=r.length;have hn:=zhv;have fin:EP X pins M Q w s:=⟨z,H,I,rw',q⟩
 exact FD (x:=w) pl.typeIs slot_tuple_getitem.lookup
   (getItem_tuple (j:=j) (Q:=fun r s'=>r=w/\EP X pins M Q r s') pl (by omega) (by omega) (by rw[Aq,<-hl];exact h1) (by simpa using ew) ⟨rfl,fin⟩) hs
def zlY:IxR X rIxS:=by
 intro value slice pins s M H x y v u Q I rx ry h hs;obtain⟨z,i,c,rfl,rfl,hz,he,q⟩:=h;obtain⟨t,rfl⟩:=rx;obtain⟨t',rfl⟩:=ry;obtain⟨j,h1,h2,h3,h4,h5⟩:=zkS he;have hl:z.cps.toList.length=z.length:=by simp[Str.length]
 rw[hl] at h1 h4 h5;have hn:=zhv;exact F7 (EK s z t) slot_str_getitem.lookup (getItem_str (c:=c) (by
   have e1:decide (i < -(2 ^ 63:Int))=false:=decide_eq_false (by omega);have e2:decide (i ≥ 2 ^ 63)=false:=decide_eq_false (by omega);rw[e1,e2,Hz]) (by rw[h1];simpa using h2) ⟨.str ⟨#[c]⟩,H,I.tok _,⟨_,rfl⟩,q⟩) hs
def zj5(its:List Value)(n j:Nat)(u:Value):By (·.setIfInBounds j u) { cls:=.type "list",data:=.seq its.toArray n }={ cls:=.type "list",data:=.seq (its.set j u).toArray n }:=by simp[By]
def Inv.lst{pins:List (Addr×Obj)}{M:St}{H:Hp}{s:Shared}{p:Addr}{xs:List V}(I:Inv X pins M H s)(h:H p=some (.lst xs)) :
   ∃ (its:List Value) (n:Nat),Vals xs its/\s.heap.get? p=some { cls:=.type "list",data:=.seq its.toArray n }/\xs.length<=sizeLine:=by
 obtain⟨z,its,n,r,e⟩:=I.hok p _ h;exact⟨its,n,r,e,z⟩
def Inv.lstUpd{n':Nat}{f:Obj->Obj}(I:Inv X pins M H s)(h:H p=some (.lst xs))
   (ho:s.heap.get? p=some { cls:=.type "list",data:=.seq its.toArray n }) (hf:f { cls:=.type "list",data:=.seq its.toArray n }={ cls:=.type "list",data:=.seq its'.toArray n' }) (r:Vals ys its') (hz:ys.length<=sizeLine) (t:Nat) :
   Inv X pins M (upd H p<|.lst ys) { s with heap:=s.heap.update p f,toks:=t }:=by
 have e:(s.heap.update p f).get? p=some { cls:=.type "list",data:=.seq its'.toArray n' }:=by rw[A3 f ho (by rw[hf] <;> rfl),hf]
 refine I.write (x:=p) (e:=p) (by rw[h];trivial) (.inl rfl) (fun b u hb q=>(CQ _ _<|BV hb).trans q) ⟨_,e⟩ ?_;exact⟨hz,its',n',r,e⟩
def zt2:V->V->V->Hp->(Hp->Prop)->Prop:=fun o i v H Q=>∃ p xs k j,o=.ref p/\i=.int k/\H p=some (.lst xs)/\ixN xs.length k=some j/\Q (upd H p<|.lst<|xs.set j v)
def set_list:PSet X zt2:=by
 intro pins s M H o i v ov iv u Q I ro ri rv h;obtain⟨p,xs,k,j,rfl,rfl,hp,hj,q⟩:=h;cases ro;obtain⟨t,rfl⟩:=ri;obtain⟨its,n,r,ho,hz⟩:=I.lst hp;obtain⟨h1,h2,h3,h4⟩:=zmX hj;have hl:=r.length;have hn:=zhv;have I':Inv X pins M (upd H p<|.lst<|xs.set j v) { s with heap:=s.heap.update p (By (·.setIfInBounds j u)) } :=
   I.lstUpd hp ho (zj5 its n j u) (r.set rv j) (by rw[DZ];exact hz) s.toks
 by_cases h0:0<=k
 . have hk:k.toNat=j:=by
     rw[GU h0 h4] at h1;exact Ax h1
   exact PySem.W.ki_setAt ho h0 (by omega) (by rw[Aq,<-hl];exact h4) (by rw[hk];exact⟨_,I',q⟩)
 . have hk:(k+(its.toArray.size:Int)).toNat=j:=by
     rw[Gv (by omega) h3] at h1;rw[Aq,<-hl];exact Ax h1
   exact PySem.W.ki_setBack ho (by omega) (by rw[Aq,<-hl];exact h3) (by omega) (by rw[hk];exact⟨_,I',q⟩)
def zhd(lo hi:Option Int)(n:Nat):(sliceBounds lo hi none n).1=((HT.sIx n 0 lo:Nat):Int)/\(sliceBounds lo hi none n).2.1=((HT.sIx n n hi:Nat):Int)/\(sliceBounds lo hi none n).2.2=1:=by
 refine⟨?_,?_,rfl⟩
 . cases lo with
   | none=>simp[sliceBounds,HT.sIx]
   | some i =>
     simp only[sliceBounds,HT.sIx,GV,show (1:Int) > 0 by decide,if_true]
     by_cases h:i < 0
     . simp only[h,if_true] <;> omega
     simp only[h,if_false] <;> omega
 . cases hi with
   | none=>simp[sliceBounds,HT.sIx]
   | some i =>
     simp only[sliceBounds,HT.sIx,GV,show (1:Int) > 0 by decide,if_true]
     by_cases h:i < 0
     . simp only[h,if_true] <;> omega
     simp only[h,if_false] <;> omega
def zgm(its:List Value)(lo hi:Option Int):slicePick its.toArray lo hi none=((its.drop<|HT.sIx its.length 0 lo).take<|HT.sIx its.length its.length hi - HT.sIx its.length 0 lo).toArray:=by obtain⟨h1,h2,h3⟩:=zhd lo hi its.toArray.size;unfold slicePick;rw[h1,h2,h3];simp only[sliceRange_one,pick_run,Aq] <;> rfl
def rSlL(K:Ae):V->Option Int->Option Int->Hp->VK->Prop:=fun x lo hi H Q=>∃ a xs,x=.ref a/\SqL K H a xs/\∀ p,H p=none->Q (.ref p) (upd H p<|.lst<|cutV xs lo hi)
def zmA:SlR X (rSlL X.K):=by intro pins s M H x v vl vu lo hi sl Q I rx hs pl pu h;obtain⟨a,xs,rfl,hx,q⟩:=h;cases rx;obtain⟨its,r,ht,hz⟩:=I.list hx;have hlen:=r.length;refine⟨"list",_,slot_list_getitem.lookup,ht.isList.typeIs,?_⟩;refine EU ht.isList hs pl pu .none (by simp) ?_ (by rw[Aq] <;> omega);rw[zgm,<-hlen];refine⟨.ref s.heap.objs.size,_,I.laid (t':=s.toks) (o:=.lst (cutV xs lo hi)) (fun b ob q=>Ad _ q) (Af _) ?_,rfl,q _<|I.hok.fresh<|Af _⟩;exact⟨AR (zfC xs lo hi) hz,_,0,(r.drop<|HT.sIx xs.length 0 lo).take<|HT.sIx xs.length xs.length hi - HT.sIx xs.length 0 lo,Al _ rfl⟩
def zdI:zgU X (.builtin "len") (fun xs H Q=>∃ p ys,xs=[.ref p]/\(SqL X.K H p ys\/SqT X.K H p ys)/\Q (.int ys.length) H):=by
 intro pins s M H xs us Q I r h;obtain⟨p,ys,rfl,hq,q⟩:=h;obtain⟨u,rfl,rx⟩:=vals1 r;cases rx;have hn:=zhv
 rcases hq with hq | hq
 . obtain⟨its,r',pl,hz⟩:=I.list hq;have hlen:=r'.length;exact Calls.call_len_list pl.isList (by simp only[Aq] <;> omega) ⟨.int ys.length,H,I.tok _,⟨s.toks+1,by rw[Aq,hlen]⟩,q⟩
 obtain⟨its,r',pl,hz⟩:=I.tuple hq;have hlen:=r'.length;exact len_tuple pl (by simp only[Aq] <;> omega) ⟨.int ys.length,H,I.tok _,⟨s.toks+1,by rw[Aq,hlen]⟩,q⟩
def zhC:zgU X (.builtin "len") (fun xs H Q=>∃ z,xs=[.str z]/\z.length<=sizeLine/\Q (.int z.length) H):=by intro pins s M H xs us Q I r h;obtain⟨z,rfl,hz,q⟩:=h;obtain⟨u,rfl,t,rfl⟩:=vals1 r;have hn:=zhv;exact len_str (by omega) ⟨.int z.length,H,I.tok _,⟨_,rfl⟩,q⟩
def zdH:zgU X (.type "list") (fun xs H Q=>∃ p ys,xs=[.ref p]/\(SqL X.K H p ys\/SqT X.K H p ys)/\∀ l,H l=none->Q (.ref l) (upd H l<|.lst ys)):=by
 intro pins s M H xs us Q I r h;obtain⟨p,ys,rfl,hq,q⟩:=h;obtain⟨u,rfl,rx⟩:=vals1 r;cases rx;have fin:∀ (its:List Value),Vals ys its->ys.length<=sizeLine->∀ (h':Heap) (c':Nat),(∀ b o',s.heap.get? b=some o'->h'.get? b=some o') ->
     h'.get? s.heap.objs.size=some { cls:=.type "list",dict:=none,data:=.seq its.toArray c',slots:=#[] }->EP X pins M Q (.ref s.heap.objs.size) { s with heap:=h' }:=fun its r' hz h' c' kp e =>
   ⟨.ref s.heap.objs.size,_,I.laid (t':=s.toks) kp (Af _) (show zdN X.prog X.w _ h' _ (.lst ys) from ⟨hz,its,c',r',e⟩),rfl,q _<|I.hok.fresh<|Af _⟩
 rcases hq with hq | hq
 . obtain⟨its,r',pl,hz⟩:=I.list hq;have hlen:=r'.length;obtain⟨o,ho,hc,n,hd⟩:=pl.isList;exact call_list_seq p (.inl rfl) ho hc hd (fun h' c' kp e=>fin its r' hz h' c' kp e) (by simp only[Aq] <;> omega)
 obtain⟨its,r',pl,hz⟩:=I.tuple hq;have hlen:=r'.length;obtain⟨o,ho,hc,n,hd⟩:=pl;exact call_list_seq p (.inr rfl) ho hc hd (fun h' c' kp e=>fin its r' hz h' c' kp e) (by simp only[Aq] <;> omega)
def zep:zgU X (.type "tuple") (fun xs H Q=>∃ p ys,xs=[.ref p]/\((SqL X.K H p ys/\∀ l,H l=none->Q (.ref l) (upd H l<|.tup ys))\/(SqT X.K H p ys/\Q (.ref p) H))):=by
 intro pins s M H xs us Q I r h;obtain⟨p,ys,rfl,h⟩:=h;obtain⟨u,rfl,rx⟩:=vals1 r;cases rx
 rcases h with ⟨hq,q⟩ | ⟨hq,q⟩
 . obtain⟨its,r',pl,hz⟩:=I.list hq;have hlen:=r'.length;refine call_tuple_list pl.isList (fun h' kp=>?_) (by simp only[Aq] <;> omega);have I1:Inv X pins M H { s with heap:=h' }:=I.kept (t':=s.toks) kp;have I2:Inv X pins M (upd H h'.objs.size<|.tup ys) { s with heap:=h'.push { cls:=.type "tuple",data:=.seq its.toArray } } :=
     I1.laid (t':=s.toks) (fun b o e=>Ad _ e) (Af _) (show zdN X.prog X.w _ _ _ (.tup ys) from ⟨hz,its,r',zdJ.new _ _⟩)
   exact⟨.ref h'.objs.size,_,I2,rfl,q _<|I1.hok.fresh<|Af _⟩
 obtain⟨its,r',pl,hz⟩:=I.tuple hq;exact call_tuple_same pl ⟨.ref p,H,I,rfl,q⟩
def tyV(K:Ae)(T:String)(x:V)(H:Hp):Prop:=match x with
 | .str _=>T="str"
 | .int _=>T="int"
 | .ref p=>(T="list"/\∃ xs,SqL K H p xs)\/(T="tuple"/\∃ o,K.lookup p=some o/\o.cls=.type "tuple"/\o.dict=none) \/
     (T="dict"/\((∃ kvs,H p=some (.dK kvs))\/∃ kvs,H p=some (.dT kvs)))\/(T="set"/\∃ S n,H p=some (.set S n))
 | _=>False
def zrU{v:Value}(I:Inv X pins M H s)(r:RelV x v)(ty:tyV X.K T x H) :
   s.TypeIs v T/\∀ a,v=.ref a->∃ ob,s.heap.get? a=some ob/\ob.dict=none:=by
 cases x with
 | str z =>
   obtain⟨t,rfl⟩:=r
   cases (show T="str" from ty)
   exact⟨EK s z t,fun _ e=>nomatch e⟩
 | int i =>
   obtain⟨t,rfl⟩:=r
   cases (show T="int" from ty)
   exact⟨typeIs_int s i t,fun _ e=>nomatch e⟩
 | ref p =>
   cases r
   rcases ty with ⟨rfl,xs,hq⟩ | ⟨rfl,o,hk,hc,hd⟩ | ⟨rfl,hk⟩ | ⟨rfl,S,n,hk⟩
   . obtain⟨its,_,pl,_⟩:=I.list hq;refine⟨pl.isList.typeIs,fun a e=>?_⟩;cases e;obtain⟨o,n,e,c,hd,_⟩:=pl;exact⟨o,e,hd⟩
   . refine⟨⟨o,I.kIn p o hk,hc⟩,fun a e=>?_⟩;cases e;exact⟨o,I.kIn _ o hk,hd⟩
   . have z:∃ o,s.heap.get? p=some o/\o.ExactDict:=by
       rcases hk with ⟨kvs,hk⟩ | ⟨kvs,hk⟩
       . obtain⟨_,_,_,_,o,_,_,e,ex,_⟩:=I.hok p _ hk;exact⟨o,e,ex⟩
       obtain⟨_,_,_,_,o,_,_,e,ex,_⟩:=I.hok p _ hk;exact⟨o,e,ex⟩
     obtain⟨o,e,ex⟩:=z;refine⟨⟨o,e,ex.1⟩,fun a e2=>?_⟩;cases e2;exact⟨o,e,ex.2.1⟩
   obtain⟨o,_,_,_,e,ex,_⟩:=I.hok p _ hk;refine⟨⟨o,e,ex.1⟩,fun a e2=>?_⟩;cases e2;exact⟨o,e,ex.2.1⟩
 | _=>exact False.elim ty
def tBM(K:Ae)(T:String)(r:V->List V->Hp->VK->Prop)(to:TE)(t:TA):TE:=fun M H Q=>to M H fun x H1=>tyV K T x H1/\t M H1 fun xs H2=>r x xs H2 Q
variable {o:Expr} {es:List Expr} {to:TE} {t:TA} {name:Str} {apos cpos:Pos} {id:String} {r:V->List V->Hp->VK->Prop}
def zsI(pa:PlainAttrs T)(slot:Slot T name id)(hty:typeOf (.builtin id)=pure (.type "method_descriptor"))(hm:MtR X id r)(ho:PE X o to)(ha:PA X (e::es) t)
   (hbase:attributeBase o name X.env (eval o X.env)=eval o X.env:=by rfl)
   (hfew:((backTo cpos<|starEach (e::es) X.env).all (fun x=>!x.1)&&(backToKw cpos<|keywordEach [] X.env).all (fun x=>x.1.isSome)
    &&decide ((e::es).length+([]:List Keyword).length+(if ([]:List Keyword).isEmpty then 0 else 1) < 30))=true:=by rfl)
   (hline:(apos.endLine==cpos.line)=true:=by rfl) (hs:starEach (e::es) X.env=(false,eval e X.env)::starEach es X.env:=by rfl) (hplain:(backTo cpos<|starEach es X.env).any (·.1)=false:=by rfl) :
   PE X (.Call (.Attribute o name apos) (e::es) [] cpos) (tBM X.K T r to t):=by
 intro pins s M H Q I h;refine wpAny_Call_method_late hbase hfew hline rfl<|thn (ho pins s M H _ I h) ?_;rintro v s1 ⟨x,H1,I1,r1,ty,q1⟩;obtain⟨h1,h2⟩:=zrU I1 r1 ty;refine⟨T,id,pa,slot,hty,h1,h2,?_⟩;have hA:=ha cpos pins s1 M H1 _ I1 q1;rw[hs] at hA ⊢;refine DH (by show (false || (backTo cpos<|starEach es X.env).any (·.1))=false;rw[hplain] <;> rfl)<|Calls.evalArgs_plain ?_;exact thn hA fun us s2 ⟨vs,H2,I2,r2,q2⟩=>hm pins s2 M H2 x vs v us Q I2 r1 r2 q2
end
def MtM(X:Cx)(id:String)(r:V->List V->Hp->VK->Prop):Prop :=
 ∀ (pins:List (Addr×Obj)) (s:Shared) (M:St) (H:Hp) (x:V) (xs:List V) (v:Value) (us:List Value) (Q:VK),Inv X pins M H s->RelV x v->Vals xs us->r x xs H Q ->
   wpAny (model X.prog X.w) X.A (call (.builtin id) (v::us)) (EP X pins M Q) X.xe s
def Vals.one:∀ {x:V} {us:List Value},Vals [x] us->∃ u,us=[u]/\RelV x u
 | _,_,.cons r .nil=>⟨_,rfl,r⟩
def Vals.two{y:V}(h:Vals [x,y] us):∃ u v,us=[u,v]/\RelV x u/\RelV y v:=by
 cases h with
 | cons r t =>
   cases t with
   | cons q t =>
     cases t;exact⟨_,_,rfl,r,q⟩
variable {t':Nat}
section
variable {l b:Addr} {zs:List V}
def Inv.lset{f:Array Value->Array Value}(I:Inv X pins M H s)(hH:H l=some (.lst xs))
   (e:s.heap.get? l=some { cls:=.type "list",data:=.seq its.toArray n }) (hf:f its.toArray=its'.toArray) (hv:Vals ys its') (hz:ys.length<=sizeLine) :
   Inv X pins M (upd H l<|.lst ys) { s with heap:=s.heap.update l (By f),toks:=t' }:=by
 have q:=PySem.IsL.update e f;rw[hf] at q;refine I.write (x:=l) (e:=l) (by rw[hH];exact trivial) (.inl rfl) (fun b' u hb hu=>(CQ s.heap (By f)<|BV hb).trans hu) ⟨_,q⟩ ?_;exact⟨hz,its',_,hv,q⟩
def Inv.lnew(I:Inv X pins M H s)(hv:Vals ys its)(hz:ys.length<=sizeLine) :
   Inv X pins M (upd H s.heap.objs.size<|.lst ys) { s with heap:=s.heap.push { cls:=.type "list",data:=.seq its.toArray },toks:=t' } :=
 I.laid (fun _ _ q=>Ad _ q) (Af _) ⟨hz,its,0,hv,Al _ rfl⟩
def Inv.fresh(I:Inv X pins M H s):H s.heap.objs.size=none:=I.hok.fresh<|Af _
def Inv.lstM(I:Inv X pins M H s)(hH:H l=some (.lst xs)):xs.length<=sizeLine/\∃ (its:List Value) (n:Nat),Vals xs its/\xs.length=its.length/\s.heap.get? l=some { cls:=.type "list",data:=.seq its.toArray n }:=by obtain⟨z,its,n,r,e⟩:=I.hok l _ hH;exact⟨z,its,n,r,r.length,e⟩
end
def zqk:V->List V->Hp->VK->Prop:=fun x vs H Q=>∃ l xs y,x=.ref l/\vs=[y]/\H l=some (.lst xs)/\xs.length < sizeLine/\Q .non (upd H l<|.lst<|xs++[y])
def zh6:MtM X "list.append" zqk:=by intro pins s M H x vs v us Q I rx rv h;obtain⟨l,xs,y,rfl,rfl,hH,hz,q⟩:=h;cases rx;obtain⟨u,rfl,ru⟩:=rv.one;obtain⟨z,its,n,r,hl,e⟩:=I.lstM hH;refine G9 F.slot_list_append ⟨_,e,rfl⟩ F.entry_list_append (F.args_list_append_2 _ _) (PySem.list_append l its.toArray n u (by rw[Aq];omega)) ⟨e,?_⟩;refine⟨.non,_,I.lset (its':=its++[u]) hH e (by simp) (r.append<|.cons ru .nil) ?_,rfl,q⟩;rw[AE,Cm];omega
def rCat:R2:=fun x y H Q=>∃ l b xs zs,x=.ref l/\y=.ref b/\H l=some (.lst xs)/\H b=some (.lst zs)/\xs.length+zs.length<=sizeLine/\∀ p,H p=none->Q (.ref p) (upd H p<|.lst<|xs++zs)
def zsU:OpR X (binaryOp .Add) rCat:=by
 intro pins s M H x y v u Q I rx ry h;obtain⟨l,b,xs,zs,rfl,rfl,hH,hB,hz,q⟩:=h;cases rx;cases ry;obtain⟨z,its,n,r,hl,e⟩:=I.lstM hH;obtain⟨z2,its2,n2,r2,hl2,e2⟩:=I.lstM hB;refine PySem.P.add_list e e2 ?_ (by rw[Aq,Aq];omega);have ea:its.toArray++its2.toArray=(its++its2).toArray:=by simp
 rw[ea];exact⟨.ref _,_,I.lnew (t':=s.toks) (r.append r2) (by rw[AE];omega),rfl,q _ I.fresh⟩
section
variable {prog:Program} {w:World} {A:Around} {E:Value->Shared->Prop}
set_option maxRecDepth 100000 in
end
end L2
namespace Att
open PySem PySem.W PySem.Calls PyProof.Rows
def zfr{P:Params}{h:Heap}:∀ (ns:List Int) (vs:List Value),WellAll P h vs (ns.map WData.int)->IntsAre vs ns:=by
 intro ns
 induction ns with
 | nil =>
   intro vs w;rw[Cz] at w;cases w;exact .nil
 | cons n ns ih =>
   intro vs w;rw[Ao] at w
   cases w with
   | cons a b =>
     cases a;exact .cons _ _<|ih _ b
def zls{l:OpenLaw}{n:Nat}(hn:l.most=some n){P:Params}{h:Heap}{args:List WData}{vals:List Value}
   (hpre:l.row.toRowW.claim.pre args=true) (hwl:WellAll P h vals args) :
   ∃ a vs ns,vals=[AC a]/\args=[WData.list (ns.map WData.int)]/\h.get? a=some { cls:=.type "list",data:=.seq vs.toArray }/\IntsAre vs ns/\ns.length<=n:=by
 have hsh:WShape.hasAll [] args [.list .int]=true:=(pre_splitW hpre).1;have hc:l.pre.holds [] { args:=args }=true:=(pre_splitW hpre).2;obtain⟨d,r,rfl,h1,h2⟩:=hasAllW_cons hsh;obtain rfl:=hasAllW_nil h2;obtain⟨xs,rfl,h3⟩:=hasW_list h1;obtain⟨ns,rfl⟩:=items_int h3;have hlen:ns.length<=n:=by
   unfold OpenLaw.pre at hc;have h4:(WTm.not<|.lt (.lit<|.int (n:Int))<|.len<|.arg 0).holds [] { args:=[.list (ns.map .int)] }=true:=by have h4:=(holds_andW hc).1;rw[hn] at h4;exact h4
   have h5:=condW_of h4<|w_not<|w_lt w_lit<|w_len_list<|w_arg rfl;rw[Ai] at h5;refine Nat.le_of_not_lt fun q=>?_;have q':(n:Int) < ((ns.length:Nat):Int):=by omega
   first
     | (rw[decide_eq_true q'] at h5;exact absurd h5 (by decide))
     | (simp at h5;omega)
 cases hwl with
 | cons w1 w2 =>
   cases w2
   cases w1 with
   | list ho hall=>exact⟨_,_,ns,rfl,rfl,ho,zfr ns _ hall,hlen⟩
def zlD(l:OpenLaw)(args:List WData):l.row.toRowW.claim.post args (.bool true) args=true :=
 postW_of (r:=l.row.toRowW) (X:=(true==true))
   (show WShape.has [] (.bool true) .bool=true by first | rfl | decide | simp[WShape.has,WShape.arms,WShape.armsAll])
   (show (WTm.eq .res<|.lit<|.bool true).value [] { args:=args,res:=some (.bool true),after:=args }=some (.bool<|true==true) from w_eq_bool (w_res rfl) w_lit) rfl
def attach_call{l:OpenLaw}{n:Nat}{q:Program}{loose:List Str}{XP:(Str->Option Value)->Heap->Prop}{YP:World->Heap->Prop}{d:DefRec}
   (hn:l.most=some n) (hdf:d.params.defaults=[])
   (call:∀ (w:World) (s₀ s₁:Shared) (mg mb:Str->Option Value) (fa:Addr) (o:Obj) (pm cd doc:Value) (a:Addr) (vs:List Value) (ns:List Int),
     Ground q loose [] XP w s₀ mg mb s₁.heap->YP w s₁.heap ->
     s₁.heap.get? fa=some o->o.data=.func (docDef d.name d.params d.body d.scope pm cd doc)->s₁.heap.CodeRec cd d.name->mg d.name=some (.ref fa) ->
     s₁.heap.get? a=some { cls:=.type "list",data:=.seq vs.toArray }->IntsAre vs ns->ns.length<=n->s₁.gens=#[] ->
     codeAny (model l.prog w) callerA (.call (.ref fa) ⟨[.ref a],[]⟩) (fun r s'=>r=.ok (.ret<|.bool true)/\OldK s₁.heap s'.heap/\s'.os=s₁.os/\AllBare s'.gens) s₁) :
   WalkO q loose XP YP l.row.toRowW d [] (fun f vs=>Hc f vs):=by
 intro w s₀ s₁ mg mb G Y fa o pm cd doc dV kV ho hd hcd hD hmg hg args vals as hpre hlay hrd hwl hlo;obtain rfl:dV=.none:=Dflts.none hD hdf;obtain rfl:kV=.none:=Dflts.noKw hD;obtain⟨a,vs,ns,rfl,rfl,hobj,hints,hlen⟩:=zls hn hpre hwl;refine enter_call<|CW (call w s₀ s₁ mg mb fa o pm cd doc a vs ns G Y ho (fd_plain hd) hcd hmg hobj hints hlen hg) fun r s' hq=>?_;obtain⟨rfl,h2,h3,h4⟩:=hq;exact⟨.inl ⟨.bool true,.bool true,[],rfl,fun _=>rfl,.bool true,zlD l _,fun _=>⟨DB,fun _ hm=>(nomatch hm)⟩⟩,h2,h3,h4⟩
end Att
namespace L2
open PySem PySem.Spec PyProof.Rows
def zhI:∀ {vs:List Value} {ns:List Int},IntsAre vs ns->Vals (ns.map V.int) vs
 | _,_,.nil=>.nil
 | _,_,.cons n t h=>.cons ⟨t,rfl⟩<|zhI h
def Only(H:Hp):Prop:=∀ b,H b=none\/∃ o xs,H b=some (.frz o<|.lst xs)
variable {P:Program}{w:World}{K:Ae}{mg:Str->Option Value}{k:Nat}{fd:FuncData}{x:Str}{sp:Sp}
def zot{mb:Str->Option Value}{CX:CXT}{fa a:Addr}{x:Str}{s₁:Shared}{vs:List Value}{ns:List Int}
   (KX:K.In s₁.heap) (hns:s₁.heap.Ns mainGlobals mg) (hb:s₁.heap.Ns builtinsNs mb) (hbb:∀ x:Str,x≠"__name__"->mb x=bootBuiltins x) (hlim:s₁.heap.NoLimit) (hg:s₁.gens=#[])
   (ha:s₁.heap.get? a=some { cls:=.type "list",data:=.seq vs.toArray }) (hi:IntsAre vs ns) (hl:ns.length<=sizeLine) (hr:Room k callerA)
   (F:∀ base:Heap,K.In base->base.Ns mainGlobals mg->FnOk P w K mg base CX k fa fd [x] sp) (hbind:∀ (s:Shared) (u:Value),BindsTo s fd ⟨[u],[]⟩ [(x,u)])
   (hsp:∀ H:Hp,Only H->SqL K H a (ns.map V.int)->sp [.ref a] H (fun v _=>v=.bl true) fun _ _ _=>False)
   (hCX:∀ H e s',CX [] H s₁ (fun _ _ _=>False) e s'->False) :
   codeAny (model P w) callerA (.call (.ref fa) ⟨[.ref a],[]⟩) (fun r s'=>r=.ok (.ret (.bool true))/\OldK s₁.heap s'.heap/\s'.os=s₁.os/\AllBare s'.gens) s₁:=by
 have rv:=zhI hi;have lenV:=hi.length
 -- from an abstract heap in which nothing but the script may be tracked
 have core:∀ H:Hp,Only H->SqL K H a (ns.map V.int)->HOk P w H s₁.heap->(∀ b,H b≠none->b=a)->(H a≠none->K.lookup a=none) ->
     codeAny (model P w) callerA (.call (.ref fa) ⟨[.ref a],[]⟩) (fun r s'=>r=.ok (.ret (.bool true))/\OldK s₁.heap s'.heap/\s'.os=s₁.os/\AllBare s'.gens) s₁:=by
   intro H hO hS hok hA hK;have base_of:∀ {b:Addr} {o:Obj},s₁.heap.get? b=some o->H b=none->(hidT s₁.heap H).get? b=some o:=fun e n=>zoH e n;have noA:∀ {b:Addr} {o:Obj} {es:Array DictEntry} {ep:Nat},s₁.heap.get? b=some o->o.data=.dict es ep->H b=none:=fun {b o es ep} e d=>by
     cases q:H b with
     | none=>rfl
     | some u =>
       have e':b=a:=hA b (by rw[q];simp);subst e';rw[ha] at e;cases e;have d':Data.seq vs.toArray _=Data.dict es ep:=d;cases d'
   have nsK:∀ {b:Addr} {m:Str->Option Value},s₁.heap.Ns b m->(hidT s₁.heap H).Ns b m:=fun {b m} ⟨o,es,ep,e,d,r⟩=>⟨o,es,ep,base_of e (noA e d),d,r⟩
   have hKb:K.In (hidT s₁.heap H):=fun b o e=>base_of (KX b o e) (by
     cases q:H b with
     | none=>rfl
     | some u =>
       have e':b=a:=hA b (by rw[q];simp);subst e';rw[hK (by rw[q];simp)] at e;cases e)
   have hM:Mod K mg (hidT s₁.heap H):=⟨hKb,nsK hns,⟨mb,nsK hb,hbb⟩,let ⟨mc,h1,h2⟩:=hlim;⟨mc,nsK h1,h2⟩⟩
   have e0:Env0 P w K mg (hidT s₁.heap H) callerA [] s₁ H:=⟨rfl,hM,fun b o e=>zqR e,Nat.le_of_eq (zl3 _ _),trivial,fun b hb=>absurd (show b∈([]:List Addr) from hb) (by simp),hok,.of_eq hg⟩
   refine CW ((F _ hKb (nsK hns)).run callerA [] s₁ H ⟨[.ref a],[]⟩ [.ref a] [.ref a] _ _ hr e0 (hbind s₁ (.ref a)) (.cons rfl .nil) (hsp H hO hS)) fun r s' h=>?_
   cases r with
   | error e=>exact (hCX H e s' h).elim
   | ok fl =>
     cases fl with
     | next=>exact False.elim h
     | brk=>exact False.elim h
     | cont=>exact False.elim h
     | ret u =>
       obtain⟨v,H',os,bare,un,hok',r',q⟩:=h;have q':v=.bl true:=q;subst q';obtain rfl:u=Dt true:=r';refine⟨rfl,OldK.of_keep fun b o e=>?_,os,bare⟩
       cases q:H b with
       | none=>exact un.keep b o e q (by intro z;exact absurd (show b∈([]:List Addr) from z) (by simp)) (by simp)
       | some u =>
         rcases hO b with z | ⟨ob,xs,z⟩
         . rw[q] at z;cases z
         have z2:=un.frzs b ob _ z;obtain⟨e1,_⟩:=hok b _ z;obtain⟨e2,_⟩:=hok' b _ z2;rw[e] at e1;cases e1;exact e2
 cases hk:K.lookup a with
 | some o =>
   -- the script is one of the module's own objects
   have e:=KX a o hk;rw[ha] at e;cases e;refine core (fun _=>none) (fun _=>.inl rfl) (.inr ⟨_,vs.toArray,_,hk,rfl,rfl,rfl,by rw[Aq,lenV];exact hl,by simpa using rv⟩) (fun b u z=>by have z':(none:Option HO)=some u:=z;cases z') (fun b z=>absurd rfl z) fun z=>absurd rfl z
 | none =>
   refine core (fun b=>if b=a then some (.frz { cls:=.type "list",data:=.seq vs.toArray } (.lst (ns.map V.int))) else none) (fun b=>?_) (.inl (.inr ⟨{ cls:=.type "list",data:=.seq vs.toArray },if_pos rfl⟩)) (fun b u z=>?_) (fun b z=>?_) fun _=>hk
   . by_cases hb:b=a
     . exact .inr ⟨_,_,if_pos hb⟩
     exact .inl (if_neg hb)
   . by_cases hb:b=a
     . have z':=(if_pos hb).symm.trans z;cases z';subst hb;exact⟨ha,by rw[Ai];exact hl,vs,_,rv,ha⟩
     have z':=(if_neg hb).symm.trans z;cases z'
   . by_cases hb:b=a
     . exact hb
     exact absurd (if_neg hb) z
def walk_of{l:PySem.W.OpenLaw}{n:Nat}{q:Program}{loose:List Str}{XP:(Str->Option Value)->Heap->Prop}{YP:World->Heap->Prop}{d:DefRec}{K:Params->Ae}{CX:World->CXT}{sp:World->Sp}
   (hn:l.most=some n) (hn2:n<=sizeLine) (hdf:d.params.defaults=[]) (hr:Room k callerA)
   (hY:∀ (w:World) (h:Heap),YP w h->(K w.params).In h)
   (F:∀ (w:World) (mg:Str->Option Value) (fa:Addr) (h:Heap),(K w.params).In h->h.Ns mainGlobals mg->mg d.name=some (.ref fa) ->
     ∃ fd:FuncData,(∀ (s:Shared) (u:Value),BindsTo s fd ⟨[u],[]⟩ [(x,u)]) /\
       ∀ base:Heap,(K w.params).In base->base.Ns mainGlobals mg->FnOk l.prog w (K w.params) mg base (CX w) k fa fd [x] (sp w))
   (hsp:∀ (w:World) (H:Hp) (a:Addr) (ns:List Int),ns.length<=n->Only H->SqL (K w.params) H a (ns.map V.int)->sp w [.ref a] H (fun v _=>v=.bl true) fun _ _ _=>False)
   (hCX:∀ (w:World) (H:Hp) (s:Shared) (e:Value) (s':Shared),CX w [] H s (fun _ _ _=>False) e s'->False) :
   PySem.W.WalkO q loose XP YP l.row.toRowW d [] (fun f vs=>Hc f vs):=by
 refine Att.attach_call hn hdf fun w s₀ s₁ mg mb fa o pm cd doc a vs ns G Y ho hd hcd hmg hobj hints hlen hg=>?_;have KX:=hY w _ Y;obtain⟨fd,hb,hF⟩:=F w mg fa _ KX G.T.g hmg;exact zot KX G.T.g G.T.b G.T.builtins G.T.nolimit hg hobj hints (AR hlen hn2) hr hF hb (fun H hO hS=>hsp w H a ns hlen hO hS) fun H e s'=>hCX w H s₁ e s'
def zeo(s:Stmt):Arguments:=match s with
 | .FunctionDef _ a _ _ _ _ _ _ _ _=>a
 | _=>{ posonlyargs:=[],args:=[],vararg:=none,kwonlyargs:=[],kw_defaults:=[],kwarg:=none,defaults:=[] }
def zcF(s:Stmt):List Stmt:=match s with
 | .FunctionDef _ _ b _ _ _ _ _ _ _=>b
 | _=>[]
def zaO(s:Stmt):Scope:=match s with
 | .FunctionDef _ _ _ _ _ _ sc _ _ _=>sc
 | _=>{ kind:=.function,names:=[],isGenerator:=false,isCoroutine:=false }
noncomputable abbrev CX0:CXT:=fun _ _ _ _ _ _=>False
noncomputable abbrev E0:XK:=fun _ _ _=>False
variable {X:Cx}
def zub:Passes CX0 X E0:=fun _ _ _ _ _ _ _ h=>h.elim
structure Fun(K:Ae)(x qual:Str)(st:Stmt)(f:Addr)(fd:FuncData):Prop where
 ex:∃ (oc:Value) (od:Option Addr) (kV doc pm:Value) (an:Option Addr) (cdv ct:Value) (osl:Array (Option Value)),
   fd=Ci x qual (zeo st) (zcF st) (zaO st) .none kV doc pm an cdv ct/\K.lookup f=some ⟨oc,od,.func fd,osl⟩/\Du K cdv qual=true
 kp:Cv K (.ref f)=true
variable {qual:Str}{st:Stmt}{f:Addr}{ps:List Str}
section
variable {base:Heap}
def Fun.ok{N:List Str}(F:Fun K x qual st f fd)(S:FnScope N ps (zaO st))(len:∀ vs H Q E,sp vs H Q E->vs.length=ps.length)
   (hbody:∀ (cdv:Value) (A:Around) (outer:List Env) (s:Shared) (H:Hp) (vs:List V) (Q:VK) (E:XK),Room k (A.deeper<|envOfC qual (zaO st) s.heap.objs.size f cdv)->sp vs H Q E ->
     ∃ t,PSs (cxOf CX0 P w K mg base N qual (zaO st) f cdv A outer s H E).nox (zcF st) t/\t { nx:=fun _ H'=>Q .non H',rt:=Q } (start N vs) H):FnOk P w K mg base CX0 (k+1) f fd ps sp:=by
 obtain⟨oc,od,kV,doc,pm,an,cdv,ct,osl,rfl,lk,hcd⟩:=F.ex;refine zuw lk hcd S len fun A outer s H vs Q E hr hsp=>?_;obtain⟨t,h,q⟩:=hbody cdv A outer s H vs Q E hr hsp;exact⟨t,h.nox,q⟩
def Fun.binds(F:Fun K x qual st f fd)
   (h:∀ (kV doc pm:Value) (an:Option Addr) (cdv ct:Value) (us:List Value),us.length=ps.length->bindArgs (Ci x qual (zeo st) (zcF st) (zaO st) .none kV doc pm an cdv ct) ⟨us,[]⟩=pure (ps.zip us)):Binds K fd ps []:=by
 obtain⟨oc,od,kV,doc,pm,an,cdv,ct,osl,rfl,lk,hcd⟩:=F.ex;exact .all<|h kV doc pm an cdv ct
def zoK{x qual:Str}{st:Stmt}{oc:Value}{od an:Option Addr}{osl:Array (Option Value)}{kV doc pm cdv ct:Value}(l:K.lookup f=some ⟨oc,od,.func<|Ci x qual (zeo st) (zcF st) (zaO st) .none kV doc pm an cdv ct,osl⟩)
   (c:Du K cdv qual=true) (k:Cv K (.ref f)=true):Fun K x qual st f (Ci x qual (zeo st) (zcF st) (zaO st) .none kV doc pm an cdv ct):=⟨⟨oc,od,kV,doc,pm,an,cdv,ct,osl,rfl,l,c⟩,k⟩
end
def zbS{A:Around}(hr:Room k A):A.units+1 < cLine:=Cj (Eb (by decide:1<=64) _) hr.units
def pv(i:Nat){pos:Pos}(hN:X.N[i]?=some x:=by rfl)(hv:Vis X.env.scope x:=by first | exact Co rfl | exact B8 (Co rfl) | exact B8 (B8 rfl))(hd:(x==("__debug__":Str))=false:=by decide)
   (hcd:(x==("__classdict__":Str))=false:=by decide):PE X (.Name x pos) (tVar i):=zqx hN hv hd hcd
end L2
namespace L2.MP
open PySem PySem.Spec PyProof.Rows
inductive D where
 | non | bl (b:Bool) | int (i:Int) | str (x:Str) | tup (xs:List D) | ref (n:Nat) | kl (xs:List D) | fn (x:Str)
inductive O where
 | lst (xs:List D) | fz (xs:List D) | dk (kvs:List (Key×D)) | dt (kvs:List (List Key×D)) | fk (kvs:List (Key×D)) | ft (kvs:List (List Key×D)) | ob (C:Addr) (fs:List (Str×D)) | sz (n:Nat)
noncomputable abbrev Sto:=List O
noncomputable abbrev Rho:=List (Option D)
structure Kp(H H':Hp):Prop where
 tup:∀ a xs,H a=some (.tup xs)->H' a=some (.tup xs)
 frz:∀ a o u,H a=some (.frz o u)->H' a=some (.frz o u)
def SqF(K:Ae)(H:Hp)(a:Addr)(xs:List V):Prop :=
 (∃ o,H a=some (.frz o<|.lst xs))\/∃ (o:Obj) (its:Array Value) (n:Nat),K.lookup a=some o/\o.cls=.type "list"/\o.dict=none/\o.data=.seq its n/\its.size<=sizeLine/\Vals xs its.toList
variable {K:Ae}{H:Hp}{a:Addr}{xs:List V}
def SqF.sq(h:SqF K H a xs):SqL K H a xs:=by
 rcases h with h | h
 . exact .inl<|.inr h
 exact .inr h
variable {H':Hp}
def SqF.kp(T:Kp H H')(h:SqF K H a xs):SqF K H' a xs:=by
 rcases h with ⟨o,h⟩ | h
 . exact .inl ⟨o,T.frz _ _ _ h⟩
 exact .inr h
def FnA(K:Ae)(x:Str)(a:Addr):Prop:=Gw K mainGlobals x=some (some<|.ref a)
mutual
def Rep(K:Ae)(H:Hp)(io:List Addr):V->D->Prop
 | v,.non=>v=.non
 | v,.bl b=>v=.bl b
 | v,.int i=>v=.int i
 | v,.str x=>v=.str x
 | v,.tup ds=>∃ a xs,v=.ref a/\H a=some (.tup xs)/\Reps K H io xs ds
 | v,.ref n=>∃ a,v=.ref a/\io[n]?=some a
 | v,.kl ds=>∃ a xs,v=.ref a/\SqF K H a xs/\Reps K H io xs ds
 | v,.fn x=>∃ a,v=.ref a/\FnA K x a
def Reps(K:Ae)(H:Hp)(io:List Addr):List V->List D->Prop
 | xs,[]=>xs=[]
 | xs,d::ds=>∃ y ys,xs=y::ys/\Rep K H io y d/\Reps K H io ys ds
end
variable {io ka:List Addr}
mutual
def Rep.mono{K:Ae}{H H':Hp}{io ka:List Addr}(T:Kp H H'):∀ {v:V} {d:D},Rep K H io v d->Rep K H' (io++ka) v d
 | _,.non,h=>h
 | _,.bl _,h=>h
 | _,.int _,h=>h
 | _,.str _,h=>h
 | _,.tup ds,h=>by obtain⟨a,xs,e,q,r⟩:=h;exact⟨a,xs,e,T.tup a xs q,Reps.mono T r⟩
 | _,.ref n,h=>by obtain⟨a,e,q⟩:=h;exact⟨a,e,by rw[Az (List.getElem?_eq_some_iff.mp q).1];exact q⟩
 | _,.kl ds,h=>by obtain⟨a,xs,e,q,r⟩:=h;exact⟨a,xs,e,q.kp T,Reps.mono T r⟩
 | _,.fn _,h=>h
def Reps.mono{K:Ae}{H H':Hp}{io ka:List Addr}(T:Kp H H'):∀ {xs:List V} {ds:List D},Reps K H io xs ds->Reps K H' (io++ka) xs ds
 | _,[],h=>h
 | _,d::ds,h=>by obtain⟨y,ys,e,r,rs⟩:=h;exact⟨y,ys,e,Rep.mono T r,Reps.mono T rs⟩
end
variable {H1 H2:Hp}{kb:List Addr}{st st':Sto}{v:V}{d:D}{o:HO}{U:Rho}{p:Addr}{ob:O}
section
variable {ys:List V} {ds es:List D}
def Reps.length:∀ {xs:List V} {ds:List D},Reps K H io xs ds->xs.length=ds.length
 | _,[],h=>by rw[show _=[] from h];rfl
 | _,d::ds,h=>by obtain⟨y,ys,e,_,rs⟩:=h;rw[e,AA,AA,Reps.length rs]
def Reps.get:∀ {xs:List V} {ds:List D} {i:Nat} {d:D},Reps K H io xs ds->ds[i]?=some d->∃ v,xs[i]?=some v/\Rep K H io v d
 | _,[],_,_,_,e=>by simp at e
 | _,a::ds,0,d,h,e=>by
   obtain⟨y,ys,rfl,r,_⟩:=h;have e':a=d:=by simpa using e
   subst e';exact⟨y,rfl,r⟩
 | _,a::ds,i+1,d,h,e=>by obtain⟨y,ys,rfl,_,rs⟩:=h;exact Reps.get (i:=i) rs<|by simpa using e
def Reps.append:∀ {xs ys:List V} {ds es:List D},Reps K H io xs ds->Reps K H io ys es->Reps K H io (xs++ys) (ds++es)
 | _,_,[],_,h,q=>by rw[show _=[] from h];exact q
 | _,_,d::ds,_,h,q=>by obtain⟨y,ys,rfl,r,rs⟩:=h;exact⟨y,_,rfl,r,Reps.append rs q⟩
def Reps.set:∀ {xs:List V} {ds:List D} {v:V} {d:D} (i:Nat),Reps K H io xs ds->Rep K H io v d->Reps K H io (xs.set i v) (ds.set i d)
 | _,[],_,_,_,h,_=>by rw[show _=[] from h];exact rfl
 | _,a::ds,v,d,0,h,q=>by obtain⟨y,ys,rfl,_,rs⟩:=h;exact⟨v,ys,rfl,q,rs⟩
 | _,a::ds,v,d,i+1,h,q=>by obtain⟨y,ys,rfl,r,rs⟩:=h;exact⟨y,_,rfl,r,Reps.set i rs q⟩
def Reps.take:∀ {xs:List V} {ds:List D} (n:Nat),Reps K H io xs ds->Reps K H io (xs.take n) (ds.take n)
 | _,[],n,h=>by rw[show _=[] from h];simp[Reps]
 | _,_::_,0,_=>by simp[Reps]
 | _,d::ds,n+1,h=>by obtain⟨y,ys,rfl,r,rs⟩:=h;exact⟨y,_,rfl,r,Reps.take n rs⟩
def Reps.drop:∀ {xs:List V} {ds:List D} (n:Nat),Reps K H io xs ds->Reps K H io (xs.drop n) (ds.drop n)
 | _,[],n,h=>by rw[show _=[] from h];simp[Reps]
 | _,_::_,0,h=>h
 | _,d::ds,n+1,h=>by obtain⟨y,ys,rfl,r,rs⟩:=h;exact Reps.drop n rs
theorem Reps.nil:Reps K H io [] []:=rfl
def Reps.cons(r:Rep K H io v d)(rs:Reps K H io xs ds):Reps K H io (v::xs) (d::ds):=⟨v,xs,rfl,r,rs⟩
def Reps.one(r:Reps K H io xs [d]):∃ v,xs=[v]/\Rep K H io v d:=by
 obtain⟨y,ys,rfl,r,e⟩:=r
 cases (show ys=[] from e)
 exact⟨y,rfl,r⟩
def Reps.two{e:D}(r:Reps K H io xs [d,e]):∃ v u,xs=[v,u]/\Rep K H io v d/\Rep K H io u e:=by obtain⟨y,ys,rfl,r,q⟩:=r;obtain⟨v,rfl,q'⟩:=q.one;exact⟨y,v,rfl,r,q'⟩
noncomputable abbrev KR (κ:Type) (K:Ae) (H:Hp) (io:List Addr):List (κ×V)->List (κ×D)->Prop:=Paired fun (p:κ×V) (q:κ×D)=>p.1=q.1/\Rep K H io p.2 q.2
def SetZ(a:Addr)(n:Nat)(h:Heap):Prop:=∃ o es ep t,h.get? a=some o/\o.ExactSet/\o.data=.set es ep t/\es.size < scanBound/\t.fits es.size=true/\es.size=n
def OR(K:Ae)(H:Hp)(io:List Addr)(a:Addr):O->Prop
 | .lst ds=>∃ xs,H a=some (.lst xs)/\Reps K H io xs ds
 | .fz ds=>∃ o xs,H a=some (.frz o<|.lst xs)/\Reps K H io xs ds
 | .dk kvs=>∃ ps,H a=some (.dK ps)/\KR Key K H io ps kvs
 | .dt kvs=>∃ ps,H a=some (.dT ps)/\KR (List Key) K H io ps kvs
 | .fk kvs=>∃ o ps,H a=some (.frz o<|.dK ps)/\KR Key K H io ps kvs
 | .ft kvs=>∃ o ps,H a=some (.frz o<|.dT ps)/\KR (List Key) K H io ps kvs
 | .ob C fs=>∃ dx ps,H a=some (.ins C dx ps)/\KR Str K H io ps fs
 | .sz n=>H a=some (.ext<|SetZ a n)
structure StR(K:Ae)(H:Hp)(io:List Addr)(st:Sto):Prop where
 len:io.length=st.length
 nd:io.Nodup
 ob:∀ (n:Nat) (a:Addr) (o:O),io[n]?=some a->st[n]?=some o->OR K H io a o
structure EnvR(K:Ae)(H:Hp)(io:List Addr)(M:St)(U:Rho):Prop where
 len:M.length=U.length
 at_:∀ (i:Nat) (d:D),U[i]?=some (some d)->∃ v,M[i]?=some (some v)/\Rep K H io v d
structure Ext(io ka:List Addr)(H H':Hp):Prop where
 keep:∀ b o,H b=some o->b ∉ io->H' b=some o
 fresh:∀ b,b∈ka->H b=none
 frz:∀ b o u,H b=some (.frz o u)->H' b=some (.frz o u)
def OR.stands{o:O}(h:OR K H io a o):∃ u,H a=some u/\∀ xs,u≠.tup xs/\∀ ob,u≠.frz ob (.tup xs):=by
 cases o with
 | lst ds=>obtain⟨xs,e,_⟩:=h;exact⟨_,e,fun _=>⟨by simp,by simp⟩⟩
 | fz ds=>obtain⟨ob,xs,e,_⟩:=h;exact⟨_,e,fun _=>⟨by simp,by simp⟩⟩
 | dk kvs=>obtain⟨xs,e,_⟩:=h;exact⟨_,e,fun _=>⟨by simp,by simp⟩⟩
 | dt kvs=>obtain⟨xs,e,_⟩:=h;exact⟨_,e,fun _=>⟨by simp,by simp⟩⟩
 | fk kvs=>obtain⟨ob,xs,e,_⟩:=h;exact⟨_,e,fun _=>⟨by simp,by simp⟩⟩
 | ft kvs=>obtain⟨ob,xs,e,_⟩:=h;exact⟨_,e,fun _=>⟨by simp,by simp⟩⟩
 | ob C fs=>obtain⟨dx,xs,e,_⟩:=h;exact⟨_,e,fun _=>⟨by simp,by simp⟩⟩
 | sz n=>exact⟨_,h,fun _=>⟨by simp,by simp⟩⟩
def StR.mem(S:StR K H io st)(h:a∈io):∃ u,H a=some u/\∀ xs,u≠.tup xs/\∀ ob,u≠.frz ob (.tup xs):=by
 obtain⟨n,hn,e⟩:=Ge h;have h1:io[n]?=some a:=by rw[Ak hn,e]
 have h2:n < st.length:=by rw[<-S.len];exact hn
 exact (S.ob n a _ h1<|Ak h2).stands
def Ext.sqT(S:StR K H io st)(E:Ext io ka H H'):∀ a xs,H a=some (.tup xs)->H' a=some (.tup xs):=by intro a xs h;refine E.keep _ _ h fun m=>?_;obtain⟨u,e,q⟩:=S.mem m;rw[h] at e;exact (q xs).1 (Ax e).symm
def Ext.kp(S:StR K H io st)(E:Ext io ka H H'):Kp H H':=⟨E.sqT S,E.frz⟩
def Ext.refl:Ext io [] H H:=⟨fun _ _ h _=>h,fun _ h=>absurd h (by simp),fun _ _ _ h=>h⟩
def Ext.trans(S1:StR K H1 (io++ka) st)(E1:Ext io ka H H1)(E2:Ext (io++ka) kb H1 H2):Ext io (ka++kb) H H2 where
 keep:=fun b o h n=>E2.keep b o (E1.keep b o h n) fun m=>by
   rcases List.mem_append.mp m with m | m
   . exact n m
   rw[E1.fresh b m] at h;cases h
 fresh:=fun b m=>by
   rcases List.mem_append.mp m with m | m
   . exact E1.fresh b m
   . have h1:=E2.fresh b m
     cases e:H b with
     | none=>rfl
     | some o =>
       by_cases hb:b∈io
       . obtain⟨u,e',_⟩:=S1.mem<|Bw _ hb;rw[e'] at h1;cases h1
       rw[E1.keep b o e hb] at h1;cases h1
 frz:=fun b o u h=>E2.frz b o u (E1.frz b o u h)
def Ext.app(E:Ext io (ka++[]) H H'):Ext io ka H H':=by rw[As] at E;exact E
def Rep.ext(S:StR K H io st)(E:Ext io ka H H')(h:Rep K H io v d):Rep K H' (io++ka) v d:=Rep.mono (E.kp S) h
def Reps.ext(S:StR K H io st)(E:Ext io ka H H')(h:Reps K H io xs ds):Reps K H' (io++ka) xs ds:=Reps.mono (E.kp S) h
def EnvR.ext{M:St}{U:Rho}(h:EnvR K H io M U)(S:StR K H io st)(E:Ext io ka H H'):EnvR K H' (io++ka) M U :=
 ⟨h.len,fun i d e=>let ⟨v,q,r⟩:=h.at_ i d e;⟨v,q,r.ext S E⟩⟩
def EnvR.set{M:St}{U:Rho}{v:V}{d:D}(i:Nat)(h:EnvR K H io M U)(r:Rep K H io v d):EnvR K H io (M.set i<|some v) (U.set i<|some d):=by
 refine⟨by rw[DZ,DZ];exact h.len,fun j e q=>?_⟩
 by_cases hij:i=j
 . subst hij;rw[ED] at q;rw[if_pos rfl] at q
   split at q
   . rename_i hl
     cases (Ax<|Ax q)
     exact⟨v,by rw[ED,if_pos rfl,if_pos (by rw[h.len];exact hl)],r⟩
   . cases q
 rw[AH hij] at q;obtain⟨u,q',r'⟩:=h.at_ j e q;exact⟨u,by rw[AH hij];exact q',r'⟩
def StR.nil(S:StR K H io st):StR K H (io++[]) st:=by rw[As];exact S
def KR.mono{κ:Type}{ps:List (κ×V)}{kvs:List (κ×D)}(T:Kp H H')(h:KR κ K H io ps kvs):KR κ K H' (io++ka) ps kvs:=Paired.mapP h fun _ _ z=>⟨z.1,Rep.mono T z.2⟩
def OR.mono{a:Addr}{o:O}(T:Kp H H')(e:H' a=H a)(h:OR K H io a o):OR K H' (io++ka) a o:=by
 cases o with
 | lst ds=>obtain⟨xs,q,r⟩:=h;exact⟨xs,e.trans q,Reps.mono T r⟩
 | fz ds=>obtain⟨ob,xs,q,r⟩:=h;exact⟨ob,xs,e.trans q,Reps.mono T r⟩
 | dk kvs=>obtain⟨xs,q,r⟩:=h;exact⟨xs,e.trans q,KR.mono T r⟩
 | dt kvs=>obtain⟨xs,q,r⟩:=h;exact⟨xs,e.trans q,KR.mono T r⟩
 | fk kvs=>obtain⟨ob,xs,q,r⟩:=h;exact⟨ob,xs,e.trans q,KR.mono T r⟩
 | ft kvs=>obtain⟨ob,xs,q,r⟩:=h;exact⟨ob,xs,e.trans q,KR.mono T r⟩
 | ob C fs=>obtain⟨dx,xs,q,r⟩:=h;exact⟨dx,xs,e.trans q,KR.mono T r⟩
 | sz n=>exact e.trans h
def zfx(S:StR K H io st)(hp:H p=none):Ext io [] H (upd H p o)/\StR K (upd H p o) (io++[]) st:=by
 have E:Ext io [] H (upd H p o):=⟨fun b u h _=>by rw[zaV (zaF h hp)];exact h,fun _ h=>absurd h (by simp),fun b u v h=>by rw[zaV (zaF h hp)];exact h⟩
 refine⟨E,?_⟩;refine⟨by rw[As];exact S.len,by rw[As];exact S.nd,fun n a ob h1 h2=>?_⟩;rw[As] at h1;obtain⟨u,hu,_⟩:=(S.ob n a ob h1 h2).stands;exact OR.mono (E.kp S) (zaV<|zaF hu hp)<|S.ob n a ob h1 h2
def zjY(S:StR K H io st)(hp:H p=none)(new:∀ H',Kp H H'->H' p=some o->OR K H' (io++[p]) p ob):Ext io [p] H (upd H p o)/\StR K (upd H p o) (io++[p]) (st++[ob]):=by
 have E:Ext io [p] H (upd H p o):=⟨fun b u h _=>by rw[zaV (zaF h hp)];exact h,fun b h=>by rw[List.mem_singleton.mp h];exact hp,fun b u v h=>by rw[zaV (zaF h hp)];exact h⟩
 have np:p ∉ io:=fun m=>by obtain⟨u,hu,_⟩:=S.mem m;rw[hp] at hu;cases hu
 refine⟨E,by simp[S.len],?_,fun n a ob' h1 h2=>?_⟩
 . rw[EE];refine⟨S.nd,by simp,fun a ha b hb=>?_⟩;rw[List.mem_singleton.mp hb];rintro rfl;exact np ha
 . by_cases hn:n < io.length
   . rw[Az hn] at h1;rw[Az (by rw[<-S.len];exact hn)] at h2;obtain⟨u,hu,_⟩:=(S.ob n a ob' h1 h2).stands;exact OR.mono (E.kp S) (zaV<|zaF hu hp)<|S.ob n a ob' h1 h2
   . have hl:n < (io++[p]).length:=(List.getElem?_eq_some_iff.mp h1).1;rw[AE,Cm] at hl;have e:n=io.length:=by omega
     subst e;rw[Bb (Af _),Do] at h1;rw[S.len,Bb (Af _),Do] at h2
     cases (Ax h1)
     cases (Ax h2)
     exact new _ (E.kp S) zbP
def zjA{n:Nat}{o:HO}{old:O}(S:StR K H io st)(hn:io[n]?=some p)(ho:st[n]?=some old)(nf:∀ o u,H p≠some (.frz o u))(new:∀ H',Kp H H'->H' p=some o->OR K H' (io++[]) p ob):Ext io [] H (upd H p o)/\StR K (upd H p o) (io++[]) (st.set n ob):=by
 have hp:p∈io:=AW hn;have E:Ext io [] H (upd H p o):=⟨fun b u h nb=>by rw[zaV (fun e=>nb (by rw[e];exact hp))];exact h,fun b h=>absurd h (by simp),fun b u v h=>by
   by_cases hb:b=p
   . subst hb;exact absurd h<|nf u v
   rw[zaV hb];exact h⟩
 refine⟨E,by simp[S.len],by rw[As];exact S.nd,fun m a ob' h1 h2=>?_⟩;rw[As] at h1
 by_cases hm:m=n
 . subst hm;rw[hn] at h1
   cases (Ax h1)
   rw[ED,if_pos rfl] at h2
   split at h2
   . cases (Ax h2)
     exact new _ (E.kp S) zbP
   . cases h2
 . rw[AH (fun e=>hm e.symm)] at h2;have hap:a≠p:=fun e=>by
     subst e;exact hm<|(List.getElem?_inj (List.getElem?_eq_some_iff.mp h1).1 S.nd).mp<|h1.trans hn.symm
   exact OR.mono (E.kp S) (zaV hap)<|S.ob m a ob' h1 h2
end
noncomputable abbrev ME:=Rho->Sto->Option (D×Sto)
noncomputable abbrev MT:=Rho->Sto->Option (Bool×Sto)
noncomputable abbrev MA:=Rho->Sto->Option (List D×Sto)
inductive Fl where
 | nx (U:Rho) | rt (d:D) | bk (U:Rho) | ct (U:Rho)
noncomputable abbrev MS:=Rho->Sto->Option (Fl×Sto)
noncomputable abbrev MG:=D->Rho->Sto->Option (Rho×Sto)
noncomputable abbrev MGs:=List D->Rho->Sto->Option (Rho×Sto)
def Bh(K:Ae)(io:List Addr)(H:Hp)(st':Sto)(d:D)(Q:VK):Prop:=∀ v H' ka,Ext io ka H H'->StR K H' (io++ka) st'->Rep K H' (io++ka) v d->Q v H'
inductive tE (K:Ae) (m:ME) (M:L2.St) (H:Hp) (Q:VK):Prop
 | mk (U:Rho) (st:Sto) (io:List Addr) (d:D) (st':Sto) (h1:EnvR K H io M U) (h2:StR K H io st) (h3:m U st=some (d,st')) (h4:Bh K io H st' d Q)
inductive tT (K:Ae) (m:MT) (M:L2.St) (H:Hp) (Q:Bool->Hp->Prop):Prop
 | mk (U:Rho) (st:Sto) (io:List Addr) (b:Bool) (st':Sto) (h1:EnvR K H io M U) (h2:StR K H io st) (h3:m U st=some (b,st')) (h4:∀ H' ka,Ext io ka H H'->StR K H' (io++ka) st'->Q b H')
inductive tA (K:Ae) (m:MA) (M:L2.St) (H:Hp) (Q:List V->Hp->Prop):Prop
 | mk (U:Rho) (st:Sto) (io:List Addr) (ds:List D) (st':Sto) (h1:EnvR K H io M U) (h2:StR K H io st) (h3:m U st=some (ds,st')) (h4:∀ vs H' ka,Ext io ka H H'->StR K H' (io++ka) st'->Reps K H' (io++ka) vs ds->Q vs H')
def tS(K:Ae)(m:MS):TS:=fun N M H=>∃ U st io f st',EnvR K H io M U/\StR K H io st/\m U st=some (f,st') /\
 match f with
 | .nx U'=>∀ M' H' ka,Ext io ka H H'->StR K H' (io++ka) st'->EnvR K H' (io++ka) M' U'->N.nx M' H'
 | .bk U'=>∀ M' H' ka,Ext io ka H H'->StR K H' (io++ka) st'->EnvR K H' (io++ka) M' U'->N.bk M' H'
 | .ct U'=>∀ M' H' ka,Ext io ka H H'->StR K H' (io++ka) st'->EnvR K H' (io++ka) M' U'->N.ct M' H'
 | .rt d=>Bh K io H st' d N.rt
inductive tG (K:Ae) (m:MG) (v:V) (M:L2.St) (H:Hp) (Q:L2.St->Hp->Prop):Prop
 | mk (d:D) (U:Rho) (st:Sto) (io:List Addr) (U':Rho) (st':Sto) (h0:Rep K H io v d) (h1:EnvR K H io M U) (h2:StR K H io st) (h3:m d U st=some (U',st')) (h4:∀ M' H' ka,Ext io ka H H'->StR K H' (io++ka) st'->EnvR K H' (io++ka) M' U'->Q M' H')
inductive tGs (K:Ae) (m:MGs) (vs:List V) (M:L2.St) (H:Hp) (Q:L2.St->Hp->Prop):Prop
 | mk (ds:List D) (U:Rho) (st:Sto) (io:List Addr) (U':Rho) (st':Sto) (h0:Reps K H io vs ds) (h1:EnvR K H io M U) (h2:StR K H io st) (h3:m ds U st=some (U',st')) (h4:∀ M' H' ka,Ext io ka H H'->StR K H' (io++ka) st'->EnvR K H' (io++ka) M' U'->Q M' H')
def SE(X:Cx)(e:Expr)(m:ME):Prop:=PE X e<|tE X.K m
def SB(X:Cx)(e:Expr)(m:MT):Prop:=PT X e<|tT X.K m
def SA(X:Cx)(es:List Expr)(m:MA):Prop:=PA X es<|tA X.K m
def SS(X:Cx)(s:Stmt)(m:MS):Prop:=PS X s<|tS X.K m
def SSs(X:Cx)(s:List Stmt)(m:MS):Prop:=PSs X s<|tS X.K m
def SG(X:Cx)(e:Expr)(m:MG):Prop:=PG X e<|tG X.K m
def SGs(X:Cx)(e:List Expr)(m:MGs):Prop:=PGs X e<|tGs X.K m
variable {M:L2.St}{b:Bool}{pos:Pos}{t u:TT}{x:Str}{Q:VK}{op:CmpOp}{s1:Sto}{rs:List Expr}
section
variable {X:Cx} {e a b c:Expr} {es:List Expr} {st1 st2:Stmt} {rest body orelse:List Stmt} {m ma mb mc:ME} {mt mu:MT} {mm:MA} {ms mq mr:MS} {mg:MG} {mgs:MGs}
def PE.imp{t u:TE}(h:PE X e t)(k:∀ M H Q,u M H Q->t M H Q):PE X e u:=fun pins s M H Q I q=>h pins s M H Q I<|k M H Q q
def PT.imp(h:PT X e t)(k:∀ M H Q,u M H Q->t M H Q):PT X e u:=fun pins s M H Q I q=>h pins s M H Q I<|k M H Q q
def PA.imp{t u:TA}(h:PA X es t)(k:∀ M H Q,u M H Q->t M H Q):PA X es u:=fun p pins s M H Q I q=>h p pins s M H Q I<|k M H Q q
def PS.imp{t u:TS}(h:PS X st1 t)(k:∀ N M H,u N M H->t N M H):PS X st1 u:=fun pins s M H N I q=>h pins s M H N I<|k N M H q
def PSs.imp{t u:TS}(h:PSs X rest t)(k:∀ N M H,u N M H->t N M H):PSs X rest u:=fun pins s M H N I q=>h pins s M H N I<|k N M H q
def PG.imp{t u:TG}(h:PG X e t)(k:∀ v M H Q,u v M H Q->t v M H Q):PG X e u:=fun pins s M H v w Q I r q=>h pins s M H v w Q I r<|k v M H Q q
def PGs.imp{t u:TGs}(h:PGs X es t)(k:∀ v M H Q,u v M H Q->t v M H Q):PGs X es u:=fun pins s M H v w Q I r q=>h pins s M H v w Q I r<|k v M H Q q
def zae{α β:Type}{x:Option α}{f:α->Option β}{y:β}(h:x.bind f=some y):∃ z,x=some z/\f z=some y:=by
 cases x with
 | none=>cases h
 | some z=>exact⟨z,rfl,h⟩
def Bh.now(h:Bh K io H st d Q)(S:StR K H io st)(r:Rep K H io v d):Q v H:=h v H [] Ext.refl S.nil (by rw[As];exact r)
def Bh.on(h:Bh K io H st' d Q)(S1:StR K H1 (io++ka) st)(E:Ext io ka H H1):Bh K (io++ka) H1 st' d Q:=fun v H' kb E' S' r =>
 h v H' (ka++kb) (E.trans S1 E') (by rw[<-Av];exact S') (by rw[<-Av];exact r)
def mVar(i:Nat):ME:=fun U st=>match U[i]? with
 | some (some d)=>some (d,st)
 | _=>none
def zac(i:Nat)(hN:X.N[i]?=some x:=by rfl)(hv:Vis X.env.scope x:=by first | exact Co rfl | exact B8 (Co rfl) | exact B8 (B8 rfl))(hd:(x==("__debug__":Str))=false:=by decide)
   (hcd:(x==("__classdict__":Str))=false:=by decide):SE X (.Name x pos) (mVar i):=PE.imp (zqx hN hv hd hcd) <| by
 rintro M H Q ⟨U,st,io,d,st',E,S,e,k⟩;unfold mVar at e
 split at e
 . rename_i d' he;cases e;obtain⟨v,hv,r⟩:=E.at_ i _ he;exact⟨v,hv,k.now S r⟩
 . cases e
def mCon(d:D):ME:=fun _ st=>some (d,st)
def zad{i j pos}:SE X (.Constant (.int i) j pos) (mCon<|.int i):=PE.imp zsG <| by
 rintro M H Q ⟨U,st,io,d,st',E,S,e,k⟩
 cases e;exact k.now S rfl
def zei{b j pos}:SE X (.Constant (.bool b) j pos) (mCon<|.bl b):=PE.imp zua <| by
 rintro M H Q ⟨U,st,io,d,st',E,S,e,k⟩
 cases e;exact k.now S rfl
def zbI{x j pos}:SE X (.Constant (.str x) j pos) (mCon<|.str x):=PE.imp zsB <| by
 rintro M H Q ⟨U,st,io,d,st',E,S,e,k⟩
 cases e;exact k.now S rfl
def zlp{j pos}:SE X (.Constant .none j pos) (mCon .non):=PE.imp zsE <| by
 rintro M H Q ⟨U,st,io,d,st',E,S,e,k⟩
 cases e;exact k.now S rfl
def zmF{z:Str}{t:Tok}(hg:Gl X x)(hm:X.mg x=some (.str z t))(hd:(x==("__debug__":Str))=false:=by decide):SE X (.Name x pos) (mCon<|.str z) :=
 PE.imp (zqB hg hm (v:=.str z) ⟨t,rfl⟩ hd) <| by
   rintro M H Q ⟨U,st,io,d,st',E,S,e,k⟩
   cases e;exact k.now S rfl
noncomputable abbrev G2:=D->D->Sto->Option (D×Sto)
inductive r2M (K:Ae) (g:G2) (x y:V) (H:Hp) (Q:VK):Prop
 | mk (dx dy:D) (st:Sto) (io:List Addr) (d:D) (st':Sto) (h0:Rep K H io x dx) (h1:Rep K H io y dy) (h2:StR K H io st) (h3:g dx dy st=some (d,st')) (h4:Bh K io H st' d Q)
def OpM(X:Cx)(f:Value->Value->Sem Value)(g:G2):Prop:=OpR X f<|r2M X.K g
def mBin(g:G2)(ma mb:ME):ME:=fun U st=>(ma U st).bind fun (x,s1)=>(mb U s1).bind fun (y,s2)=>g x y s2
def zeJ{g:G2}(h:tE K (mBin g ma mb) M H Q):tOp (r2M K g) (tE K ma) (tE K mb) M H Q:=by obtain⟨U,st,io,d,st',E,S,e,k⟩:=h;obtain⟨⟨x,s1⟩,e1,e⟩:=zae e;obtain⟨⟨y,s2⟩,e2,e3⟩:=zae e;refine⟨U,st,io,x,s1,E,S,e1,fun v1 H1 k1 X1 S1 R1=>?_⟩;refine⟨U,s1,io++k1,y,s2,E.ext S X1,S1,e2,fun v2 H2 k2 X2 S2 R2=>?_⟩;exact⟨x,y,s2,(io++k1)++k2,d,st',R1.ext S1 X2,R2,S2,e3,(k.on S1 X1).on S2 X2⟩
def zaJ{op:Operator}{g:G2}(ho:OpM X (binaryOp op) g)(ha:SE X a ma)(hb:SE X b mb):SE X (.BinOp a op b pos) (mBin g ma mb):=PE.imp (zt8 ho ha hb) fun _ _ _ h=>zeJ h
def zeu{g:G2}(ho:OpM X (compareOp op) g)(ha:SE X a ma)(hb:SE X b mb)(hm:behindInMarks op b=false):SE X (.Compare a [op] [b] pos) (mBin g ma mb):=PE.imp (zqD ho ha hb hm) fun _ _ _ h=>zeJ h
def mTst(m:ME):MT:=fun U st=>(m U st).bind fun (x,s1)=>match x with
 | .bl b=>some (b,s1)
 | _=>none
def zjb{b:Bool}(e:mTst m U st=some (b,st')):m U st=some (.bl b,st'):=by
 obtain⟨⟨x,s1⟩,e1,e⟩:=zae e;dsimp only at e
 split at e
 . cases e;exact e1
 . cases e
def zfI{Q:Bool->Hp->Prop}(h:tT K (mTst m) M H Q):tE K m M H fun x H'=>∃ b,x=.bl b/\Q b H':=by obtain⟨U,st,io,b,st',E,S,e,k⟩:=h;exact⟨U,st,io,_,st',E,S,zjb e,fun v H' ka X' S' R'=>⟨b,R',k H' ka X' S'⟩⟩
def zbR{g:G2}(ho:OpM X (compareOp op) g)(ha:SE X a ma)(hb:SE X b mb)(hm:behindInMarks op b=false):SB X (.Compare a [op] [b] pos) (mTst<|mBin g ma mb) :=
 PT.imp (zqn ho ha hb hm) fun M H Q h=>zeJ (zfI h)
def zda(h:SE X a m)(he:∀ whole,isTrue a X.env whole=(do let v <-whole;standAt a.pos;holding [v] (truthy v)):=by intro _;rfl):SB X a (mTst m) :=
 PT.imp (znX h he) fun M H Q h=>by obtain⟨U,st,io,b,st',E,S,e,k⟩:=zfI h;refine⟨U,st,io,b,st',E,S,e,fun v H' ka X' S' R'=>?_⟩;obtain⟨c,hc,q⟩:=k v H' ka X' S' R';subst hc;exact⟨c,rfl,q⟩
def zcN(m:MT):MT:=fun U st=>(m U st).map fun (b,s)=>(!b,s)
def zbL(h:SB X a mt):SB X (.UnaryOp .Not a pos) (zcN mt):=PT.imp (zsn h) <| by
 rintro M H Q ⟨U,st,io,b,st',E,S,e,k⟩;unfold zcN at e
 cases e1:mt U st with
 | none=>rw[e1] at e;cases e
 | some p=>rw[e1] at e;cases e;exact⟨U,st,io,_,_,E,S,e1,fun H' ka X' S'=>k H' ka X' S'⟩
def zgw(m n:MT):MT:=fun U st=>(m U st).bind fun (b,s)=>if b=true then n U s else some (false,s)
def mOrT(m n:MT):MT:=fun U st=>(m U st).bind fun (b,s)=>if b=true then some (true,s) else n U s
def SW(X:Cx)(e:Expr)(m:MT):Prop:=PW X e<|tT X.K m
def PW.imp(h:PW X e t)(k:∀ M H Q,u M H Q->t M H Q):PW X e u:=fun w pins s M H Q I q=>h w pins s M H Q I<|k M H Q q
def SW.sb(h:SW X a mt):SB X a mt:=PW.pt h
def zeQ(ha:SB X a mt):SW X (.BoolOp .And [a] pos) mt:=pw_and1 ha
def zde(ha:SB X a mt):SW X (.BoolOp .Or [a] pos) mt:=pw_or1 ha
def zjL{n:MT}{Q:Bool->Hp->Prop}{b:Bool}(E:EnvR K H io M U)(S:StR K H io st)(X1:Ext io ka H H1)(S1:StR K H1 (io++ka) s1)(e:n U s1=some (b,st'))(k:∀ H' ka,Ext io ka H H'->StR K H' (io++ka) st'->Q b H'):tT K n M H1 Q :=
 ⟨U,s1,io++ka,b,st',E.ext S X1,S1,e,fun H' kb X' S'=>k H' (ka++kb) (X1.trans S1 X') (by rw[<-Av];exact S')⟩
def zhb(ha:SB X a mt)(hb:SW X (.BoolOp .And (b::rs) pos) mu):SW X (.BoolOp .And (a::b::rs) pos) (zgw mt mu):=PW.imp (pw_and ha hb) <| by
 rintro M H Q ⟨U,st,io,v,st',E,S,e,k⟩;obtain⟨⟨x,s1⟩,e1,e⟩:=zae e;refine⟨U,st,io,x,s1,E,S,e1,fun H1 k1 X1 S1=>?_⟩
 cases x with
 | true=>rw[if_pos rfl];exact zjL E S X1 S1 e k
 | false =>
   rw[if_neg (by decide)];have e':some (false,s1)=some (v,st'):=e;cases e';exact k H1 k1 X1 S1
def zdY(ha:SB X a mt)(hb:SW X (.BoolOp .Or (b::rs) pos) mu):SW X (.BoolOp .Or (a::b::rs) pos) (mOrT mt mu):=PW.imp (pw_or ha hb) <| by
 rintro M H Q ⟨U,st,io,v,st',E,S,e,k⟩;obtain⟨⟨x,s1⟩,e1,e⟩:=zae e;refine⟨U,st,io,x,s1,E,S,e1,fun H1 k1 X1 S1=>?_⟩
 cases x with
 | false=>rw[if_neg (by decide)];exact zjL E S X1 S1 e k
 | true =>
   rw[if_pos rfl];have e':some (true,s1)=some (v,st'):=e;cases e';exact k H1 k1 X1 S1
def zem(m n:ME):ME:=fun U st=>(mTst m U st).bind fun (b,s)=>if b=true then n U s else some (.bl false,s)
def mOrV(m n:ME):ME:=fun U st=>(mTst m U st).bind fun (b,s)=>if b=true then some (.bl true,s) else n U s
def zq4(m:ME):ME:=fun U st=>(mTst m U st).map fun (b,s)=>(.bl !b,s)
def zlJ{n:ME}(E:EnvR K H io M U)(S:StR K H io st)(X1:Ext io ka H H1)(S1:StR K H1 (io++ka) s1)(e:n U s1=some (d,st'))(k:Bh K io H st' d Q):tE K n M H1 Q :=
 ⟨U,s1,io++ka,d,st',E.ext S X1,S1,e,k.on S1 X1⟩
def zc9(ha:SE X a ma):SE X (.BoolOp .And [a] pos) ma:=zqA ha
def zp9(ha:SE X a ma):SE X (.BoolOp .Or [a] pos) ma:=zqA ha
def zcI(ha:SE X a ma)(hb:SE X (.BoolOp .And (b::rs) pos) mb):SE X (.BoolOp .And (a::b::rs) pos) (zem ma mb):=PE.imp (zsJ ha hb) <| by
 rintro M H Q ⟨U,st,io,v,st',E,S,e,k⟩;obtain⟨⟨x,s1⟩,e1,e⟩:=zae e;refine⟨U,st,io,.bl x,s1,E,S,zjb e1,fun v1 H1 k1 X1 S1 R1=>⟨x,R1,?_⟩⟩
 cases x with
 | true=>rw[if_pos rfl];exact zlJ E S X1 S1 e k
 | false =>
   rw[if_neg (by decide)];have e':some (D.bl false,s1)=some (v,st'):=e;cases e';exact k _ H1 k1 X1 S1 rfl
def ztA(ha:SE X a ma)(hb:SE X (.BoolOp .Or (b::rs) pos) mb):SE X (.BoolOp .Or (a::b::rs) pos) (mOrV ma mb):=PE.imp (zt7 ha hb) <| by
 rintro M H Q ⟨U,st,io,v,st',E,S,e,k⟩;obtain⟨⟨x,s1⟩,e1,e⟩:=zae e;refine⟨U,st,io,.bl x,s1,E,S,zjb e1,fun v1 H1 k1 X1 S1 R1=>⟨x,R1,?_⟩⟩
 cases x with
 | false=>rw[if_neg (by decide)];exact zlJ E S X1 S1 e k
 | true =>
   rw[if_pos rfl];have e':some (D.bl true,s1)=some (v,st'):=e;cases e';exact k _ H1 k1 X1 S1 rfl
def zqa(ha:SE X a ma):SE X (.UnaryOp .Not a pos) (zq4 ma):=PE.imp (zsD ha) <| by
 rintro M H Q ⟨U,st,io,v,st',E,S,e,k⟩;unfold zq4 at e
 cases e1:mTst ma U st with
 | none=>rw[e1] at e;cases e
 | some p =>
   rw[e1] at e;cases e;exact⟨U,st,io,_,_,E,S,zjb e1,fun v1 H1 k1 X1 S1 R1=>⟨_,R1,k _ H1 k1 X1 S1 rfl⟩⟩
def mIte(c:MT)(m n:ME):ME:=fun U st=>(c U st).bind fun (b,s)=>if b=true then m U s else n U s
def zse(hc:SB X c mt)(ha:SE X a ma)(hb:SE X b mb):SE X (.IfExp c a b pos) (mIte mt ma mb):=PE.imp (zn4 hc ha hb) <| by
 rintro M H Q ⟨U,st,io,v,st',E,S,e,k⟩;obtain⟨⟨x,s1⟩,e1,e⟩:=zae e;refine⟨U,st,io,x,s1,E,S,e1,fun H1 k1 X1 S1=>?_⟩
 cases x with
 | true=>rw[if_pos rfl];exact zlJ E S X1 S1 e k
 | false=>rw[if_neg (by decide)];exact zlJ E S X1 S1 e k
end
end L2.MP
set_option linter.unusedVariables false
namespace L2.MP
open PySem PySem.Spec PyProof.Rows
variable {X:Cx}{e a b c i o tg iter:Expr}{es:List Expr}{st1 st2:Stmt}{rest body orelse:List Stmt}{pos pos':Pos}{m ma mb mc:ME}{mt mu:MT}{mm:MA}{ms mq mr:MS}{mg:MG}{mgs:MGs}{K:Ae}{H H1 H2:Hp}{io ka kb:List Addr}{st st' s1:Sto}{α:Type}{x:Str}{ds:List D}{vs:List V}{Q:VK}{p:Addr}{M:L2.St}{T:String}{k n:Nat}{f:Fl}{fd:FuncData}{U:Rho}{N:Ends}
def mNil:MA:=fun _ st=>some ([],st)
def zab(m:ME)(mm:MA):MA:=fun U st=>(m U st).bind fun (x,s1)=>(mm U s1).bind fun (xs,s2)=>some (x::xs,s2)
def zaf:SA X [] mNil:=PA.imp ziE <| by
 rintro M H Q ⟨U,st,io,ds,st',E,S,e,k⟩
 cases e;exact k [] H [] Ext.refl S.nil Reps.nil
def zaa(ha:SE X e m)(hr:SA X es mm)(hs:starEach (e::es) X.env=(false,eval e X.env)::starEach es X.env:=by rfl):SA X (e::es) (zab m mm):=PA.imp (zeZ ha hr hs) <| by rintro M H Q ⟨U,st,io,ds,st',E,S,e,k⟩;obtain⟨⟨x,s1⟩,e1,e⟩:=zae e;obtain⟨⟨xs,s2⟩,e2,e⟩:=zae e;cases e;refine⟨U,st,io,x,s1,E,S,e1,fun v1 H1 k1 X1 S1 R1=>⟨U,s1,io++k1,xs,_,E.ext S X1,S1,e2,fun vs H2 k2 X2 S2 R2=>?_⟩⟩;exact k _ H2 (k1++k2) (X1.trans S1 X2) (by rw[<-Av];exact S2) (by rw[<-Av];exact Reps.cons (R1.ext S1 X2) R2)
def fits(n:Nat):Bool:=decide (n<=sizeLine)
def mTup(mm:MA):ME:=fun U st=>(mm U st).bind fun (xs,s)=>if fits xs.length=true then some (.tup xs,s) else none
def mLst(mm:MA):ME:=fun U st=>(mm U st).bind fun (xs,s)=>if fits xs.length=true then some (.ref s.length,s++[.lst xs]) else none
def zau{c:Prop}[Decidable c]{x:Option α}{y:α}(h:(if c then x else none)=some y):c/\x=some y:=by
 by_cases hc:c
 . rw[if_pos hc] at h;exact⟨hc,h⟩
 rw[if_neg hc] at h;cases h
def Bh.tup{ds:List D}{vs:List V}{Q:VK}{p:Addr}(k:Bh K io H st (.tup ds) Q)(S:StR K H io st)(R:Reps K H io vs ds)(hp:H p=none):Q (.ref p) (upd H p<|.tup vs):=by obtain⟨E,S'⟩:=zfx (o:=.tup vs) S hp;refine k _ _ [] E S' ⟨p,vs,rfl,zbP,R.ext S E⟩
def getElem?_len(l:List α)(x:α):(l++[x])[l.length]?=some x:=by rw[Bb (Af _),Do];rfl
def Bh.lst{ds:List D}{vs:List V}{Q:VK}{p:Addr}(k:Bh K io H (st++[.lst ds]) (.ref st.length) Q)(S:StR K H io st)(R:Reps K H io vs ds)(hp:H p=none):Q (.ref p) (upd H p<|.lst vs):=by
 obtain⟨E,S'⟩:=zjY (o:=.lst vs) (ob:=.lst ds) S hp fun H' T e=>⟨vs,e,Reps.mono T R⟩
 exact k _ _ [p] E S' ⟨p,rfl,by rw[<-S.len];exact getElem?_len io p⟩
def zcc{x1}(h:SA X es mm):SE X (.Tuple es x1 pos) (mTup mm):=PE.imp (zsA h) <| by rintro M H Q ⟨U,st,io,d,st',E,S,e,k⟩;obtain⟨⟨xs,s1⟩,e1,e⟩:=zae e;obtain⟨hf,e⟩:=zau e;cases e;refine⟨U,st,io,xs,_,E,S,e1,fun vs H1 k1 X1 S1 R1=>⟨by rw[R1.length];exact of_decide_eq_true hf,fun p hp=>(k.on S1 X1).tup S1 R1 hp⟩⟩
def zcd(h:SA X es mm):SE X (.List es pos) (mLst mm):=PE.imp (zsF h) <| by rintro M H Q ⟨U,st,io,d,st',E,S,e,k⟩;obtain⟨⟨xs,s1⟩,e1,e⟩:=zae e;obtain⟨hf,e⟩:=zau e;cases e;refine⟨U,st,io,xs,_,E,S,e1,fun vs H1 k1 X1 S1 R1=>⟨by rw[R1.length];exact of_decide_eq_true hf,fun p hp=>(k.on S1 X1).lst S1 R1 hp⟩⟩
noncomputable abbrev GN:=List D->Sto->Option (D×Sto)
inductive rNM (K:Ae) (g:GN) (xs:List V) (H:Hp) (Q:VK):Prop
 | mk (ds:List D) (st:Sto) (io:List Addr) (d:D) (st':Sto) (h1:Reps K H io xs ds) (h2:StR K H io st) (h3:g ds st=some (d,st')) (h4:Bh K io H st' d Q)
def zed(X:Cx)(f:Value)(g:GN):Prop:=zgU X f<|rNM X.K g
def zal(g:GN)(mm:MA):ME:=fun U st=>(mm U st).bind fun (xs,s)=>g xs s
def zgH{g:GN}(h:tE K (zal g mm) M H Q):tCB (rNM K g) (tA K mm) M H Q:=by obtain⟨U,st,io,d,st',E,S,e,k⟩:=h;obtain⟨⟨xs,s1⟩,e1,e⟩:=zae e;exact⟨U,st,io,xs,s1,E,S,e1,fun vs H1 k1 X1 S1 R1=>⟨xs,s1,io++k1,d,st',R1,S1,e,k.on S1 X1⟩⟩
def znK{p:Pos}{id:String}{g:GN}(hc:zed X (.builtin id) g)(hg:Gl X x)(hm:X.mg x=none)(hv:bootBuiltins x=some (.builtin id))(ha:SA X (e::es) mm)(hn:x≠"__name__":=by decide)(hdb:(x==("__debug__":Str))=false:=by decide)
   (he:starEach (e::es) X.env=(false,eval e X.env)::starEach es X.env:=by rfl) (hpl:(backTo pos<|starEach es X.env).any (·.1)=false:=by rfl):SE X (.Call (.Name x p) (e::es) [] pos) (zal g mm) :=
 PE.imp (zfW hc hg hm hv ha hn hdb he hpl) fun _ _ _ h=>zgH h
def zlr{p:Pos}{g:GN}(hc:zed X (.type T) g)(hg:Gl X x)(hm:X.mg x=none)(hv:bootBuiltins x=some (.type T))(ha:SA X (e::es) mm)(hn:x≠"__name__":=by decide)(hdb:(x==("__debug__":Str))=false:=by decide)
   (he:starEach (e::es) X.env=(false,eval e X.env)::starEach es X.env:=by rfl) (hpl:(backTo pos<|starEach es X.env).any (·.1)=false:=by rfl):SE X (.Call (.Name x p) (e::es) [] pos) (zal g mm) :=
 PE.imp (zfV hc hg hm hv ha hn hdb he hpl) fun _ _ _ h=>zgH h
def spM(K:Ae)(n:Nat)(g:GN):Sp:=fun vs H Q _=>∃ ds st io d st',vs.length=n/\Reps K H io vs ds/\StR K H io st/\g ds st=some (d,st')/\Bh K io H st' d Q
def zqe{p:Pos}{f:Addr}{ps:List Str}{g:GN}(F:FnOk X.prog X.w X.K X.mg X.base CX0 k f fd ps (spM X.K n g))(hr:Room k X.A)(hg:Gl X x)(hm:X.mg x=some (.ref f))(hk:Cv X.K (.ref f)=true)(hb:Binds X.K fd ps [])
   (ha:SA X (e::es) mm) (hdb:(x==("__debug__":Str))=false:=by decide) (he:starEach (e::es) X.env=(false,eval e X.env)::starEach es X.env:=by rfl) (hpl:(backTo pos<|starEach es X.env).any (·.1)=false:=by rfl) (hn:(e::es).length=n:=by rfl)
   (hl:∀ U st xs s,mm U st=some (xs,s)->xs.length=n) :
   SE X (.Call (.Name x p) (e::es) [] pos) (zal g mm):=PE.imp (zqE F hr hg hm hk hb .nil zub ha hdb he hpl) <| by
 rintro M H Q ⟨U,st,io,d,st',E,S,e,k⟩;obtain⟨⟨xs,s1⟩,e1,e⟩:=zae e;refine⟨U,st,io,xs,s1,E,S,e1,fun vs H1 k1 X1 S1 R1=>⟨xs,s1,io++k1,d,st',?_,?_,S1,e,k.on S1 X1⟩⟩
 . rw[As,R1.length];exact hl _ _ _ _ e1
 rw[As];exact R1
def zol{xs:List D}{s:Sto}(h:mNil U st=some (xs,s)):xs.length=0:=by cases h;rfl
def zlP{U:Rho}{st:Sto}{xs:List D}{s:Sto}(hr:∀ U st xs s,mm U st=some (xs,s)->xs.length=n)(h:zab m mm U st=some (xs,s)):xs.length=n+1:=by obtain⟨⟨x,s1⟩,e1,e⟩:=zae h;obtain⟨⟨ys,s2⟩,e2,e⟩:=zae e;cases e;rw[AA,hr _ _ _ _ e2]
def Wn(K:Ae)(io:List Addr)(H:Hp)(st':Sto)(N:Ends):Fl->Prop
 | .nx U'=>∀ M' H' ka,Ext io ka H H'->StR K H' (io++ka) st'->EnvR K H' (io++ka) M' U'->N.nx M' H'
 | .bk U'=>∀ M' H' ka,Ext io ka H H'->StR K H' (io++ka) st'->EnvR K H' (io++ka) M' U'->N.bk M' H'
 | .ct U'=>∀ M' H' ka,Ext io ka H H'->StR K H' (io++ka) st'->EnvR K H' (io++ka) M' U'->N.ct M' H'
 | .rt d=>Bh K io H st' d N.rt
inductive tSi (K:Ae) (m:MS) (N:Ends) (M:L2.St) (H:Hp):Prop
 | mk (U:Rho) (st:Sto) (io:List Addr) (f:Fl) (st':Sto) (h1:EnvR K H io M U) (h2:StR K H io st) (h3:m U st=some (f,st')) (h4:Wn K io H st' N f)
def zd0:tS K ms N M H ↔ tSi K ms N M H:=by
 constructor
 . rintro ⟨U,st,io,f,st',E,S,e,k⟩;exact⟨U,st,io,f,st',E,S,e,by cases f <;> exact k⟩
 rintro ⟨U,st,io,f,st',E,S,e,k⟩;exact⟨U,st,io,f,st',E,S,e,by cases f <;> exact k⟩
def zgr{P:L2.St->Hp->Prop}{U':Rho}(h:∀ M' H' ka,Ext io ka H H'->StR K H' (io++ka) st'->EnvR K H' (io++ka) M' U'->P M' H')(X1:Ext io ka H H1)(S1:StR K H1 (io++ka) st) :
   ∀ M' H' kb,Ext (io++ka) kb H1 H'->StR K H' ((io++ka)++kb) st'->EnvR K H' ((io++ka)++kb) M' U'->P M' H':=fun M' H' kb E' S' R' =>
 h M' H' (ka++kb) (X1.trans S1 E') (by rw[<-Av];exact S') (by rw[<-Av];exact R')
def Wn.on{N:Ends}{f:Fl}(h:Wn K io H st' N f)(X1:Ext io ka H H1)(S1:StR K H1 (io++ka) st):Wn K (io++ka) H1 st' N f:=by
 cases f with
 | nx U'=>exact zgr h X1 S1
 | bk U'=>exact zgr h X1 S1
 | ct U'=>exact zgr h X1 S1
 | rt d=>exact Bh.on h S1 X1
def zph(E:EnvR K H io M U)(S:StR K H io st)(e:ms U st=some (f,st'))(w:Wn K io H st' N f):tS K ms N M H:=zd0.mpr ⟨U,st,io,f,st',E,S,e,w⟩
def zrV(X1:Ext io ka H H1)(S1:StR K H1 (io++ka) s1)(E:EnvR K H1 (io++ka) M U)(e:ms U s1=some (f,st'))(w:Wn K io H st' N f):tS K ms N M H1 :=
 zph E S1 e (w.on X1 S1)
def zcf:MS:=fun U st=>some (.nx U,st)
def zpH:SSs X [] zcf:=PSs.imp zqp fun N M H h=>by obtain⟨U,st,io,f,st',E,S,e,w⟩:=zd0.mp h;cases e;exact w M H [] Ext.refl S.nil (by rw[As];exact E)
def mSeq(m n:MS):MS:=fun U st=>(m U st).bind fun (f,s)=>match f with
 | .nx U1=>n U1 s
 | f=>some (f,s)
def znt(h1:SS X st1 ms)(h2:SSs X rest mq):SSs X (st1::rest) (mSeq ms mq):=PSs.imp (znY h1 h2) fun N M H h=>by
 obtain⟨U,st,io,f,st',E,S,e,w⟩:=zd0.mp h;obtain⟨⟨f1,s1⟩,e1,e⟩:=zae e;refine zph E S e1 ?_
 cases f1 with
 | nx U1=>exact fun M' H' ka X' S' R'=>zrV X' S' R' e w
 | bk U1=>cases e;exact w
 | ct U1=>cases e;exact w
 | rt d=>cases e;exact w
def zpG(h1:SS X st1 ms):SSs X [st1] ms:=zqo h1
def mExp(m:ME):MS:=fun U st=>(m U st).map fun (_,s)=>(.nx U,s)
def mRet(m:ME):MS:=fun U st=>(m U st).map fun (d,s)=>(.rt d,s)
def zaj{β:Type}{x:Option α}{f:α->β}{y:β}(h:x.map f=some y):∃ z,x=some z/\f z=y:=by
 cases x with
 | none=>cases h
 | some z=>exact⟨z,rfl,Ax h⟩
def zhP(he:SE X e m)(hs:swapsWith e none pos.line X.env=pure false:=by rfl):SS X (.Expr e pos) (mExp m):=PS.imp (zqq he hs) fun N M H h=>by obtain⟨U,st,io,f,st',E,S,e,w⟩:=zd0.mp h;obtain⟨⟨d,s1⟩,e1,e⟩:=zaj e;cases e;exact⟨U,st,io,d,_,E,S,e1,fun v H' ka X' S' R'=>w M H' ka X' S' (E.ext S X')⟩
def zaQ(he:SE X e m):SS X (.Return (some e) pos) (mRet m):=PS.imp (zsq he) fun N M H h=>by obtain⟨U,st,io,f,st',E,S,e,w⟩:=zd0.mp h;obtain⟨⟨d,s1⟩,e1,e⟩:=zaj e;cases e;exact⟨U,st,io,d,_,E,S,e1,w⟩
def mIf(c:MT)(m n:MS):MS:=fun U st=>(c U st).bind fun (b,s)=>if b=true then m U s else n U s
def ztX(hc:SB X c mt)(h1:SSs X body ms)(h2:SSs X orelse mq):SS X (.If c body orelse pos) (mIf mt ms mq):=PS.imp (zt4 hc h1 h2) fun N M H h=>by
 obtain⟨U,st,io,f,st',E,S,e,w⟩:=zd0.mp h;obtain⟨⟨x,s1⟩,e1,e⟩:=zae e;refine⟨U,st,io,x,s1,E,S,e1,fun H1 k1 X1 S1=>?_⟩
 cases x with
 | true=>rw[if_pos rfl];exact zrV X1 S1 (E.ext S X1) e w
 | false=>rw[if_neg (by decide)];exact zrV X1 S1 (E.ext S X1) e w
def gNm(i:Nat):MG:=fun d U st=>some (U.set i (some d),st)
def zpS{i:Nat}(hN:X.N.Nodup)(hi:X.N[i]?=some x)(hx:Loc X.env.scope x)(hf:X.fn x=true\/X.env.scope.names.lookup x=some .local:=by first | exact .inl rfl | exact .inr rfl | assumption):SG X (.Name x pos) (gNm i) :=
 PG.imp (zqw hN hi hx hf) <| by rintro v M H Q ⟨d,U,st,io,U',st',R,E,S,e,k⟩;cases e;exact k _ H [] Ext.refl S.nil (by rw[As];exact E.set i R)
def gN0:MGs:=fun ds U st=>match ds with
 | []=>some (U,st)
 | _=>none
def gC(g:MG)(h:MGs):MGs:=fun ds U st=>match ds with
 | d::r=>(g d U st).bind fun (U1,s1)=>h r U1 s1
 | []=>none
def zjt:SGs X [] gN0:=PGs.imp zqv <| by
 rintro v M H Q ⟨ds,U,st,io,U',st',R,E,S,e,k⟩
 cases ds with
 | nil=>cases e;exact⟨R,k M H [] Ext.refl S.nil (by rw[As];exact E)⟩
 | cons d r=>cases e
def zdC(h1:SG X e mg)(h2:SGs X es mgs)(hs:(assignEach (e::es) X.env).map (·.2)=assign e X.env::(assignEach es X.env).map (·.2):=by rfl):SGs X (e::es) (gC mg mgs) :=
 PGs.imp (zn3 h1 h2 hs) <| by
   rintro v M H Q ⟨ds,U,st,io,U',st',R,E,S,e,k⟩
   cases ds with
   | nil=>cases e
   | cons d r =>
     obtain⟨y,ys,rfl,r1,rs⟩:=R;obtain⟨⟨U1,s1⟩,e1,e⟩:=zae e;refine⟨y,ys,rfl,d,U,st,io,U1,s1,r1,E,S,e1,fun M1 H1 k1 X1 S1 E1=>?_⟩;exact⟨r,U1,s1,io++k1,U',st',rs.ext S X1,E1,S1,e,zgr k X1 S1⟩
def gTp(n:Nat)(h:MGs):MG:=fun d U st=>match d with
 | .tup ds=>if ds.length=n then h ds U st else none
 | _=>none
def znH(hc:X.calm=true)(h:SGs X es mgs)(hn:(assignEach es X.env).length=n:=by rfl)(hst:(assignEach es X.env).findIdx? (·.1)=none:=by rfl):SG X (.Tuple es k pos) (gTp n mgs) :=
 PG.imp (zsy hc h hn hst) <| by
   rintro v M H Q ⟨d,U,st,io,U',st',R,E,S,e,k⟩
   cases d with
   | tup ds =>
     obtain⟨a,xs,rfl,hq,rs⟩:=R;obtain⟨hl,e⟩:=zau e;exact⟨a,xs,rfl,SqT.of hq,by rw[rs.length];exact hl,ds,U,st,io,U',st',rs,E,S,e,k⟩
   | _=>cases e
noncomputable abbrev G3:=D->D->D->Sto->Option Sto
inductive tSetM (K:Ae) (g:G3) (o i v:V) (H:Hp) (Q:Hp->Prop):Prop
 | mk (d1 d2 d3:D) (st:Sto) (io:List Addr) (st':Sto) (h0:Rep K H io o d1) (h1:Rep K H io i d2) (h2:Rep K H io v d3) (h3:StR K H io st) (h4:g d1 d2 d3 st=some st') (h5:∀ H' ka,Ext io ka H H'->StR K H' (io++ka) st'->Q H')
def SetM(X:Cx)(g:G3):Prop:=PSet X<|tSetM X.K g
def gSb(g:G3)(mo mi:ME):MG:=fun d U st=>(mo U st).bind fun (o,s1)=>(mi U s1).bind fun (i,s2)=>(g o i d s2).map fun s3=>(U,s3)
def zsc{mo mi:ME}{g:G3}(ho:SE X o mo)(hi:SE X i mi)(hs:SetM X g)
   (ha:∀ v,assign (.Subscript o i pos) X.env v=(do
     let ov <-holding [v] (eval o X.env)
     let iv <-holding [v,ov] (eval i X.env)
     standAt pos
     holding [v,ov,iv] (setItem ov iv v)
     release [v,ov,iv] []):=by intro _;rfl):SG X (.Subscript o i pos) (gSb g mo mi) :=
 PG.imp (zsz ho hi hs ha) <| by rintro v M H Q ⟨d,U,st,io,U',st',R,E,S,e,k⟩;obtain⟨⟨x,s1⟩,e1,e⟩:=zae e;obtain⟨⟨y,s2⟩,e2,e⟩:=zae e;obtain⟨s3,e3,e⟩:=zaj e;cases e;refine⟨U,st,io,x,s1,E,S,e1,fun v1 H1 k1 X1 S1 R1=>⟨U,s1,io++k1,y,s2,E.ext S X1,S1,e2,fun v2 H2 k2 X2 S2 R2=>?_⟩⟩;have X12:=X1.trans S1 X2;refine⟨x,y,d,s2,(io++k1)++k2,_,R1.ext S1 X2,R2,(R.ext S X1).ext S1 X2,S2,e3,fun H3 k3 X3 S3=>?_⟩;rw[Av] at X3 S2;rw[Av,Av] at S3;refine k M H3 ((k1++k2)++k3) (X12.trans S2 X3) (by simpa using S3) ?_;have E2:EnvR X.K H2 (io++(k1++k2)) M U:=E.ext S X12;have:=E2.ext S2 X3;simpa using this
def mAsg(m:ME)(g:MG):MS:=fun U st=>(m U st).bind fun (d,s1)=>(g d U s1).map fun (U',s2)=>(.nx U',s2)
def zml(h:tS K (mAsg m mg) N M H):tAsg (tE K m) (tG K mg) N M H:=by obtain⟨U,st,io,f,st',E,S,e,w⟩:=zd0.mp h;obtain⟨⟨x,s1⟩,e1,e⟩:=zae e;obtain⟨⟨U',s2⟩,e2,e⟩:=zaj e;cases e;exact⟨U,st,io,x,s1,E,S,e1,fun v1 H1 k1 X1 S1 R1=>⟨x,U,s1,io++k1,U',_,R1,E.ext S X1,S1,e2,zgr w X1 S1⟩⟩
def zr2(he:SE X e m)(hg:SG X tg mg)(hs:swapsWithSole [tg] e pos.line X.env=pure false:=by rfl)(hw:swappedStores [tg] e X.env=pure none:=by rfl)
   (h1:(assignEach [tg] X.env).map (·.2)=[assign tg X.env]:=by rfl):SS X (.Assign [tg] e pos) (mAsg m mg):=PS.imp (zst he hg hs hw h1) fun _ _ _ h=>zml h
def zpI{i:Nat}(hN:X.N.Nodup)(hi:X.N[i]?=some x)(hx:Loc X.env.scope x)(he:SE X e m)(hs:swapsWith e (some<|.Name x pos') pos.line X.env=pure false:=by rfl)(hf:X.fn x=true\/X.env.scope.names.lookup x=some .local:=by first | exact .inl rfl | exact .inr rfl | assumption) :
   SS X (.Assign [.Name x pos'] e pos) (mAsg m<|gNm i):=PS.imp (zsp hN hi hx he hs hf) fun N M H h=>by
 obtain⟨U,st,io,f,st',E,S,e,w⟩:=zd0.mp h;obtain⟨⟨x,s1⟩,e1,e⟩:=zae e;obtain⟨⟨U',s2⟩,e2,e⟩:=zaj e;cases e;cases e2;exact⟨U,st,io,x,_,E,S,e1,fun v1 H1 k1 X1 S1 R1=>w _ H1 k1 X1 S1 ((E.ext S X1).set i R1)⟩
structure Wk where
 ds:List D
 g:List (Nat×List D)
def stays(W:Wk)(st:Sto):Prop:=∀ p,p∈W.g->st[p.1]?=some (.lst p.2)\/st[p.1]?=some (.fz p.2)
structure ItOk(K:Ae)(H0:Hp)(io:List Addr)(W:Wk)(J:It):Prop where
 go:∀ i d H ka st,W.ds[i]?=some d->Ext io ka H0 H->StR K H (io++ka) st->stays W st->J.go i H/\∀ x H',J.yld i H x H'->Ext (io++ka) [] H H'/\StR K H' (io++ka) st/\Rep K H' (io++ka) x d
 stop:∀ H ka st,Ext io ka H0 H->StR K H (io++ka) st->stays W st->J.stop W.ds.length H
 stop':∀ H ka st i,W.ds.length<=i->Ext io ka H0 H->StR K H (io++ka) st->stays W st->J.stop i H
noncomputable abbrev MI:=Rho->Sto->Option (Wk×Sto)
inductive tI (K:Ae) (m:MI) (M:L2.St) (H:Hp) (R:It->Hp->Prop):Prop
 | mk (U:Rho) (st:Sto) (io:List Addr) (W:Wk) (st':Sto) (h1:EnvR K H io M U) (h2:StR K H io st) (h3:m U st=some (W,st')) (h4:∀ J H' ka,Ext io ka H H'->StR K H' (io++ka) st'->ItOk K H' (io++ka) W J->R J H')
def SI(X:Cx)(tg iter:Expr)(m:MI):Prop:=PI X tg iter<|tI X.K m
def PI.imp{t u:TI}(h:PI X tg iter t)(k:∀ M H R,u M H R->t M H R):PI X tg iter u:=fun pins s M H R I q=>h pins s M H R I<|k M H R q
mutual
def D.eqb:D->D->Bool
 | .non,.non=>true
 | .bl a,.bl b=>a==b
 | .int a,.int b=>decide (a=b)
 | .str a,.str b=>decide (a=b)
 | .tup a,.tup b=>D.eqbs a b
 | .ref a,.ref b=>decide (a=b)
 | .kl a,.kl b=>D.eqbs a b
 | .fn a,.fn b=>decide (a=b)
 | _,_=>false
def D.eqbs:List D->List D->Bool
 | [],[]=>true
 | a::as,b::bs=>D.eqb a b&&D.eqbs as bs
 | _,_=>false
end
mutual
def D.eqb_refl:∀ a:D,D.eqb a a=true
 | .non=>rfl
 | .bl a=>by simp[D.eqb]
 | .int a=>by simp[D.eqb]
 | .str a=>by simp[D.eqb]
 | .tup a=>by rw[D.eqb];exact D.eqbs_refl a
 | .ref a=>by simp[D.eqb]
 | .kl a=>by rw[D.eqb];exact D.eqbs_refl a
 | .fn a=>by simp[D.eqb]
def D.eqbs_refl:∀ a:List D,D.eqbs a a=true
 | []=>rfl
 | a::as=>by rw[D.eqbs,D.eqb_refl a,D.eqbs_refl as];rfl
end
mutual
def D.eq_of:∀ {a b:D},D.eqb a b=true->a=b
 | .non,b,h=>by cases b <;> simp[D.eqb] at h ⊢
 | .bl a,b,h=>by cases b <;> simp[D.eqb] at h ⊢;exact h
 | .int a,b,h=>by cases b <;> simp[D.eqb] at h ⊢;exact h
 | .str a,b,h=>by cases b <;> simp[D.eqb] at h ⊢;exact h
 | .tup a,.tup b,h=>by rw[D.eqb] at h;rw[D.eqs_of h]
 | .tup a,.non,h=>by simp[D.eqb] at h
 | .tup a,.bl _,h=>by simp[D.eqb] at h
 | .tup a,.int _,h=>by simp[D.eqb] at h
 | .tup a,.str _,h=>by simp[D.eqb] at h
 | .tup a,.ref _,h=>by simp[D.eqb] at h
 | .tup a,.kl _,h=>by simp[D.eqb] at h
 | .tup a,.fn _,h=>by simp[D.eqb] at h
 | .kl a,.kl b,h=>by rw[D.eqb] at h;rw[D.eqs_of h]
 | .kl a,.non,h=>by simp[D.eqb] at h
 | .kl a,.bl _,h=>by simp[D.eqb] at h
 | .kl a,.int _,h=>by simp[D.eqb] at h
 | .kl a,.str _,h=>by simp[D.eqb] at h
 | .kl a,.ref _,h=>by simp[D.eqb] at h
 | .kl a,.tup _,h=>by simp[D.eqb] at h
 | .kl a,.fn _,h=>by simp[D.eqb] at h
 | .fn a,b,h=>by cases b <;> simp[D.eqb] at h ⊢;exact h
 | .ref a,b,h=>by cases b <;> simp[D.eqb] at h ⊢;exact h
def D.eqs_of:∀ {a b:List D},D.eqbs a b=true->a=b
 | [],[],_=>rfl
 | [],_::_,h=>by simp[D.eqbs] at h
 | _::_,[],h=>by simp[D.eqbs] at h
 | a::as,b::bs,h=>by rw[D.eqbs,An] at h;rw[D.eq_of h.1,D.eqs_of h.2]
end
noncomputable instance:DecidableEq D:=fun a b=>if h:D.eqb a b=true then .isTrue (D.eq_of h) else .isFalse fun e=>h (by rw[e];exact D.eqb_refl b)
def zkw(st:Sto)(n:Nat)(ds:List D):Bool:=match st[n]? with
 | some (.lst xs)=>D.eqbs xs ds
 | some (.fz xs)=>D.eqbs xs ds
 | _=>false
def zl2(h:zkw st n ds=true):st[n]?=some (.lst ds)\/st[n]?=some (.fz ds):=by
 unfold zkw at h
 split at h
 . rename_i xs e;rw[D.eqs_of h] at e;exact .inl e
 . rename_i xs e;rw[D.eqs_of h] at e;exact .inr e
 . cases h
def zkv(h:st[n]?=some (.lst ds)):zkw st n ds=true:=by unfold zkw;rw[h];exact D.eqbs_refl ds
variable {mi:MI}{W:Wk}
def walked(W:Wk)(st:Sto):Bool:=W.g.all fun p=>zkw st p.1 p.2
def zdO(h:walked W st=true):stays W st:=fun p hp=>zl2<|List.all_eq_true.mp h p hp
def zel(W:Wk)(g:MG)(m:MS):List D->Rho->Sto->Option (Fl×Sto)
 | [],U,st=>if walked W st=true then some (.nx U,st) else none
 | d::ds,U,st=>if walked W st=true then (g d U st).bind fun (U1,s1)=>(m U1 s1).bind fun (f,s2)=>match f with
   | .nx U2=>zel W g m ds U2 s2
   | .ct U2=>zel W g m ds U2 s2
   | .bk U2=>some (.nx U2,s2)
   | .rt d=>some (.rt d,s2) else none
def mFor(mi:MI)(g:MG)(m:MS):MS:=fun U st=>(mi U st).bind fun (W,s)=>zel W g m W.ds U s
def zr1(hp:PassesOwn (model X.prog X.w) X.A X.env X.xe)(hc:X.calm=true)(hi:SI X tg iter mi)(hg:SG X tg mg)(hb:SSs X body ms)
   (hs:∀ x,foldedSetIterable iter X.env x=pure x:=by intro _;rfl):SS X (.For tg iter body [] pos) (mFor mi mg ms):=PS.imp (zss hp hc hi hg hb hs) fun N M H h=>by
 obtain⟨U,st,io,f,st',E,S,e,w⟩:=zd0.mp h;obtain⟨⟨W,s1⟩,e1,e⟩:=zae e;refine⟨U,st,io,W,s1,E,S,e1,fun J H1 k1 X1 S1 IO=>?_⟩;refine⟨fun i n M2 H2=>n=W.ds.length - i/\∃ U2 s2 k2,Ext (io++k1) k2 H1 H2/\StR X.K H2 ((io++k1)++k2) s2/\EnvR X.K H2 ((io++k1)++k2) M2 U2/\zel W mg ms (W.ds.drop i) U2 s2=some (f,st'),
   ⟨_,rfl,U,s1,[],Ext.refl,by rw[As];exact S1,by rw[As];exact E.ext S X1,by rw[FP];exact e⟩,?_⟩
 rintro i n M2 H2 ⟨rfl,U2,s2,k2,X2,S2,E2,e2⟩;have w2:Wn X.K ((io++k1)++k2) H2 st' N f:=(w.on X1 S1).on X2 S2
 cases hd:W.ds[i]? with
 | none =>
   have hl:W.ds.length<=i:=List.getElem?_eq_none_iff.mp hd;rw[FE hl] at e2;obtain⟨hw,e2⟩:=zau e2;cases e2;refine .inl ⟨?_,w2 M2 H2 [] Ext.refl S2.nil (by rw[As];exact E2)⟩
   -- the end may lie behind
   by_cases hi:i=W.ds.length
   . rw[hi];exact IO.stop H2 k2 _ X2 S2 (zdO hw)
   exact IO.stop' H2 k2 _ i hl X2 S2 (zdO hw)
 | some d =>
   have hl:i < W.ds.length:=(List.getElem?_eq_some_iff.mp hd).1;have hdr:W.ds.drop i=d::W.ds.drop (i+1):=by rw[EL hl,(List.getElem?_eq_some_iff.mp hd).2]
   rw[hdr] at e2;obtain⟨hw,e2⟩:=zau e2;obtain⟨⟨U3,s3⟩,e3,e2⟩:=zae e2;obtain⟨⟨f4,s4⟩,e4,e2⟩:=zae e2;obtain⟨go,yl⟩:=IO.go i d H2 k2 s2 hd X2 S2 (zdO hw);refine .inr ⟨go,fun M5 H5=>∃ U5 s5 k5,Ext (io++k1) k5 H1 H5/\StR X.K H5 ((io++k1)++k5) s5/\EnvR X.K H5 ((io++k1)++k5) M5 U5/\zel W mg ms (W.ds.drop (i+1)) U5 s5=some (f,st'),
     fun M5 H5 h5=>⟨W.ds.length - (i+1),by omega,rfl,h5⟩,fun x H' y=>?_⟩
   obtain⟨X3,S3,R3⟩:=yl x H' y;have X23:Ext (io++k1) k2 H1 H':=(X2.trans S2 X3).app;refine⟨d,U2,s2,(io++k1)++k2,U3,s3,R3,?_,S3,e3,fun M6 H6 k6 X6 S6 E6=>?_⟩
   . have:=E2.ext S2 X3;rw[As] at this;exact this
   . refine zph E6 S6 e4 ?_;have X26:=X23.trans S3 X6;have S6':StR X.K H6 ((io++k1)++(k2++k6)) s3:=by rw[<-Av];exact S6
     have fin:∀ {U7:Rho},zel W mg ms (W.ds.drop (i+1)) U7 s4=some (f,st')->∀ M7 H7 k7,Ext ((io++k1)++k2++k6) k7 H6 H7->StR X.K H7 ((io++k1)++k2++k6++k7) s4->EnvR X.K H7 ((io++k1)++k2++k6++k7) M7 U7 ->
         ∃ U5 s5 k5,Ext (io++k1) k5 H1 H7/\StR X.K H7 ((io++k1)++k5) s5/\EnvR X.K H7 ((io++k1)++k5) M7 U5/\zel W mg ms (W.ds.drop (i+1)) U5 s5=some (f,st'):=by
       intro U7 e7 M7 H7 k7 X7 S7 E7;rw[Av (io++k1)] at X7;rw[Av (io++k1),Av (io++k1)] at S7 E7;exact⟨U7,s4,(k2++k6)++k7,X26.trans S6' X7,S7,E7,e7⟩
     cases f4 with
     | nx U7=>exact fin e2
     | ct U7=>exact fin e2
     | bk U7 =>
       cases e2;exact ((w.on X1 S1).on X23 S3).on X6 S6
     | rt dd =>
       cases e2;exact ((w.on X1 S1).on X23 S3).on X6 S6
variable {xs:List V}{l:Expr}{d:D}
def zhs{x:D}{xs:List D}{s s2:Sto}(h1:m U s=some (x,s1))(h2:mm U s1=some (xs,s2)):zab m mm U s=some (x::xs,s2):=by unfold zab;rw[h1];show HS (mm U s1) _=_;rw[h2];rfl
def zbY(st:Sto)(n:Nat):Option (List D):=match st[n]? with
 | some (.lst ds)=>some ds
 | some (.fz ds)=>some ds
 | _=>none
def zbq(S:StR K H io st)(hn:io[n]?=some p)(h:zbY st n=some ds):∃ xs,SqL K H p xs/\Reps K H io xs ds:=by
 unfold zbY at h
 split at h
 . rename_i o he;cases h;obtain⟨xs,e,r⟩:=S.ob n p _ hn he;exact⟨xs,SqL.of e,r⟩
 . rename_i o he;cases h;obtain⟨ob,xs,e,r⟩:=S.ob n p _ hn he;exact⟨xs,.inl<|.inr ⟨ob,e⟩,r⟩
 . cases h
def zd4(hm:(n,ds)∈W.g)(h:stays W st):zbY st n=some ds:=by
 unfold zbY
 rcases h _ hm with h | h
 . have h:st[n]?=some (.lst ds):=h;rw[h]
 have h:st[n]?=some (.fz ds):=h;rw[h]
def mWL(m:ME):MI:=fun U st=>(m U st).bind fun (d,s)=>match d with
 | .ref n=>(zbY s n).map fun ds=>(⟨ds,[(n,ds)]⟩,s)
 | _=>none
def mWT(m:ME):MI:=fun U st=>(m U st).bind fun (d,s)=>match d with
 | .tup ds=>some (⟨ds,[]⟩,s)
 | _=>none
def zcG(h:io[n]?=some p):(io++ka)[n]?=some p:=by rw[Az (List.getElem?_eq_some_iff.mp h).1];exact h
def ztc(hn:io[n]?=some p):ItOk K H io ⟨ds,[(n,ds)]⟩ (Itl K p) where
 go:=fun i d H1 k1 s hd X1 S1 hs=>by obtain⟨xs,hx,r⟩:=zbq S1 (zcG hn)<|zd4 Aj hs;obtain⟨v,hv,rv⟩:=r.get hd;refine⟨⟨xs,v,hx,hv⟩,fun x H' y=>?_⟩;obtain⟨rfl,y⟩:=y;have e:=y xs hx;rw[hv] at e;cases e;exact⟨Ext.refl,S1,rv⟩
 stop:=fun H1 k1 s X1 S1 hs=>by obtain⟨xs,hx,r⟩:=zbq S1 (zcG hn)<|zd4 Aj hs;exact⟨xs,hx,by rw[r.length];exact Af _⟩
 stop':=fun H1 k1 s i hi X1 S1 hs=>by obtain⟨xs,hx,r⟩:=zbq S1 (zcG hn)<|zd4 Aj hs;exact⟨xs,hx,by rw[r.length];exact hi⟩
def zpR(hl:SE X l m):SI X tg l (mWL m):=PI.imp (zqu hl) <| by
 rintro M H R ⟨U,st,io,W,st',E,S,e,k⟩;obtain⟨⟨d,s1⟩,e1,e⟩:=zae e;dsimp only at e
 split at e
 . rename_i n;obtain⟨ds,e2,e⟩:=zaj e;cases e;refine⟨U,st,io,_,_,E,S,e1,fun v H1 k1 X1 S1 R1=>?_⟩;obtain⟨p,rfl,hn⟩:=R1;obtain⟨xs,hx,r⟩:=zbq S1 hn e2;exact⟨p,rfl,⟨xs,hx⟩,k _ H1 k1 X1 S1<|ztc hn⟩
 . cases e
def zta(S:StR K H io st)(hp:H p=some (.tup xs))(r:Reps K H io xs ds):ItOk K H io ⟨ds,[]⟩ (Itt K p) where
 go:=fun i d H1 k1 s hd X1 S1 hs=>by obtain⟨v,hv,rv⟩:=(r.ext S X1).get hd;have hx:SqT K H1 p xs:=SqT.of<|X1.sqT S p xs hp;refine⟨⟨xs,v,hx,hv⟩,fun x H' y=>?_⟩;obtain⟨rfl,y⟩:=y;have e:=y xs hx;rw[hv] at e;cases e;exact⟨Ext.refl,S1,rv⟩
 stop:=fun H1 k1 s X1 S1 hs=>⟨xs,SqT.of<|X1.sqT S p xs hp,by rw[r.length];exact Af _⟩
 stop':=fun H1 k1 s i hi X1 S1 hs=>⟨xs,SqT.of<|X1.sqT S p xs hp,by rw[r.length];exact hi⟩
def zsa(hl:SE X l m):SI X tg l (mWT m):=PI.imp (zsw hl) <| by
 rintro M H R ⟨U,st,io,W,st',E,S,e,k⟩;obtain⟨⟨d,s1⟩,e1,e⟩:=zae e;dsimp only at e
 split at e
 . rename_i ds;cases e;refine⟨U,st,io,_,_,E,S,e1,fun v H1 k1 X1 S1 R1=>?_⟩;obtain⟨p,xs,rfl,hp,r⟩:=R1;exact⟨p,rfl,⟨xs,SqT.of hp⟩,k _ H1 k1 X1 S1<|zta S1 hp r⟩
 . cases e
def run(lo:Int)(n:Nat):List D:=(AV n).map fun (k:Nat)=>D.int<|lo+(k:Int)
def zdg(lo:Int)(n:Nat):(run lo n).length=n:=by unfold run;rw[Ai,CT]
def run_get{lo:Int}{i:Nat}(h:(run lo n)[i]?=some d):i < n/\d=.int (lo+(i:Int)):=by
 have hi:i < n:=by
   have q:=(List.getElem?_eq_some_iff.mp h).1
   rwa [zdg] at q
 unfold run at h;rw[AB,Dc hi] at h;exact⟨hi,(Ax h).symm⟩
def ztb(lo:Int)(n:Nat):ItOk K H io ⟨run lo n,[]⟩ (Itr lo n) where
 go:=fun i d H1 k1 s hd X1 S1 hs=>by obtain⟨hi,rfl⟩:=run_get hd;refine⟨hi,fun x H' y=>?_⟩;obtain⟨rfl,rfl⟩:=y;exact⟨Ext.refl,S1,rfl⟩
 stop:=fun H1 k1 s X1 S1 hs=>by show n<=_;rw[zdg];exact Af _
 stop':=fun H1 k1 s i hi X1 S1 hs=>by
   show n<=i;have hi:(run lo n).length<=i:=hi
   rwa [zdg] at hi
def small(j:Int):Bool:=decide (-(2 ^ 62)<=j)&&decide (j < 2 ^ 62)
def zjm{j:Int}(h:small j=true):-(2 ^ 62)<=j/\j < 2 ^ 62:=by unfold small at h;rw[An] at h;exact⟨of_decide_eq_true h.1,of_decide_eq_true h.2⟩
def mR1(m:ME):MI:=fun U st=>(m U st).bind fun (d,s)=>match d with
 | .int j=>if small j=true then some (⟨run 0 j.toNat,[]⟩,s) else none
 | _=>none
def zcK{p:Pos}(hg:Gl X "range")(hm:X.mg "range"=none)(ha:SE X a m)(hs:starEach [a] X.env=[(false,eval a X.env)]:=by rfl):SI X tg (.Call (.Name "range" p) [a] [] pos) (mR1 m) :=
 PI.imp (zlE hg hm (zaa ha zaf hs) hs) <| by
   rintro M H R ⟨U,st,io,W,st',E,S,e,k⟩;obtain⟨⟨d,s1⟩,e1,e⟩:=zae e;dsimp only at e
   split at e
   . rename_i j;obtain⟨hj,e⟩:=zau e;cases e;refine⟨U,st,io,[.int j],_,E,S,(zhs e1 rfl),fun vs H1 k1 X1 S1 R1=>?_⟩;obtain⟨v,rfl,rfl⟩:=R1.one;exact⟨j,rfl,(zjm hj).1,(zjm hj).2,k _ H1 k1 X1 S1<|ztb 0 _⟩
   . cases e
def rho(n:Nat)(ds:List D):Rho:=ds.map some++Cw (n - ds.length) none
def fnM(n:Nat)(m:MS):GN:=fun ds st=>(m (rho n ds) st).bind fun (f,s)=>match f with
 | .rt d=>some (d,s)
 | .nx _=>some (.non,s)
 | _=>none
def zl5{N:List Str}(R:Reps K H io vs ds):EnvR K H io (start N vs) (rho N.length ds):=by
 have hl:=R.length;refine⟨by unfold start rho;simp[hl],fun i d h=>?_⟩;unfold rho at h;unfold start
 by_cases hi:i < ds.length
 . rw[Az (by simpa using hi),AB] at h
   cases e:ds[i]? with
   | none=>rw[e] at h;cases h
   | some d' =>
     rw[e] at h
     cases (Ax<|Ax h)
     obtain⟨v,hv,r⟩:=R.get e;exact⟨v,by rw[Az (by simpa[hl] using hi),AB,hv];rfl,r⟩
 . rw[Bb (by simpa using hi),CG] at h
   split at h <;> cases h
variable {w:World}
section
variable {P:Program} {mg:Str->Option Value} {base:Heap}
def fn_m{qual:Str}{st:Stmt}{f:Addr}{N ps:List Str}{m:MS}(F:Fun K x qual st f fd)(S:FnScope N ps (zaO st))
   (hbody:∀ (cdv:Value) (A:Around) (outer:List Env) (s:Shared) (H:Hp) (E:XK),Room k (A.deeper<|envOfC qual (zaO st) s.heap.objs.size f cdv) ->
     SSs (cxOf CX0 P w K mg base N qual (zaO st) f cdv A outer s H E).nox (zcF st) m):FnOk P w K mg base CX0 (k+1) f fd ps (spM K ps.length<|fnM N.length m):=by
 refine F.ok S (fun vs H Q E ⟨_,_,_,_,_,h,_⟩=>h) fun cdv A outer s H vs Q E hr h=>?_;obtain⟨ds,st0,io,d,st',hl,R,SR,e,k'⟩:=h;refine⟨_,hbody cdv A outer s H E hr,?_⟩;obtain⟨⟨fl,s1⟩,e1,e⟩:=zae e;refine zph (zl5 R) SR e1 ?_
 cases fl with
 | rt dd=>cases e;exact k'
 | nx U=>cases e;exact fun M' H' ka X' S' E'=>k' .non H' ka X' S' rfl
 | bk U=>cases e
 | ct U=>cases e
end
def clOf(cells:List (Str×Addr)):List (Str×NameKind)->List (Str×Addr)->List (Str×Addr)
 | [],acc=>acc
 | (n,k)::r,acc=>if k==.free then clOf cells r ((n,(cells.lookup n).getD 0)::acc) else clOf cells r acc
variable {env:Env}
def ze9{env:Env}(f:Str×NameKind->List (Str×Addr)->Sem (ForInStep<|List<|Str×Addr))
   (hf:∀ n k acc,f (n,k) acc=if k==.free then (do let c <-cellOf env n;pure (.yield ((n,c)::acc))) else pure (.yield acc)) :
   ∀ (names:List (Str×NameKind)) (acc:List (Str×Addr)),(∀ n,(n,AN)∈names->∃ c,env.cells.lookup n=some c)->(forIn names acc f:Sem (List<|Str×Addr))=pure (clOf env.cells names acc)
 | [],acc,_=>by rw[Dv];rfl
 | (n,k)::r,acc,h=>by
   rw[Fq,hf];unfold clOf
   cases hk:k==AN with
   | false =>
     rw[if_neg (by simp),if_neg (by simp)];have:=ze9 f hf r acc fun m hm=>h m<|Ah _ hm;rw[<-this];rfl
   | true =>
     rw[if_pos rfl,if_pos rfl];have hk':k=AN:=by simpa using hk
     obtain⟨c,hc⟩:=h n (by rw[hk'];exact Aj);have:=ze9 f hf r ((n,c)::acc) fun m hm=>h m<|Ah _ hm;rw[hc,EV,<-this];unfold cellOf;rw[hc];rfl
variable {scope:Scope}
def zkI(h:∀ n,(n,AN)∈scope.names->∃ c,env.cells.lookup n=some c):closureFor scope env=pure (clOf env.cells scope.names []):=by unfold closureFor;have:=ze9 (env:=env) (fun x acc=>(match x with | (n,k)=>if k==.free then (do let c <-cellOf env n;pure (.yield ((n,c)::acc))) else pure (.yield acc))) (fun _ _ _=>rfl) scope.names [] h;refine Eq.trans ?_ this;simp only[bind_pure]
variable {cells:List (Str×Addr)}
def zhz{cells:List (Str×Addr)}:∀ {names:List (Str×NameKind)} {acc:List (Str×Addr)} {p:Str×Addr},p∈clOf cells names acc->p∈acc\/((p.1,AN)∈names/\p.2=(cells.lookup p.1).getD 0)
 | [],acc,p,h=>.inl h
 | (n,k)::r,acc,p,h=>by
   unfold clOf at h
   cases hk:k==AN with
   | false =>
     rw[hk,if_neg (by simp)] at h
     rcases zhz h with h | h
     . exact .inl h
     exact .inr ⟨Ah _ h.1,h.2⟩
   | true =>
     rw[hk,if_pos rfl] at h;have hk':k=AN:=by simpa using hk
     rcases zhz h with h | h
     . rcases List.mem_cons.mp h with h | h
       . subst h;exact .inr ⟨by rw[hk'];exact Aj,rfl⟩
       exact .inl h
     exact .inr ⟨Ah _ h.1,h.2⟩
def zf8{cells:List (Str×Addr)}:∀ {names:List (Str×NameKind)} {acc:List (Str×Addr)} {x:Str},((x,AN)∈names\/(acc.lookup x).isSome=true)->((clOf cells names acc).lookup x).isSome=true
 | [],acc,x,h=>by
   rcases h with h | h
   . exact absurd h<|by simp
   exact h
 | (n,k)::r,acc,x,h=>by
   unfold clOf
   cases hk:k==AN with
   | false =>
     rw[if_neg (by simp)];refine zf8 ?_
     rcases h with h | h
     . rcases List.mem_cons.mp h with h | h
       . have:k=AN:=(Cu h).2.symm;rw[this] at hk;exact absurd hk<|by decide
       exact .inl h
     exact .inr h
   | true =>
     rw[if_pos rfl];refine zf8 ?_
     by_cases hx:x=n
     . subst hx;exact .inr<|by simp
     . rcases h with h | h
       . rcases List.mem_cons.mp h with h | h
         . exact absurd (Cu h).1 hx
         exact .inl h
       . refine .inr ?_;rw[Bk];have:(x==n)=false:=by simpa using hx
         rw[this];exact h
def zfY:∀ {names:List (Str×NameKind)} {n:Nat} {acc:List (Str×Addr)} {p:Str×Addr},p∈cellsFrom n names acc->p∈acc\/n<=p.2
 | [],_,_,_,h=>.inl h
 | (x,k)::r,n,acc,p,h=>by
   unfold cellsFrom at h
   split at h
   . rcases zfY h with h | h
     . rcases List.mem_cons.mp h with h | h
       . subst h;exact .inr<|Af _
       exact .inl h
     exact .inr<|Cp h
   exact zfY h
def zea:∀ {names:List (Str×NameKind)} {n:Nat} {acc:List (Str×Addr)},(acc.Pairwise fun x y=>x.2≠y.2)->(∀ p∈acc,p.2 < n)->(cellsFrom n names acc).Pairwise fun x y=>x.2≠y.2
 | [],_,_,h,_=>h
 | (x,k)::r,n,acc,h,hl=>by
   unfold cellsFrom
   split
   . refine zea (List.pairwise_cons.mpr ⟨fun y hy e=>?_,h⟩) fun p hp=>?_
     . have q:=hl y hy;have e':n=y.2:=e;rw[<-e'] at q;exact AX _ q
     . rcases List.mem_cons.mp hp with rfl | hp
       . exact EW _
       exact B1<|hl p hp
   exact zea h hl
def zjF:∀ {names:List (Str×NameKind)} {n:Nat} {acc:List (Str×Addr)} {x:Str},((x,A7)∈names\/(acc.lookup x).isSome=true)->((cellsFrom n names acc).lookup x).isSome=true
 | [],n,acc,x,h=>by
   rcases h with h | h
   . exact absurd h<|by simp
   exact h
 | (m,k)::r,n,acc,x,h=>by
   unfold cellsFrom
   cases hk:k==A7 with
   | false =>
     rw[if_neg (by simp)];refine zjF ?_
     rcases h with h | h
     . rcases List.mem_cons.mp h with h | h
       . have:k=A7:=(Cu h).2.symm;rw[this] at hk;exact absurd hk<|by decide
       exact .inl h
     exact .inr h
   | true =>
     rw[if_pos rfl];refine zjF ?_
     by_cases hx:x=m
     . subst hx;exact .inr<|by simp
     . rcases h with h | h
       . rcases List.mem_cons.mp h with h | h
         . exact absurd (Cu h).1 hx
         exact .inl h
       . refine .inr ?_;rw[Bk];have:(x==m)=false:=by simpa using hx
         rw[this];exact h
def zfX:∀ {names:List (Str×NameKind)} {n:Nat} {acc:List (Str×Addr)} {x:Str},(x,A7) ∉ names->(cellsFrom n names acc).lookup x=acc.lookup x
 | [],_,_,_,_=>rfl
 | (m,k)::r,n,acc,x,h=>by
   unfold cellsFrom
   cases hk:k==A7 with
   | false=>rw[if_neg (by simp)];exact zfX fun q=>h (Ah _ q)
   | true =>
     rw[if_pos rfl,zfX fun q=>h (Ah _ q),Bk];have hk':k=A7:=by simpa using hk
     have:(x==m)=false:=by
       cases e:x==m with
       | false=>rfl
       | true=>exact absurd (by rw[hk',show x=m by simpa using e];exact Aj) h
     rw[this]
def zjG:∀ {names:List (Str×NameKind)} {n:Nat} {acc:List (Str×Addr)} {x:Str} {c:Addr},(x,A7)∈names->(cellsFrom n names acc).lookup x=some c->n<=c
 | [],_,_,_,_,h,_=>absurd h<|by simp
 | (m,k)::r,n,acc,x,c,h,e=>by
   unfold cellsFrom at e
   cases hk:k==A7 with
   | false =>
     rw[hk,if_neg (by simp)] at e
     rcases List.mem_cons.mp h with h | h
     . have:k=A7:=(Cu h).2.symm;rw[this] at hk;exact absurd hk<|by decide
     exact zjG h e
   | true =>
     rw[hk,if_pos rfl] at e
     by_cases hr:(x,A7)∈r
     . exact Cp<|zjG hr e
     . rw[zfX hr] at e
       rcases List.mem_cons.mp h with h | h
       . have hx:x=m:=(Cu h).1;subst hx;rw[List.lookup_cons_self] at e;exact Nat.le_of_eq<|Ax e
       exact absurd h hr
def zfS:∀ {names:List (Str×NameKind)} {h:Heap} {acc:List (Str×Addr)} {p:Str×Addr},p∈cellsFrom h.objs.size names acc->p∈acc\/(pushCells h names).IsCell p.2 none
 | [],_,_,_,h=>.inl h
 | (x,k)::r,h,acc,p,e=>by
   unfold cellsFrom at e;unfold pushCells
   split at e
   . rename_i hk;rw[if_pos hk];have sz:(h.push { cls:=.type "cell",data:=.cell none }).objs.size=h.objs.size+1:=A4 ..;rw[<-sz] at e
     rcases zfS e with q | q
     . rcases List.mem_cons.mp q with q | q
       . subst q;exact .inr ⟨_,D0 _ _ _ _<|Al _ rfl,rfl⟩
       exact .inl q
     exact .inr q
   rename_i hk;rw[if_neg hk];exact zfS e
def zdT(X:Cx)(scope:Scope)(N':List Str)(cells:List (Str×Addr))(C:Addr)(s0:Shared)(H0:Hp)(ex:List Addr):Cx :=
 { X with N:=N',s₀:=s0,H₀:=H0,env:=compEnvC scope cells C X.env,outer:=X.stack,ex:=ex,fn:=fun x=>scope.names.any fun p=>p.1==x&&p.2==.cell,pn:=[],xe:=fun _ _=>False }
structure CompS(X:Cx)(scope:Scope)(N':List Str)(nt:Nat)(fr:List Nat):Prop where
 kind:scope.kind=.function
 nd:(scope.names.map (·.1)).Nodup
 len:N'.length=nt+fr.length
 cap:∀ (i j:Nat) (x:Str),fr[i]?=some j->N'[nt+i]?=some x->X.N[j]?=some x/\(x,AN)∈scope.names
 out:∀ x,(x,AN)∈scope.names->X.env.kindOf x=some .cell\/X.env.kindOf x=some .free
def lookup_mem:∀ {l:List (Str×NameKind)} {x:Str} {k:NameKind},(l.map (·.1)).Nodup->(x,k)∈l->l.lookup x=some k
 | [],_,_,_,h=>absurd h<|by simp
 | (n,j)::r,x,k,nd,h=>by
   rw[Ao,He] at nd;rw[Bk]
   rcases List.mem_cons.mp h with h | h
   . cases h;simp
   . have:x≠n:=fun e=>nd.1 (by rw[<-e];exact List.mem_map.mpr ⟨_,h,rfl⟩);have:(x==n)=false:=by simpa using this
     rw[this];exact lookup_mem nd.2 h
def zcw{env:Env}:∀ {l:List (Str×NameKind)} {x:Str} {k:NameKind},(l.map fun (n,k)=>if (k==AN&&env.scope.kind==.function&&env.kindOf n==some .cell) then (n,A7) else (n,k)).lookup x=some k ->
   ∃ k',l.lookup x=some k'/\(k'=k\/k'=.free)
 | [],_,_,h=>by simp at h
 | (n,j)::r,x,k,h=>by
   rw[Ao] at h;dsimp only at h
   by_cases hc:(j==AN&&env.scope.kind==.function&&env.kindOf n==some .cell)=true
   . rw[if_pos hc,Bk] at h;rw[Bk]
     cases hx:x==n with
     | true =>
       have:j=.free:=by rw[An,An] at hc;simpa using hc.1.1
       exact⟨j,rfl,.inr this⟩
     | false=>rw[hx] at h;exact zcw h
   . rw[if_neg hc,Bk] at h;rw[Bk]
     cases hx:x==n with
     | true=>rw[hx] at h;cases h;exact⟨j,rfl,.inl rfl⟩
     | false=>rw[hx] at h;exact zcw h
def zdD{env:Env}:∀ {l:List (Str×NameKind)} {x:Str},l.lookup x=some .free ->
   (l.map fun (n,k)=>if (k==AN&&env.scope.kind==.function&&env.kindOf n==some .cell) then (n,A7) else (n,k)).lookup x=some .cell \/
   (l.map fun (n,k)=>if (k==AN&&env.scope.kind==.function&&env.kindOf n==some .cell) then (n,A7) else (n,k)).lookup x=some .free
 | [],_,h=>by simp at h
 | (n,j)::r,x,h=>by
   rw[Ao];dsimp only;rw[Bk] at h
   by_cases hc:(j==AN&&env.scope.kind==.function&&env.kindOf n==some .cell)=true
   . rw[if_pos hc,Bk]
     cases hx:x==n with
     | true=>exact .inl rfl
     | false=>rw[hx] at h;exact zdD h
   . rw[if_neg hc,Bk]
     cases hx:x==n with
     | true=>rw[hx] at h;cases h;exact .inr rfl
     | false=>rw[hx] at h;exact zdD h
variable {s:Shared}{N':List Str}{nt:Nat}{fr:List Nat}{pins:List (Addr×Obj)}{A:Around}{E:Value->Shared->Prop}{fp:List Addr}
noncomputable abbrev clX (X:Cx) (scope:Scope):List (Str×Addr):=clOf X.env.cells scope.names []
noncomputable abbrev zdU (X:Cx) (scope:Scope) (C:Nat):List (Str×Addr):=cellsFrom (C+1) scope.names (clX X scope)
def zkJ(Z:CompS X scope N' nt fr)(ok:X.Ok){p:Str×Addr}(h:p∈clX X scope):(p.1,AN)∈scope.names/\X.env.cells.lookup p.1=some p.2:=by
 rcases zhz h with h | ⟨h1,h2⟩
 . exact absurd h<|by simp
 obtain⟨c,hc⟩:=ok.has p.1<|Z.out p.1 h1;rw[hc,EV] at h2;exact⟨h1,by rw[hc,h2]⟩
def zma(Z:CompS X scope N' nt fr)(ok:X.Ok)(h:(x,AN)∈scope.names):∃ c,X.env.cells.lookup x=some c/\∀ C,(zdU X scope C).lookup x=some c:=by
 obtain⟨c,hc⟩:=ok.has x<|Z.out x h;refine⟨c,hc,fun C=>?_⟩;have no:(x,A7) ∉ scope.names:=fun q=>by have a:=lookup_mem Z.nd h;have b:=lookup_mem Z.nd q;rw[a] at b;cases b
 rw[zfX no];have q:=zf8 (cells:=X.env.cells) (acc:=[])<|.inl h;obtain⟨c',e⟩:=Option.isSome_iff_exists.mp q;have:=(zkJ Z ok<|A6 e).2;have this:X.env.cells.lookup x=some c':=this;rw[hc] at this;rw[e,this]
def zo4(Z:CompS X scope N' nt fr)(ok:X.Ok):(clX X scope).Pairwise fun x y=>x.2≠y.2:=by
 have gen:∀ (names:List (Str×NameKind)) (acc:List (Str×Addr)),(∀ n,(n,AN)∈names->∃ c,X.env.cells.lookup n=some c)->(names.map (·.1)).Nodup->(∀ p∈acc,p.1 ∉ names.map (·.1)/\X.env.cells.lookup p.1=some p.2)->(acc.Pairwise fun x y=>x.2≠y.2) ->
     (clOf X.env.cells names acc).Pairwise fun x y=>x.2≠y.2:=by
   intro names
   induction names with
   | nil=>intro acc _ _ _ h;exact h
   | cons p r ih =>
     intro acc hf nd ha hp;obtain⟨n,k⟩:=p;rw[Ao,He] at nd;unfold clOf
     cases hk:k==AN with
     | false =>
       rw[if_neg (by simp)];exact ih acc (fun m hm=>hf m (Ah _ hm)) nd.2 (fun q hq=>⟨fun z=>(ha q hq).1 (by rw[Ao];exact Ah _ z),(ha q hq).2⟩) hp
     | true =>
       rw[if_pos rfl];have hk':k=AN:=by simpa using hk
       obtain⟨c,hc⟩:=hf n (by rw[hk'];exact Aj);refine ih _ (fun m hm=>hf m (Ah _ hm)) nd.2 (fun q hq=>?_)<|List.pairwise_cons.mpr ⟨fun y hy e=>?_,hp⟩
       . rcases List.mem_cons.mp hq with rfl | hq
         . exact⟨nd.1,by rw[hc];rfl⟩
         exact⟨fun z=>(ha q hq).1 (by rw[Ao];exact Ah _ z),(ha q hq).2⟩
       have e1:(X.env.cells.lookup n).getD 0=y.2:=e;rw[hc,EV] at e1;have e2:=(ha y hy).2;rw[<-e1] at e2;have:=ok.inj _ _ _ e2 hc;exact (ha y hy).1 (by rw[this,Ao];exact Aj)
 exact gen scope.names [] (fun n hn=>ok.has n (Z.out n hn)) Z.nd (fun p hp=>absurd hp (by simp)) DB
def zo2{Mq:Model}{cl:List (Str×Addr)}{Q:Env->Shared->Prop}
   (h:Q { scope:=scope,locals:=s.heap.objs.size,globals:=env.globals,cells:=cellsFrom (s.heap.objs.size+1) scope.names cl,qual:=env.qual,func:=none,code:=env.code,frame:=env.frame,builtins:=env.builtins }
     { s with heap:=pushCells (s.heap.push { cls:=.type "dict",data:=.dict #[] }) scope.names }) :
   wpAny Mq A (newFunctionEnv scope env.globals cl [] env.qual none .none<|some env) Q E s:=by
 simp only[newFunctionEnv,Gq,if_true];refine Aa<|wpAny_alloc ?_;refine Aa<|wpAny_layCells _ (fun name kind cells=>by cases hkc:kind==A7 <;> simp[hkc]) _ _ _ _ ?_;rw[show ({ s with heap:=s.heap.push { cls:=.type "dict",data:=.dict #[] } }:Shared).heap.objs.size=s.heap.objs.size+1 from A4 ..];rw[Dv];exact Aa<|Ab<|Ab h
def zl9(M:L2.St)(nt:Nat)(fr:List Nat):L2.St:=Cw nt none++fr.map fun (j:Nat)=>(M[j]?).join
def zoy{fp:List Addr}(Z:CompS X scope N' nt fr)(I:Inv X pins M H s)(hf:∀ b∈fp,FpOk X pins H b)(hlt:∀ b∈fp,b < s.heap.objs.size) :
   Inv (zdT X scope N' (zdU X scope s.heap.objs.size) s.heap.objs.size s H fp) [] (zl9 M nt fr) H { s with heap:=pushCells (s.heap.push { cls:=.type "dict",data:=.dict #[] }) scope.names }:=by
 have ok:=I.ok;have kp:∀ b o,s.heap.get? b=some o->(pushCells (s.heap.push { cls:=.type "dict",data:=.dict #[] }) scope.names).get? b=some o:=fun b o e=>D0 _ _ b o (Ad _ e);have clt:∀ p∈clX X scope,p.2 < s.heap.objs.size:=fun p hp=>by obtain⟨_,e⟩:=zkJ Z ok hp;obtain⟨v,q⟩:=I.cell p.1 p.2 e;exact q.lt
 have sz:(s.heap.push { cls:=.type "dict",data:=.dict #[] }).objs.size=s.heap.objs.size+1:=A4 ..;have cells:∀ x c,(zdU X scope s.heap.objs.size).lookup x=some c->(X.env.cells.lookup x=some c)\/(s.heap.objs.size+1<=c/\(pushCells (s.heap.push { cls:=.type "dict",data:=.dict #[] }) scope.names).IsCell c none):=fun x c e=>by
   have m:=A6 e
   rcases zfY m with h | h
   . exact .inl (zkJ Z ok h).2
   . refine .inr ⟨h,?_⟩;have m':(x,c)∈cellsFrom (s.heap.push { cls:=.type "dict",data:=.dict #[] }).objs.size scope.names (clX X scope):=by rw[sz];exact m
     rcases zfS m' with q | q
     . have l:=clt _ q;exact absurd (Ay l (Cp h)) (AX _)
     exact q
 refine⟨⟨ok.mod,Z.kind,ok.glob,ok.blt,Af _,fun x y c h1 h2=>?_,fun x hx=>?_,fun x c h1 h2=>?_,ok.hd,ok.frames,.inl rfl,fun b hb=>?_,I.bs,AR ok.bsz I.sz,fun b o e hb=>?_,fun b hb=>?_,I.stack,I.stkFree⟩,
   rfl,I.bare,Un.kept kp,⟨fun _=>none,?_,fun i x v h1 h2 h3=>?_⟩,fun x c e=>?_,I.hok.fresh (Af _),fun x c e=>?_,fun p hp=>absurd hp (by simp[zdT]),I.hok.kept kp,?_⟩
 . exact name_of_addr (zea (zo4 Z ok) fun p hp=>B1 (clt p hp)) (A6 h1) (A6 h2)
 . have hx:(relabel scope X.env).names.lookup x=some .cell\/(relabel scope X.env).names.lookup x=some .free:=hx;have q:(x,A7)∈scope.names\/(x,AN)∈scope.names:=by
     rcases hx with hx | hx
     . obtain⟨k',e,z | z⟩:=zcw hx
       . subst z;exact .inl (A6 e)
       subst z;exact .inr (A6 e)
     . obtain⟨k',e,z | z⟩:=zcw hx
       . subst z;exact .inr (A6 e)
       subst z;exact .inr (A6 e)
   refine Option.isSome_iff_exists.mp (zjF (n:=s.heap.objs.size+1) (acc:=clX X scope) ?_)
   rcases q with q | q
   . exact .inl q
   exact .inr (zf8 (.inl q))
 . have h1:(scope.names.any fun p=>p.1==x&&p.2==A7)=true:=h1;obtain⟨p,hp,e⟩:=List.any_eq_true.mp h1;rw[An] at e;have e1:p.1=x:=by simpa using e.1
   have e2:p.2=A7:=by simpa using e.2
   have hm:(x,A7)∈scope.names:=by rw[<-e1,<-e2];exact hp
   exact Cp (zjG hm h2)
 . refine⟨Ap (hlt b hb),fun x c e z=>?_⟩
   rcases cells x c e with q | ⟨q,_⟩
   . exact (hf b hb).2.2.2.2.1 x c q z
   have l:=hlt b hb;rw[<-z] at l;exact absurd (Ay l (Cp q)) (AX _)
 . rcases (hf b hb).2.2.2.1 with z | z
   . exact ok.noex b o e z
   exact absurd (Ay (Am e) (AR ok.bsz z)) (AX _)
 . intro hs
   rcases List.mem_cons.mp (I.stkSub b hs) with e | e
   . exact (hf b hb).2.1 e
   exact (hf b hb).2.2.1 e
 . exact (Heap.Ns.new s.heap (.type "dict")).keeps (D0 _ _)
 . -- a captured name
   have hi:nt<=i:=by
     by_cases hi:i < nt
     . unfold zl9 at h2;rw[Az (by simpa using hi),CG,if_pos hi] at h2;cases h2
     omega
   obtain⟨i',rfl⟩:∃ i',i=nt+i':=⟨i - nt,by omega⟩
   unfold zl9 at h2;rw[Bb (by simp),CY,Nat.add_sub_cancel_left,AB] at h2
   cases ej:fr[i']? with
   | none=>rw[ej] at h2;cases h2
   | some j =>
     rw[ej] at h2;have h2:(M[j]?).join=some v:=Ax h2;have h2:M[j]?=some (some v):=by
       cases q:M[j]? with
       | none=>rw[q] at h2;cases h2
       | some w=>rw[q] at h2;cases w with
         | none=>cases h2
         | some w=>cases h2;rfl
     obtain⟨hN,hfree⟩:=Z.cap i' j x ej h1;obtain⟨c,hc,hcc⟩:=zma Z ok hfree;have ho:=Z.out x hfree;obtain⟨m,hn,hl⟩:=I.loc;obtain⟨u,r,l⟩:=hl j x v hN h2 (ho.elim (fun z=>.inr (.inl z)) fun z=>.inr (.inr z));refine⟨u,r,.inr ⟨?_,c,hcc _,?_⟩⟩
     . exact zdD (lookup_mem Z.nd hfree)
     . rcases l with ⟨k,_⟩ | ⟨_,c',e',z⟩
       . rcases ho with q | q
         . rw[k] at q;cases q
         rw[k] at q;cases q
       rw[hc] at e';cases e';exact z.keeps kp
 . rcases cells x c e with q | ⟨_,q⟩
   . obtain⟨v,z⟩:=I.cell x c q;exact⟨v,z.keeps kp⟩
   exact⟨none,q⟩
 . rcases cells x c e with q | ⟨q,_⟩
   . exact I.freeC x c q
   exact I.hok.fresh (Cp q)
 show _=N'.length;unfold zl9;rw[Z.len,AE,CY,Ai]
noncomputable abbrev FF:Value->Shared->Prop:=fun _ _=>False
variable {elt:Expr}{ifs:List Expr}
def ziQ{prog:Program}{R:Result->Shared->Prop}{s:Shared}{target:Expr}{it acc:Value}(I:Nat->Shared->Prop)
   (turn:∀ n s,I n s->wpAny (model prog w) A (pyNext it) (fun r s1=>match r with
     | none=>R (.ok .next) s1
     | some v=>wpAny (model prog w) A (letOwnedTupleGo target it v) (fun _ s1=>wpAny (model prog w) A (assign target env v) (fun _ s2 =>
         wpAny (model prog w) A (forIn ifs true fun c r=>if r=true then do let ok <-isTrue c env (eval c env);pure (D1 ok) else pure (D1 r)) (fun ok s3 =>
           if ok=true then wpAny (model prog w) A (eval elt env) (fun x s4 =>
             wpAny (model prog w) A (call (.builtin "list.append") [acc,x]) (fun _ s5=>∃ m,m < n/\I m s5) FF s4) FF s3
           else ∃ m,m < n/\I m s3) FF s2) FF s1) FF s1) FF s)
   (n:Nat) (h:I n s) :
   codeAny (model prog w) A (.compLoop (.ListComp elt [⟨target,iter,ifs,0⟩] scope pos) 0 it acc env) R s:=by
 refine codeAny_loop rfl I (fun n s hI=>?_) n h;show wpAny _ A ((compTurn (.ListComp elt [⟨target,iter,ifs,0⟩] scope pos) 0 it acc env).onRaise (fun x=>do noteFrame x env;theTreesLotGoes x)) _ _ s;refine wpAny_noted ?_;rw[compTurn_list];refine Aa<|Eu<|Aa<|BG (turn n s hI) (fun r s₁ h₁=>?_) fun _ _ h'=>False.elim h'
 cases r with
 | none=>exact Ab h₁
 | some v =>
   refine Aa<|BG h₁ (fun _ s₂ h₂=>?_) fun _ _ h'=>False.elim h';refine Aa<|BG h₂ (fun _ s₂ h₂=>Aa (BG h₂ (fun ok s₃ h₃=>?_) fun _ _ h'=>False.elim h')) fun _ _ h'=>False.elim h'
   cases ok with
   | false=>exact Ab ⟨rfl,h₃⟩
   | true =>
     exact Aa<|Aa<|BG h₃ (fun x s₄ h₄=>Aa (BG h₄ (fun _ s₅ h₅=>Ab (Ab ⟨rfl,h₅⟩)) fun _ _ h'=>False.elim h')) fun _ _ h'=>False.elim h'
def mCI(W:Wk)(g:MG)(c:MT)(m:ME):List D->Rho->Sto->Option (List D×Sto)
 | [],U,st=>if walked W st=true then some ([],st) else none
 | d::ds,U,st=>if walked W st=true then (g d U st).bind fun (U1,s1)=>(c U1 s1).bind fun (b,s2) =>
     if b=true then (m U1 s2).bind fun (x,s3)=>(mCI W g c m ds U1 s3).map fun (xs,s4)=>(x::xs,s4) else mCI W g c m ds U1 s2 else none
def rho0(U:Rho)(nt:Nat)(fr:List Nat):Rho:=Cw nt none++fr.map fun (j:Nat)=>(U[j]?).join
def zdR(mi:MI)(nt:Nat)(fr:List Nat)(g:MG)(c:MT)(m:ME):ME:=fun U st=>(mi U st).bind fun (W,s1)=>(mCI W g c m W.ds (rho0 U nt fr) s1).bind fun (xs,s2) =>
 if fits xs.length=true then some (.ref s2.length,s2++[.lst xs]) else none
def zcV:MT:=fun _ st=>some (true,st)
def SC(X:Cx)(ifs:List Expr)(m:MT):Prop:=∀ (pins:List (Addr×Obj)) (s:Shared) (M:L2.St) (H:Hp) (Q:Bool->Hp->Prop),Inv X pins M H s->tT X.K m M H Q ->
 wpAny (model X.prog X.w) X.A (forIn ifs true fun c r=>if r=true then do let ok <-isTrue c X.env (eval c X.env);pure (D1 ok) else pure (D1 r)) (TP X pins M Q) X.xe s
def zdu:SC X [] zcV:=by rintro pins s M H Q I ⟨U,st,io,b,st',E,S,e,k⟩;cases e;rw[Dv];exact Ab ⟨H,I,k H [] Ext.refl S.nil⟩
def zoT(h:EnvR K H io M U):EnvR K H io (zl9 M nt fr) (rho0 U nt fr):=by
 refine⟨by unfold zl9 rho0;simp,fun i d e=>?_⟩;unfold rho0 at e;unfold zl9
 by_cases hi:i < nt
 . rw[Az (by simpa using hi),CG,if_pos hi] at e;cases e
 . rw[Bb (by simpa using hi),CY,AB] at e ⊢
   cases ej:fr[i - nt]? with
   | none=>rw[ej] at e;cases e
   | some j =>
     rw[ej] at e;have e:(U[j]?).join=some d:=Ax e;have e:U[j]?=some (some d):=by
       cases q:U[j]? with
       | none=>rw[q] at e;cases e
       | some w=>rw[q] at e;cases w with
         | none=>cases e
         | some w=>cases e;rfl
     obtain⟨v,hv,r⟩:=h.at_ j d e;exact⟨v,by simp[hv],r⟩
def adopt(S:StR K H io st)(hp:H p=some (.lst xs))(np:p ∉ io)(R:Reps K H io xs ds):StR K H (io++[p]) (st++[.lst ds]):=by
 refine⟨by simp[S.len],?_,fun n a ob h1 h2=>?_⟩
 . rw[EE];refine⟨S.nd,by simp,fun a ha b hb=>?_⟩;rw[List.mem_singleton.mp hb];rintro rfl;exact np ha
 . by_cases hn:n < io.length
   . rw[Az hn] at h1;rw[Az (by rw[<-S.len];exact hn)] at h2;exact OR.mono ⟨fun _ _ h=>h,fun _ _ _ h=>h⟩ rfl<|S.ob n a ob h1 h2
   . have hl:n < (io++[p]).length:=(List.getElem?_eq_some_iff.mp h1).1;rw[AE,Cm] at hl;have e:n=io.length:=by omega
     subst e;rw[Bb (Af _),Do] at h1;rw[S.len,Bb (Af _),Do] at h2
     cases (Ax h1)
     cases (Ax h2)
     exact⟨xs,hp,Reps.mono ⟨fun _ _ h=>h,fun _ _ _ h=>h⟩ R⟩
section
variable {g:MG} {c:MT}
structure CompEnd(X:Cx)(pins:List (Addr×Obj))(M:L2.St)(H:Hp)(io:List Addr)(d:D)(st':Sto)(Dd C:Addr)(H5:Hp)(s6:Shared):Prop where
 inv:Inv X pins M H5 s6
 ns:∃ m,s6.heap.Ns C m
 free:H5 C=none
 ne:C≠X.env.locals
 young:X.s₀.heap.objs.size<=C
 cells:∀ x c,X.env.cells.lookup x=some c->c≠C
 pin:∀ p∈X.pn++pins,p.1≠C
 val:∃ ka,Ext io ka H H5/\StR X.K H5 (io++ka) st'/\Rep X.K H5 (io++ka) (.ref Dd) d
inductive CompI (X Y:Cx) (W:Wk) (tn:Nat->Heap->Prop) (fp io:List Addr) (H1:Hp) (Dd:Addr) (g:MG) (c:MT) (m:ME) (t2:Sto) (xs:List D) (n:Nat) (s5:Shared):Prop
 | mk (i:Nat) (M5:L2.St) (H5:Hp) (U5:Rho) (st5:Sto) (k5:List Addr) (ac rs:List D) (h0:n=W.ds.length - i) (h1:Inv Y [] M5 H5 s5) (h2:tn i s5.heap) (h3:∀ b∈fp,H5 b=none) (h4:Ext io k5 H1 H5) (h5:Dd ∉ k5) (h6:StR X.K H5 (io++k5) st5) (h7:EnvR X.K H5 (io++k5) M5 U5) (h8:∃ vs,H5 Dd=some (.lst vs)/\Reps X.K H5 (io++k5) vs ac) (h9:mCI W g c m (W.ds.drop i) U5 st5=some (rs,t2)) (h10:xs=ac++rs)
def zkG(hx:X.xe=FF)(hc:X.calm=true)(Z:CompS X scope N' nt fr)(hi:SI X tg iter mi)
   (hg:∀ C s0 H0 fp,SG (zdT X scope N' (zdU X scope C) C s0 H0 fp) tg g) (ht:∀ C s0 H0 fp,SC (zdT X scope N' (zdU X scope C) C s0 H0 fp) ifs c) (he:∀ C s0 H0 fp,SE (zdT X scope N' (zdU X scope C) C s0 H0 fp) elt m)
   (hs:∀ x,foldedSetIterable iter X.env x=pure x)         {use:Option (Value->Sem Unit)} {Qf:Value->Shared->Prop} {ps:Pos}
   (I:Inv X pins M H s) (E:EnvR X.K H io M U) (S:StR X.K H io st) (e:zdR mi nt fr g c m U st=some (d,st'))
   (kf:∀ Dd C H5 s6,CompEnd X pins M H io d st' Dd C H5 s6->compPost (model X.prog X.w) X.A X.xe use Qf (.ref Dd) C (.ok .next) s6) :
   wpAny (model X.prog X.w) X.A (comprehension (.ListComp elt [⟨tg,iter,ifs,0⟩] scope pos) scope X.env ps (newList []) false (eval iter X.env) use) Qf X.xe s:=by
 obtain⟨⟨W,t1⟩,e1,e⟩:=zae e;obtain⟨⟨xs,t2⟩,e2,e⟩:=zae e;obtain⟨hfit,e⟩:=zau e;cases e;refine wpAny_comprehension_free (use:=use) rfl hs (zkI fun n hn=>I.ok.has n (Z.out n hn)) Z.kind (fun x hx hl=>by
   obtain⟨n,k⟩:=x
   cases (show k=.local from hl)
   exact lookup_mem Z.nd hx) ?_
 refine thn (hi pins s M H (fun J H1=>∃ ka,Ext io ka H H1/\StR X.K H1 (io++ka) t1/\ItOk X.K H1 (io++ka) W J) I ⟨U,st,io,W,t1,E,S,e1,fun J H' ka X' S' O'=>⟨ka,X',S',O'⟩⟩) fun v sa ha=>?_;refine thn ha ?_;rintro itv s2 ⟨it,fp,tn,J,H1,eit,I1,T,tn0,fpok,k1,X1,S1,IO⟩;subst eit;refine AF ?_
 -- the new list
 have hD:H1 s2.heap.objs.size=none:=I1.hok.fresh (Af _);have I3:Inv X pins M (upd H1 s2.heap.objs.size (.lst [])) { s2 with heap:=s2.heap.push { cls:=.type "list",data:=.seq ([]:List Value).toArray },toks:=s2.toks }:=I1.lnew .nil (AY _);obtain⟨X2,S2a⟩:=zfx (o:=.lst []) S1 hD;rw[As] at S2a;have S2:StR X.K (upd H1 s2.heap.objs.size (.lst [])) (io++k1) t1:=S2a;clear S2a;generalize hH3:upd H1 s2.heap.objs.size (.lst [])=H3 at I3 X2 S2;have H3D:H3 s2.heap.objs.size=some (.lst []):=by rw[<-hH3];exact zbP
 generalize hD':s2.heap.objs.size=Dd at hD I3 X2 S2 hH3 H3D ⊢;generalize hs3:({ s2 with heap:=s2.heap.push { cls:=.type "list",data:=.seq ([]:List Value).toArray },toks:=s2.toks }:Shared)=s3 at I3;have fplt:∀ b∈fp,b < s3.heap.objs.size:=fun b hb=>by obtain⟨o,ho,_⟩:=T.obj 0 _ tn0 b hb;rw[<-hs3];exact Ay (Am ho) (by show _<=(s2.heap.push _).objs.size;rw[A4];exact BM _)
 have fpD:∀ b∈fp,b≠Dd:=fun b hb z=>by obtain⟨o,ho,_⟩:=T.obj 0 _ tn0 b hb;have:=Am ho;rw[z,<-hD'] at this;exact AX _ this
 have fp3:∀ b∈fp,FpOk X pins H3 b:=fun b hb=>⟨by rw[<-hH3,zaV (fpD b hb)];exact (fpok b hb).1,(fpok b hb).2⟩
 have tn3:tn 0 s3.heap:=T.keep 0 _ _ tn0 fun b _ o ho=>by rw[<-hs3];exact Ad _ ho
 refine zo2 ?_;have I4:=zoy (fp:=fp) Z I3 fp3 fplt;have tn4:tn 0 (pushCells (s3.heap.push { cls:=.type "dict",data:=.dict #[] }) scope.names):=T.keep 0 _ _ tn3 fun b _ o ho=>D0 _ _ _ _ (Ad _ ho);generalize hs4:({ s3 with heap:=pushCells (s3.heap.push { cls:=.type "dict",data:=.dict #[] }) scope.names }:Shared)=s4 at I4;have tn4:tn 0 s4.heap:=by rw[<-hs4];exact tn4
 show codeAny (model X.prog X.w) X.A (.compStart (.ListComp elt [⟨tg,iter,ifs,0⟩] scope pos) 0 (.ref it) (.ref Dd) (zdT X scope N' (zdU X scope s3.heap.objs.size) s3.heap.objs.size s3 H3 fp).env) _ _;generalize hY:zdT X scope N' (zdU X scope s3.heap.objs.size) s3.heap.objs.size s3 H3 fp=Y at I4;have yP:Y.prog=X.prog:=by rw[<-hY];rfl
 have yW:Y.w=X.w:=by rw[<-hY];rfl
 have yK:Y.K=X.K:=by rw[<-hY];rfl
 have yC:Y.calm=true:=by rw[<-hY];exact hc
 have yA:Y.A=X.A:=by rw[<-hY];rfl
 have yx:Y.xe=FF:=by rw[<-hY];rfl
 have hg:=hg s3.heap.objs.size s3 H3 fp;have ht:=ht s3.heap.objs.size s3 H3 fp;have he:=he s3.heap.objs.size s3 H3 fp;rw[hY] at hg ht he;have yex:Y.ex=fp:=by rw[<-hY];rfl
 have yfs:∀ b∈fp,b ∉ Y.fs:=fun b hb hs=>by
   rw[<-hY] at hs;have hs:b∈frs X.stack:=hs
   rcases List.mem_cons.mp (I3.stkSub b hs) with z | z
   . exact (fp3 b hb).2.1 z
   exact (fp3 b hb).2.2.1 z
 have yL:Y.env.locals=s3.heap.objs.size:=by rw[<-hY];rfl
 -- the loop
 have hio:Dd ∉ io++k1:=fun hm=>by obtain⟨u,hu,_⟩:=S1.mem hm;rw[hD] at hu;cases hu
 have start:∀ {H':Hp} {sx:Shared} {M':L2.St},Inv Y [] M' H' sx->(∀ b∈fp,H' b=none)->∀ b∈fp,FpOk Y [] H' b:=fun {H' sx M'} I' hn b hb=>by
   refine⟨hn b hb,fun z=>?_,yfs b hb,.inl (by rw[yex];exact hb),fun x cc e z=>?_,fun p hp=>absurd hp (by rw[<-hY];simp[zdT])⟩
   . rw[yL] at z;exact absurd (fplt b hb) (by rw[z];exact AX _)
   exact (I'.ok.exf b (by rw[yex];exact hb)).2 x cc e z
 have loop:∀ sx:Shared,Inv Y [] (zl9 M nt fr) H3 sx->tn 0 sx.heap->codeAny (model X.prog X.w) X.A (.compLoop (.ListComp elt [⟨tg,iter,ifs,0⟩] scope pos) 0 (.ref it) (.ref Dd) Y.env) (compPost (model X.prog X.w) X.A X.xe use Qf (.ref Dd) s3.heap.objs.size) sx:=by
   intro sx Ix tnx;refine ziQ (CompI X Y W tn fp (io++k1) H1 Dd g c m t2 xs) ?_ (W.ds.length - 0)
     ⟨0,zl9 M nt fr,H3,rho0 U nt fr,t1,[],[],xs,rfl,Ix,tnx,fun b hb=>(fp3 b hb).1,X2,by simp,S2.nil,by rw[As];exact zoT (by have:=(E.ext S X1).ext S1 X2;rw[As] at this;exact this),⟨[],H3D,rfl⟩,by rw[FP];exact e2,rfl⟩
   rintro n s5 ⟨i,M5,H5,U5,st5,k5,ac,rs,rfl,I5,tn5,fr5,X25,nk5,S5,E5,⟨vs,hvs,Rvs⟩,e5,exs⟩;have nD:∀ {kk:List Addr},Dd ∉ kk->Dd ∉ (io++k1)++kk:=fun {kk} hk hm=>(List.mem_append.mp hm).elim hio hk;have nF:∀ {kk jj:List Addr} {Ha Hb:Hp} {vv:List V},Ext jj kk Ha Hb->Ha Dd=some (.lst vv)->Dd ∉ kk:=fun {kk jj Ha Hb vv} Xx hv hm=>by have q:=Xx.fresh Dd hm;rw[hv] at q;cases q
   cases hd:W.ds[i]? with
   | none =>
     have hl:W.ds.length<=i:=List.getElem?_eq_none_iff.mp hd;rw[FE hl] at e5;obtain⟨hw,e5⟩:=zau e5;cases e5;have:=T.done Y yP yW yK yC i [] s5 M5 H5 FF I5 (start I5 fr5) tn5 (IO.stop' H5 k5 _ i hl X25 S5 (zdO hw));rw[yA] at this;refine thn this ?_;rintro r s6 ⟨hr,I6⟩;subst hr;obtain⟨mm,hn,_⟩:=id I6.loc;rw[yL] at hn
     -- back in the frame
     have base:Un (frs X.stack) fp H3 H5 s3.heap s6.heap:=by have b:=I6.base;rw[<-hY] at b;exact b
     have os:s6.os=s3.os:=by have b:=I6.os;rw[<-hY] at b;exact b
     have free:H5 s3.heap.objs.size=none:=by have b:=I6.free;rw[yL] at b;exact b
     have hok:HOk X.prog X.w H5 s6.heap:=by have b:=I6.hok;rw[yP,yW] at b;exact b
     have I7:Inv X pins M H5 s6:=Inv.call' (s':=s6) (ch:=fp) I3 os base hok I6.bare fun b hb=>⟨(fp3 b hb).2.2.2.1,(fp3 b hb).2.1,(fp3 b hb).2.2.2.2.1,(fp3 b hb).2.2.2.2.2⟩
     have np:Dd ∉ (io++k1)++k5:=nD nk5;rw[As] at exs;subst exs;have SA:=adopt S5 hvs np Rvs;have X6:Ext io (k1++k5) H H5:=X1.trans S1 X25;have lt3:X.env.locals < s3.heap.objs.size:=I3.lt;refine kf Dd s3.heap.objs.size H5 s6 ⟨I7,⟨mm,hn⟩,free,AJ lt3,I3.sz,fun x cc e z=>?_,fun p hp z=>?_,?_⟩
     . obtain⟨vv,q⟩:=I3.cell x cc e;have:=q.lt;rw[z] at this;exact AX _ this
     . have:=Am (I3.pin p hp).1;rw[z] at this;exact AX _ this
     refine⟨(k1++k5)++[Dd],⟨fun b o hb nb=>X6.keep b o hb nb,fun b hb=>?_,X6.frz⟩,(by simpa using SA),⟨Dd,rfl,?_⟩⟩
     . rcases List.mem_append.mp hb with hb | hb
       . exact X6.fresh b hb
       . rw[List.mem_singleton.mp hb]
         cases q:H Dd with
         | none=>rfl
         | some o =>
           by_cases hb:Dd∈io
           . exact absurd (Bw _ hb) hio
           have:=X1.keep Dd o q hb;rw[hD] at this;cases this
     have:=getElem?_len ((io++k1)++k5) Dd;rw[<-S5.len];simpa using this
   | some dd =>
     have hl:i < W.ds.length:=(List.getElem?_eq_some_iff.mp hd).1;have hdr:W.ds.drop i=dd::W.ds.drop (i+1):=by rw[EL hl,(List.getElem?_eq_some_iff.mp hd).2]
     rw[hdr] at e5;obtain⟨hw,e5⟩:=zau e5;obtain⟨⟨U6,t6⟩,e6,e5⟩:=zae e5;obtain⟨⟨b7,t7⟩,e7,e5⟩:=zae e5;obtain⟨go,yl⟩:=IO.go i dd H5 k5 st5 hd X25 S5 (zdO hw);have hit:=T.item Y yP yW yK yC i [] s5 M5 H5 FF I5 (start I5 fr5) tn5 go;rw[yA] at hit;refine thn hit ?_;rintro r s6 ⟨u,hr,h6⟩;subst hr;refine thn h6 ?_;rintro _ s7 ⟨x,H7,I7,r7,y7,tn7,fr7⟩;obtain⟨X7,S7,R7⟩:=yl x H7 y7;have X57:Ext (io++k1) k5 H1 H7:=(X25.trans S5 X7).app;have hv7:H7 Dd=some (.lst vs):=X7.keep _ _ hvs (nD nk5);have E7:EnvR X.K H7 ((io++k1)++k5) M5 U5:=by have:=E5.ext S5 X7;rw[As] at this;exact this
     have R7v:Reps X.K H7 ((io++k1)++k5) vs ac:=by have:=Rvs.ext S5 X7;rw[As] at this;exact this
     have I7p:=I7.pinned (start I7 fr7) (T.obj _ _ tn7);rw[<-yA,<-yP,<-yW];rw[<-yx];refine thn (hg _ s7 M5 H7 x u (fun M8 H8=>∃ k8,Ext ((io++k1)++k5) k8 H7 H8/\StR X.K H8 (((io++k1)++k5)++k8) t6/\EnvR X.K H8 (((io++k1)++k5)++k8) M8 U6) I7p r7 (by rw[yK];exact⟨dd,U5,st5,(io++k1)++k5,U6,t6,R7,E7,S7,e6,fun M8 H8 k8 X8 S8 E8=>⟨k8,X8,S8,E8⟩⟩)) ?_;rintro _ s8 ⟨M8,H8,I8,k8,X8,S8,E8⟩;have S8':StR X.K H8 ((io++k1)++(k5++k8)) t6:=by rw[<-Av];exact S8
     have E8':EnvR X.K H8 ((io++k1)++(k5++k8)) M8 U6:=by rw[<-Av];exact E8
     have X38:Ext (io++k1) (k5++k8) H1 H8:=X57.trans S7 X8;have nk8:Dd ∉ k5++k8:=fun hm=>(List.mem_append.mp hm).elim nk5 (nF X8 hv7);refine thn (ht _ s8 M8 H8 (fun b H9=>b=b7/\∃ k9,Ext ((io++k1)++(k5++k8)) k9 H8 H9/\StR X.K H9 (((io++k1)++(k5++k8))++k9) t7) I8 (by rw[yK];exact⟨U6,t6,(io++k1)++(k5++k8),b7,t7,E8',S8',e7,fun H9 k9 X9 S9=>⟨rfl,k9,X9,S9⟩⟩)) ?_;rintro ok s9 ⟨H9,I9,eb,k9,X9,S9⟩;subst eb;have X39:Ext (io++k1) ((k5++k8)++k9) H1 H9:=X38.trans S8' X9;have S9':StR X.K H9 ((io++k1)++((k5++k8)++k9)) t7:=by rw[<-Av];exact S9
     have E9:EnvR X.K H9 ((io++k1)++((k5++k8)++k9)) M8 U6:=by have:=E8'.ext S8' X9;rw[Av] at this;exact this
     have hv8:H8 Dd=some (.lst vs):=X8.keep _ _ hv7 (nD nk5);have hv9:H9 Dd=some (.lst vs):=X9.keep _ _ hv8 (nD nk8);have nk9:Dd ∉ (k5++k8)++k9:=fun hm=>(List.mem_append.mp hm).elim nk8 (nF X9 hv8);have R8v:Reps X.K H8 ((io++k1)++(k5++k8)) vs ac:=by have:=R7v.ext S7 X8;rw[Av] at this;exact this
     have R9v:Reps X.K H9 ((io++k1)++((k5++k8)++k9)) vs ac:=by have:=R8v.ext S8' X9;rw[Av] at this;exact this
     have back:∀ {Hx:Hp} {sx:Shared} {Mx:L2.St},Inv Y ([]++zjD fp s7.heap) Mx Hx sx->Inv Y [] Mx Hx sx/\tn (i+1) sx.heap/\∀ b∈fp,Hx b=none:=fun {Hx sx Mx} Ix=>by refine⟨Ix.unpinned,T.keep _ _ _ tn7 fun b hb o e=>(Ix.pin (b,o) (A0 _ (A0 _ (zdQ hb e)))).1,fun b hb=>?_⟩;obtain⟨o,e,dn⟩:=T.obj _ _ tn7 b hb;exact (Ix.pin (b,o) (A0 _ (A0 _ (zdQ hb e)))).2.1
     cases ok with
     | false =>
       rw[if_neg (by decide)];have e5:mCI W g c m (W.ds.drop (i+1)) U6 t7=some (rs,t2):=e5;obtain⟨Ib,tnb,frb⟩:=back I9;exact⟨W.ds.length - (i+1),by omega,i+1,M8,H9,U6,t7,(k5++k8)++k9,ac,rs,rfl,Ib,tnb,frb,X39,nk9,S9',E9,⟨vs,hv9,R9v⟩,e5,exs⟩
     | true =>
       rw[if_pos rfl];have e5:((m U6 t7).bind fun (x,s3)=>(mCI W g c m (W.ds.drop (i+1)) U6 s3).map fun (xs,s4)=>(x::xs,s4))=some (rs,t2):=e5;obtain⟨⟨x10,t10⟩,e10,e5⟩:=zae e5;obtain⟨⟨rs',t11⟩,e11,e5⟩:=zaj e5;cases e5;refine thn (he _ s9 M8 H9 (fun v H10=>∃ k10,Ext ((io++k1)++((k5++k8)++k9)) k10 H9 H10/\StR X.K H10 (((io++k1)++((k5++k8)++k9))++k10) t10/\Rep X.K H10 (((io++k1)++((k5++k8)++k9))++k10) v x10) I9
         (by rw[yK];exact⟨U6,t7,(io++k1)++((k5++k8)++k9),x10,t10,E9,S9',e10,fun v H10 k10 X10 S10 R10=>⟨k10,X10,S10,R10⟩⟩)) fun u10 s10 ⟨v10,H10,I10,r10,k10,X10,S10,R10⟩=>?_
       have X310:Ext (io++k1) (((k5++k8)++k9)++k10) H1 H10:=X39.trans S9' X10;have nk10:Dd ∉ ((k5++k8)++k9)++k10:=fun hm=>(List.mem_append.mp hm).elim nk9 (nF X10 hv9);have S10':StR X.K H10 ((io++k1)++(((k5++k8)++k9)++k10)) t10:=by rw[<-Av];exact S10
       have hv10:H10 Dd=some (.lst vs):=X10.keep _ _ hv9 (nD nk9);have E10:EnvR X.K H10 ((io++k1)++(((k5++k8)++k9)++k10)) M8 U6:=by have:=E9.ext S9' X10;rw[Av] at this;exact this
       have R10v:Reps X.K H10 ((io++k1)++(((k5++k8)++k9)++k10)) (vs++[v10]) (ac++[x10]):=by have a:=R9v.ext S9' X10;rw[Av] at a;rw[Av] at R10;exact a.append (Reps.cons R10 Reps.nil)
       have hlen:vs.length < sizeLine:=by rw[R9v.length];have:=of_decide_eq_true hfit;rw[exs] at this;simp at this;omega
       refine thn (zh6 _ s10 M8 H10 (.ref Dd) [v10] (.ref Dd) [u10] (fun _ H11=>H11=upd H10 Dd (.lst (vs++[v10]))) I10 rfl (.cons r10 .nil) ⟨Dd,vs,v10,rfl,rfl,hv10,hlen,rfl⟩) ?_;rintro _ s11 ⟨_,H11,I11,_,e11'⟩;subst e11';have nD10:=nD nk10
       -- the new list is written: nothing of the store
       have XU:∀ b o,H10 b=some o->b≠Dd->upd H10 Dd (.lst (vs++[v10])) b=some o:=fun b o hb hn=>by rw[zaV hn];exact hb
       have TU:Kp H10 (upd H10 Dd (.lst (vs++[v10]))):=⟨fun a ys hb=>XU a _ hb (zsX hb hv10 (by simp)),fun a o u hb=>XU a _ hb (zsX hb hv10 (by simp))⟩
       have S11:StR X.K (upd H10 Dd (.lst (vs++[v10]))) ((io++k1)++(((k5++k8)++k9)++k10)) t10:=by refine⟨S10'.len,S10'.nd,fun n a ob h1 h2=>?_⟩;have hne:a≠Dd:=fun z=>nD10 (by rw[<-z];exact AW h1);have:=OR.mono (ka:=[]) TU (zaV hne) (S10'.ob n a ob h1 h2);rw[As] at this;exact this
       have mono0:∀ {v:V} {d:D},Rep X.K H10 ((io++k1)++(((k5++k8)++k9)++k10)) v d->Rep X.K (upd H10 Dd (.lst (vs++[v10]))) ((io++k1)++(((k5++k8)++k9)++k10)) v d:=fun {v d} h=>by have:=Rep.mono (ka:=[]) TU h;rw[As] at this;exact this
       have mono1:∀ {v:List V} {d:List D},Reps X.K H10 ((io++k1)++(((k5++k8)++k9)++k10)) v d->Reps X.K (upd H10 Dd (.lst (vs++[v10]))) ((io++k1)++(((k5++k8)++k9)++k10)) v d:=fun {v d} h=>by have:=Reps.mono (ka:=[]) TU h;rw[As] at this;exact this
       obtain⟨Ib,tnb,frb⟩:=back I11;refine⟨W.ds.length - (i+1),by omega,i+1,M8,upd H10 Dd (.lst (vs++[v10])),U6,t10,((k5++k8)++k9)++k10,ac++[x10],rs',rfl,Ib,tnb,frb,⟨fun b o hb nb=>XU b o (X310.keep b o hb nb) (fun z=>by rw[z,hD] at hb;cases hb),X310.fresh,fun b o u hb=>XU b _ (X310.frz b o u hb) (fun z=>by rw[z,hD] at hb;cases hb)⟩,nk10,S11,⟨E10.len,fun j dj hj=>?_⟩,⟨_,zbP,mono1 R10v⟩,e11,by rw[exs,Av];rfl⟩;obtain⟨v,q,r⟩:=E10.at_ j dj hj;exact⟨v,q,mono0 r⟩
 have l4:=loop s4 I4 tn4;exact codeAny_compStart_list l4 (T.self _ 0 _ _ _ tn4 l4)
def zcE(hx:X.xe=FF)(hc:X.calm=true)(Z:CompS X scope N' nt fr)(hi:SI X tg iter mi)
   (hg:∀ C s0 H0 fp,SG (zdT X scope N' (zdU X scope C) C s0 H0 fp) tg g) (ht:∀ C s0 H0 fp,SC (zdT X scope N' (zdU X scope C) C s0 H0 fp) ifs c) (he:∀ C s0 H0 fp,SE (zdT X scope N' (zdU X scope C) C s0 H0 fp) elt m)
   (hs:∀ x,foldedSetIterable iter X.env x=pure x:=by intro _;rfl):SE X (.ListComp elt [⟨tg,iter,ifs,0⟩] scope pos) (zdR mi nt fr g c m):=by
 rintro pins s M H Q I ⟨U,st,io,d,st',E,S,e,k⟩;rw[eval_ListComp];refine zkG (use:=none) hx hc Z hi hg ht he hs I E S e fun Dd C H5 s6 R=>?_;obtain⟨m5,hn⟩:=R.ns;refine⟨m5,hn,fun h' hsb=>?_⟩;obtain⟨ka,X5,S5,R5⟩:=R.val;exact⟨.ref Dd,H5,R.inv.turned (t':=s6.toks) (it:=C) (fun b o hb q=>(hsb.2 b hb).trans q) R.free R.ne (.inr R.young) R.cells R.pin,rfl,k _ _ ka X5 S5 R5⟩
def ziy{i:Nat}{x:Str}{spos:Pos}(hx:X.xe=FF)(hc:X.calm=true)(Z:CompS X scope N' nt fr)(hi:SI X tg iter mi)
   (hg:∀ C s0 H0 fp,SG (zdT X scope N' (zdU X scope C) C s0 H0 fp) tg g) (ht:∀ C s0 H0 fp,SC (zdT X scope N' (zdU X scope C) C s0 H0 fp) ifs c) (he:∀ C s0 H0 fp,SE (zdT X scope N' (zdU X scope C) C s0 H0 fp) elt m)
   (hN:X.N.Nodup) (hi':X.N[i]?=some x) (hl:X.env.scope.names.lookup x=some .local)
   (hsw:swapsWith (.ListComp elt [⟨tg,iter,ifs,0⟩] scope pos) (some<|.Name x pos') spos.line X.env=pure true:=by rfl)
   (hs:∀ x,foldedSetIterable iter X.env x=pure x:=by intro _;rfl):SS X (.Assign [.Name x pos'] (.ListComp elt [⟨tg,iter,ifs,0⟩] scope pos) spos) (mAsg (zdR mi nt fr g c m)<|gNm i):=by
 intro pins s M H N I h;obtain⟨U,st,io,f,st',E,S,e,w⟩:=zd0.mp h;obtain⟨⟨d,s1⟩,e1,e⟩:=zae e;obtain⟨⟨U',s2⟩,e2,e⟩:=zaj e;cases e;cases e2;rw[exec_Assign_Name_used _ _ _ _ hsw];refine Aa<|Eu<|Aa ?_;show wpAny _ X.A (do let _ <-comprehension (.ListComp elt [⟨tg,iter,ifs,0⟩] scope pos) scope X.env _ (newList []) false (eval iter X.env) (some<|assign (.Name x pos') X.env)) _ _ s;refine Aa<|thn (zkG (use:=some (assign (.Name x pos') X.env)) (Qf:=fun _ s'=>SP X pins N .next s') hx hc Z hi hg ht he hs I E S e1 fun Dd C H5 s6 R=>?_) fun _ s' hq=>Ab (Ab hq);obtain⟨m5,hn⟩:=R.ns;obtain⟨ka,X5,S5,R5⟩:=R.val;show wpAny _ _ (assign (.Name x pos') X.env<|.ref Dd) _ _ _;refine GH<|zhO (v:=.ref Dd) R.inv hN hi' (.inl hl) rfl (?_)<|.inr hl;rintro s7 I7 ⟨a,sb,ha⟩;have hCa:C≠a:=fun z=>by
   rcases ha with q | q
   . exact R.ne<|z.trans q
   exact R.cells _ _ q z.symm
 refine⟨m5,hn.sameBut sb hCa,fun h' hsb=>?_⟩;refine⟨_,H5,I7.turned (t':=s7.toks) (it:=C) (fun b o hb q=>(hsb.2 b hb).trans q) R.free R.ne (.inr R.young) R.cells R.pin,?_⟩;exact w _ _ ka X5 S5<|(E.ext S X5).set i R5
end
variable {v:V}
def addD:G2
 | .int i,.int j,st=>some (.int (i+j),st)
 | .str a,.str b,st=>if fits (a.length+b.length)=true then some (.str (a++b),st) else none
 | .tup a,.tup b,st=>if (!a.isEmpty&&fits (a.length+b.length))=true then some (.tup (a++b),st) else none
 | .ref a,.ref b,st=>match st[a]?,st[b]? with
   | some (.lst x),some (.lst y)=>if fits (x.length+y.length)=true then some (.ref st.length,st++[.lst (x++y)]) else none
   | _,_=>none
 | _,_,_=>none
def zbj:OpM X (binaryOp .Add) addD:=by
 rintro pins s M H x y v u Q I rx ry ⟨dx,dy,st,io,d,st',Rx,Ry,S,e,k⟩
 cases dx with
 | int i =>
   cases dy with
   | int j=>cases e;exact zsV pins s M H x y v u Q I rx ry ⟨i,j,Rx,Ry,k.now S rfl⟩
   | _=>cases e
 | str i =>
   cases dy with
   | str j =>
     obtain⟨hf,e⟩:=zau e
     cases e;exact zjI pins s M H x y v u Q I rx ry ⟨i,j,Rx,Ry,of_decide_eq_true hf,k.now S rfl⟩
   | _=>cases e
 | tup i =>
   cases dy with
   | tup j =>
     obtain⟨hf,e⟩:=zau e;cases e;rw[An] at hf;obtain⟨p,xs,ex,hp,r1⟩:=Rx;obtain⟨q,ys,ey,hq,r2⟩:=Ry;refine zqP pins s M H x y v u Q I rx ry ⟨p,q,xs,ys,ex,ey,SqT.of hp,SqT.of hq,fun z=>?_,by rw[r1.length,r2.length];exact of_decide_eq_true hf.2,fun z=>?_,fun z p hp=>k.tup S (r1.append r2) hp⟩
     . have:=r1.length;rw[z] at this;have:i=[]:=B4 this.symm;rw[this] at hf;exact absurd hf.1<|by decide
     have:=r2.length;rw[z] at this;have:j=[]:=B4 this.symm;subst this;rw[As] at k;exact k.now S ⟨p,xs,rfl,hp,r1⟩
   | _=>cases e
 | ref i =>
   cases dy with
   | ref j =>
     unfold addD at e;dsimp only at e
     split at e
     . rename_i l1 l2 e1 e2;obtain⟨hf,e⟩:=zau e;cases e;obtain⟨p,ex,hp⟩:=Rx;obtain⟨q,ey,hq⟩:=Ry;obtain⟨xs,h1,r1⟩:=S.ob i p _ hp e1;obtain⟨ys,h2,r2⟩:=S.ob j q _ hq e2;exact zsU pins s M H x y v u Q I rx ry ⟨p,q,xs,ys,ex,ey,h1,h2,by rw[r1.length,r2.length];exact of_decide_eq_true hf,fun p hp=>k.lst S (r1.append r2) hp⟩
     . cases e
   | _=>cases e
 | _=>cases e
def intD(c:Int->Int->Bool)(g:Int->Int->D):G2
 | .int i,.int j,st=>if c i j=true then some (g i j,st) else none
 | _,_,_=>none
def zgq{f:Value->Value->Sem Value}{C:Int->Int->Prop}{c:Int->Int->Bool}{g:Int->Int->Int}(h:OpR X f (rI C fun i j=>.int (g i j)))(hc:∀ i j,c i j=true->C i j):OpM X f (intD c fun i j=>.int (g i j)):=by
 rintro pins s M H x y v u Q I rx ry ⟨dx,dy,st,io,d,st',Rx,Ry,S,e,k⟩
 cases dx with
 | int i =>
   cases dy with
   | int j =>
     obtain⟨hf,e⟩:=zau e
     cases e;exact h pins s M H x y v u Q I rx ry ⟨i,j,Rx,Ry,hc i j hf,k.now S rfl⟩
   | _=>cases e
 | _=>cases e
def tt2:Int->Int->Bool:=fun _ _=>true
def subD:G2:=intD tt2 fun i j=>.int<|i - j
def zej:OpM X (binaryOp .Sub) subD:=zgq (C:=fun _ _=>True) (fun pins s M H x y v u Q I rx ry ⟨i,j,h1,h2,_,q⟩=>zsL pins s M H x y v u Q I rx ry ⟨i,j,h1,h2,q⟩) fun _ _ _=>trivial
def in64(i:Int):Bool:=decide (-(2 ^ 64) < i)&&decide (i < 2 ^ 64)
def mulD:G2:=intD (fun i j=>in64 i || in64 j) fun i j=>.int<|i*j
def zqI:OpM X (binaryOp .Mult) mulD:=zgq zsM fun i j h=>by
 rw[Dh] at h;unfold in64 at h;rw[An,An] at h
 rcases h with h | h
 . exact .inl ⟨of_decide_eq_true h.1,of_decide_eq_true h.2⟩
 exact .inr ⟨of_decide_eq_true h.1,of_decide_eq_true h.2⟩
def modD:G2:=intD (fun _ j=>decide (0 < j)) fun i j=>.int<|i % j
def zgp:OpM X (binaryOp .Mod) modD:=zgq zsN fun i j h=>of_decide_eq_true h
def cmpD(g:Int->Int->Bool):G2
 | .int i,.int j,st=>some (.bl (g i j),st)
 | _,_,_=>none
def zh4{f:Value->Value->Sem Value}{g:Int->Int->Bool}(h:OpR X f (rI0 fun i j=>.bl (g i j))):OpM X f (cmpD g):=by
 rintro pins s M H x y v u Q I rx ry ⟨dx,dy,st,io,d,st',Rx,Ry,S,e,k⟩
 cases dx with
 | int i =>
   cases dy with
   | int j=>cases e;exact h pins s M H x y v u Q I rx ry ⟨i,j,Rx,Ry,k.now S rfl⟩
   | _=>cases e
 | _=>cases e
def ltD:G2:=cmpD fun i j=>decide (i < j)
def leD:G2:=cmpD fun i j=>decide (i<=j)
def gtD:G2:=cmpD fun i j=>decide (j < i)
def geD:G2:=cmpD fun i j=>decide (j<=i)
def ziF:OpM X (compareOp .Lt) ltD:=zh4 zuc
def zhk:OpM X (compareOp .LtE) leD:=zh4 zud
def ziG:OpM X (compareOp .Gt) gtD:=zh4 zue
def zsS:OpM X (compareOp .GtE) geD:=zh4 zuf
def zre:D->Bool
 | .non=>true
 | _=>false
def isND:G2:=fun x y st=>match y with
 | .non=>some (.bl (zre x),st)
 | _=>none
def zqj(h:Rep K H io v d):decide (v=.non)=zre d:=by
 cases d with
 | non=>cases (show v=.non from h);rfl
 | bl b=>cases (show v=.bl b from h);rfl
 | int b=>cases (show v=.int b from h);rfl
 | str b=>cases (show v=.str b from h);rfl
 | tup b=>obtain⟨a,xs,rfl,_⟩:=h;rfl
 | ref b=>obtain⟨a,rfl,_⟩:=h;rfl
 | kl b=>obtain⟨a,xs,rfl,_⟩:=h;rfl
 | fn b=>obtain⟨a,rfl,_⟩:=h;rfl
def zqL:OpM X (compareOp .Is) isND:=by
 rintro pins s M H x y v u Q I rx ry ⟨dx,dy,st,io,d,st',Rx,Ry,S,e,k⟩
 cases dy with
 | non =>
   cases e;refine zsQ pins s M H x y v u Q I rx ry ⟨Ry,?_⟩;rw[zqj Rx];exact k.now S rfl
 | _=>cases e
def negD:D->Sto->Option (D×Sto)
 | .int i,st=>some (.int (-i),st)
 | _,_=>none
def mNeg(m:ME):ME:=fun U st=>(m U st).bind fun (x,s)=>negD x s
def zfP(ha:SE X a ma):SE X (.UnaryOp .USub a pos) (mNeg ma):=PE.imp (zt6 zrR ha) <| by
 rintro M H Q ⟨U,st,io,d,st',E,S,e,k⟩;obtain⟨⟨x,s1⟩,e1,e⟩:=zae e
 cases x with
 | int i =>
   cases e;exact⟨U,st,io,.int i,_,E,S,e1,fun v H1 k1 X1 S1 R1=>⟨i,R1,k _ H1 k1 X1 S1 rfl⟩⟩
 | _=>cases e
def idxD:G2
 | .tup ds,.int i,st=>(atI ds i).map fun d=>(d,st)
 | .ref n,.int i,st=>(zbY st n).bind fun ds=>(atI ds i).map fun d=>(d,st)
 | .kl ds,.int i,st=>(atI ds i).map fun d=>(d,st)
 | .str z,.int i,st=>if fits z.length=true then (atI z.cps.toList i).map fun c=>(.str ⟨#[c]⟩,st) else none
 | _,_,_=>none
def zkR{i:Int}(r:Reps K H io xs ds)(h:atI ds i=some d):∃ v,atI xs i=some v/\Rep K H io v d:=by unfold atI at h ⊢;rw[r.length];obtain⟨j,hj,h⟩:=zae h;obtain⟨v,hv,rv⟩:=r.get h;exact⟨v,by rw[hj];exact hv,rv⟩
def ix_M:IxR X (r2M X.K idxD):=by
 rintro value slice pins s M H x y v u Q I rx ry ⟨dx,dy,st,io,d,st',Rx,Ry,S,e,k⟩ hs
 cases dy with
 | int i =>
   cases dx with
   | tup ds =>
     obtain⟨d',e1,e⟩:=zaj e;cases e;obtain⟨p,xs,ex,hp,r⟩:=Rx;obtain⟨w,hw,rw'⟩:=zkR r e1;exact zbs value slice pins s M H x y v u Q I rx ry ⟨p,xs,i,w,ex,Ry,SqT.of hp,hw,k.now S rw'⟩ hs
   | ref n =>
     obtain⟨ds,e0,e⟩:=zae e;obtain⟨d',e1,e⟩:=zaj e;cases e;obtain⟨p,ex,hp⟩:=Rx;obtain⟨xs,hx,r⟩:=zbq S hp e0;obtain⟨w,hw,rw'⟩:=zkR r e1;exact zmW value slice pins s M H x y v u Q I rx ry ⟨p,xs,i,w,ex,Ry,hx,hw,k.now S rw'⟩ hs
   | kl ds =>
     obtain⟨d',e1,e⟩:=zaj e;cases e;obtain⟨p,xs,ex,hx,r⟩:=Rx;obtain⟨w,hw,rw'⟩:=zkR r e1;exact zmW value slice pins s M H x y v u Q I rx ry ⟨p,xs,i,w,ex,Ry,hx.sq,hw,k.now S rw'⟩ hs
   | str z =>
     obtain⟨hf,e⟩:=zau e;obtain⟨d',e1,e⟩:=zaj e;cases e;exact zlY value slice pins s M H x y v u Q I rx ry ⟨z,i,d',Rx,Ry,of_decide_eq_true hf,e1,k.now S rfl⟩ hs
   | _=>cases e
 | _=>cases dx <;> cases e
def zt0(ha:SE X a ma)(hb:SE X b mb)(hs:zkW b:=by intro _ _;rfl):SE X (.Subscript a b pos) (mBin idxD ma mb):=PE.imp (zt9 ix_M ha hb hs) fun _ _ _ h=>zeJ h
def lenD:GN
 | [.tup ds],st=>some (.int ds.length,st)
 | [.ref n],st=>(zbY st n).map fun ds=>(.int ds.length,st)
 | [.kl ds],st=>some (.int ds.length,st)
 | [.str z],st=>if fits z.length=true then some (.int z.length,st) else none
 | _,_=>none
def zaZ:zed X (.builtin "len") lenD:=by
 rintro pins s M H xs us Q I r ⟨ds,st,io,d,st',R,S,e,k⟩
 cases ds with
 | nil=>cases e
 | cons d0 r0 =>
 cases r0 with
 | cons d1 r1=>cases d0 <;> cases e
 | nil =>
 cases d0 with
 | tup ts =>
   cases e;obtain⟨v,rfl,p,ys,rfl,hp,r1⟩:=R.one;refine zdI pins s M H _ us Q I r ⟨p,ys,rfl,.inr<|SqT.of hp,?_⟩;rw[r1.length];exact k.now S rfl
 | ref n =>
   obtain⟨ts,e0,e⟩:=zaj e;cases e;obtain⟨v,rfl,p,rfl,hp⟩:=R.one;obtain⟨ys,hx,r1⟩:=zbq S hp e0;refine zdI pins s M H _ us Q I r ⟨p,ys,rfl,.inl hx,?_⟩;rw[r1.length];exact k.now S rfl
 | kl ts =>
   cases e;obtain⟨v,rfl,p,ys,rfl,hx,r1⟩:=R.one;refine zdI pins s M H _ us Q I r ⟨p,ys,rfl,.inl hx.sq,?_⟩;rw[r1.length];exact k.now S rfl
 | str z =>
   obtain⟨hf,e⟩:=zau e;cases e;obtain⟨v,rfl,rfl⟩:=R.one;exact zhC pins s M H _ us Q I r ⟨z,rfl,of_decide_eq_true hf,k.now S rfl⟩
 | _=>cases e
def intC:GN
 | [.int i],st=>some (.int i,st)
 | [.bl b],st=>some (.int (if b then 1 else 0),st)
 | _,_=>none
def zf9:zed X (.type "int") intC:=by
 rintro pins s M H xs us Q I r ⟨ds,st,io,d,st',R,S,e,k⟩
 cases ds with
 | nil=>cases e
 | cons d0 r0 =>
 cases r0 with
 | cons d1 r1=>cases d0 <;> cases e
 | nil =>
 cases d0 with
 | int i =>
   cases e;obtain⟨v,rfl,rfl⟩:=R.one;exact zii pins s M H _ us Q I r<|.inl ⟨i,rfl,k.now S rfl⟩
 | bl b =>
   cases e;obtain⟨v,rfl,rfl⟩:=R.one;exact zii pins s M H _ us Q I r<|.inr ⟨b,rfl,k.now S rfl⟩
 | _=>cases e
def absC:GN
 | [.int i],st=>some (.int (if i < 0 then -i else i),st)
 | _,_=>none
def zmk:zed X (.builtin "abs") absC:=by
 rintro pins s M H xs us Q I r ⟨ds,st,io,d,st',R,S,e,k⟩
 cases ds with
 | nil=>cases e
 | cons d0 r0 =>
 cases r0 with
 | cons d1 r1=>cases d0 <;> cases e
 | nil =>
 cases d0 with
 | int i =>
   cases e;obtain⟨v,rfl,rfl⟩:=R.one;exact zo6 pins s M H _ us Q I r ⟨i,rfl,k.now S rfl⟩
 | _=>cases e
def zq3:GN
 | [.int i,.int j],st=>some (.int (if j > i then j else i),st)
 | _,_=>none
def zq2:GN
 | [.int i,.int j],st=>some (.int (if j < i then j else i),st)
 | _,_=>none
def zmi(hc:X.calm=true):zed X (.builtin "max") zq3:=by
 rintro pins s M H xs us Q I r ⟨ds,st,io,d,st',R,S,e,k⟩;unfold zq3 at e
 split at e
 . rename_i i j;cases e;obtain⟨v,u,rfl,rfl,rfl⟩:=R.two;exact zmj hc pins s M H _ us Q I r ⟨i,j,rfl,k.now S rfl⟩
 . cases e
def zmg(hc:X.calm=true):zed X (.builtin "min") zq2:=by
 rintro pins s M H xs us Q I r ⟨ds,st,io,d,st',R,S,e,k⟩;unfold zq2 at e
 split at e
 . rename_i i j;cases e;obtain⟨v,u,rfl,rfl,rfl⟩:=R.two;exact zmh hc pins s M H _ us Q I r ⟨i,j,rfl,k.now S rfl⟩
 . cases e
def zs2:GN
 | [.tup ds],st=>if fits ds.length=true then some (.ref st.length,st++[.lst ds]) else none
 | [.ref n],st=>(zbY st n).bind fun ds=>if fits ds.length=true then some (.ref st.length,st++[.lst ds]) else none
 | [.kl ds],st=>if fits ds.length=true then some (.ref st.length,st++[.lst ds]) else none
 | _,_=>none
def zkN:zed X (.type "list") zs2:=by
 rintro pins s M H xs us Q I r ⟨ds,st,io,d,st',R,S,e,k⟩
 cases ds with
 | nil=>cases e
 | cons d0 r0 =>
 cases r0 with
 | cons d1 r1=>cases d0 <;> cases e
 | nil =>
 cases d0 with
 | tup ts =>
   obtain⟨hf,e⟩:=zau e;cases e;obtain⟨v,rfl,p,ys,rfl,hp,r1⟩:=R.one;exact zdH pins s M H _ us Q I r ⟨p,ys,rfl,.inr<|SqT.of hp,fun l hl=>k.lst S r1 hl⟩
 | ref n =>
   obtain⟨ts,e0,e⟩:=zae e;obtain⟨hf,e⟩:=zau e;cases e;obtain⟨v,rfl,p,rfl,hp⟩:=R.one;obtain⟨ys,hx,r1⟩:=zbq S hp e0;exact zdH pins s M H _ us Q I r ⟨p,ys,rfl,.inl hx,fun l hl=>k.lst S r1 hl⟩
 | kl ts =>
   obtain⟨hf,e⟩:=zau e;cases e;obtain⟨v,rfl,p,ys,rfl,hx,r1⟩:=R.one;exact zdH pins s M H _ us Q I r ⟨p,ys,rfl,.inl hx.sq,fun l hl=>k.lst S r1 hl⟩
 | _=>cases e
def zfH:GN
 | [.tup ds],st=>some (.tup ds,st)
 | [.ref n],st=>(zbY st n).map fun ds=>(.tup ds,st)
 | _,_=>none
def zds:zed X (.type "tuple") zfH:=by
 rintro pins s M H xs us Q I r ⟨ds,st,io,d,st',R,S,e,k⟩
 cases ds with
 | nil=>cases e
 | cons d0 r0 =>
 cases r0 with
 | cons d1 r1=>cases d0 <;> cases e
 | nil =>
 cases d0 with
 | tup ts =>
   cases e;obtain⟨v,rfl,p,ys,rfl,hp,r1⟩:=R.one;exact zep pins s M H _ us Q I r ⟨p,ys,rfl,.inr ⟨SqT.of hp,k.now S ⟨p,ys,rfl,hp,r1⟩⟩⟩
 | ref n =>
   obtain⟨ts,e0,e⟩:=zaj e;cases e;obtain⟨v,rfl,p,rfl,hp⟩:=R.one;obtain⟨ys,hx,r1⟩:=zbq S hp e0;exact zep pins s M H _ us Q I r ⟨p,ys,rfl,.inl ⟨hx,fun l hl=>k.tup S r1 hl⟩⟩
 | _=>cases e
def toPs(f:D->Option PyData):List D->Option (List PyData)
 | []=>some []
 | d::ds=>(f d).bind fun p=>(toPs f ds).map fun ps=>p::ps
def toP:Nat->Sto->D->Option PyData
 | 0,_,_=>none
 | n+1,st,d=>match d with
   | .non=>some .none
   | .bl b=>some<|.bool b
   | .int i=>some<|.int i
   | .str x=>if AK x=true then some (.str x) else none
   | .tup ds=>(toPs (toP n st) ds).map .tuple
   | .ref k=>(zbY st k).bind fun ds=>(toPs (toP n st) ds).map .list
   | .kl _=>none
   | .fn _=>none
def zd9{n:Nat}:∀ {ps:List PyData},(∀ p∈ps,p.depth<=n)->Fs ps<=n
 | [],_=>by rw[Fs];exact AY _
 | p::ps,h=>by rw[Fs];exact Nat.max_le.mpr ⟨h p Aj,zd9 fun q hq=>h q (Ah _ hq)⟩
def zfb{ps:List PyData}:(∀ p∈ps,p.canLay0=true)->CU ps=true:=by
 induction ps with
 | nil=>intro _;simp only[CU]
 | cons p ps ih =>
   intro h;simp only[CU];rw[h p Aj,ih fun q hq=>h q (Ah _ hq)];rfl
def zg7{f:D->Option PyData}:∀ {ds:List D} {ps:List PyData},toPs f ds=some ps->∀ p∈ps,∃ d,f d=some p
 | [],ps,h,p,hp=>by cases h;exact absurd hp<|by simp
 | d::ds,ps,h,p,hp=>by
   obtain⟨q,e1,h⟩:=zae h;obtain⟨qs,e2,h⟩:=zaj h;subst h
   rcases List.mem_cons.mp hp with rfl | hp
   . exact⟨d,e1⟩
   exact zg7 e2 p hp
def zfj:∀ {n:Nat} {st:Sto} {d:D} {p:PyData},toP n st d=some p->p.canLay0=true/\p.depth<=n
 | 0,_,_,_,h=>by cases h
 | n+1,st,d,p,h=>by
   cases d with
   | non=>cases h;exact⟨by simp only[Ca],by simp only[Dp];exact AY _⟩
   | bl b=>cases h;exact⟨by simp only[Ca],by simp only[Dp];exact AY _⟩
   | int b=>cases h;exact⟨by simp only[Ca],by simp only[Dp];exact AY _⟩
   | str b =>
     obtain⟨hs,h⟩:=zau h
     cases h;exact⟨by simp only[Ca];exact hs,by simp only[Dp];exact AY _⟩
   | tup ds =>
     obtain⟨ps,e,h⟩:=zaj h;subst h;have q:∀ p∈ps,p.canLay0=true/\p.depth<=n:=fun p hp=>let ⟨d,hd⟩:=zg7 e p hp;zfj hd
     exact⟨by simp only[Ca];exact zfb fun p hp=>(q p hp).1,by simp only[Dp];exact DR (zd9 fun p hp=>(q p hp).2)⟩
   | kl ds=>cases h
   | fn ds=>cases h
   | ref k =>
     obtain⟨ds,e0,h⟩:=zae h;obtain⟨ps,e,h⟩:=zaj h;subst h;have q:∀ p∈ps,p.canLay0=true/\p.depth<=n:=fun p hp=>let ⟨d,hd⟩:=zg7 e p hp;zfj hd
     exact⟨by simp only[Ca];exact zfb fun p hp=>(q p hp).1,by simp only[Dp];exact DR (zd9 fun p hp=>(q p hp).2)⟩
def zd2{f:D->Option PyData}(hf:∀ {v:V} {u:Value} {d:D} {p:PyData},Rep X.K H io v d->RelV v u->f d=some p->∃ as,Reads s.heap u p as) :
   ∀ {xs:List V} {us:List Value} {ds:List D} {ps:List PyData},Reps X.K H io xs ds->Vals xs us->toPs f ds=some ps->∃ as,ReadsAll s.heap us ps as
 | _,_,[],ps,h,r,e=>by
   cases (show _=[] from h)
   cases r;cases e;exact⟨_,.nil⟩
 | _,_,d::ds,ps,h,r,e=>by
   obtain⟨y,ys,rfl,h1,h2⟩:=h
   cases r with
   | cons r1 r2 =>
     obtain⟨q,e1,e⟩:=zae e;obtain⟨qs,e2,e⟩:=zaj e;subst e;obtain⟨as,ra⟩:=hf h1 r1 e1;obtain⟨bs,rb⟩:=zd2 hf h2 r2 e2;exact⟨_,.cons ra rb⟩
def zcU(I:Inv X pins M H s)(S:StR X.K H io st):∀ {n:Nat} {v:V} {u:Value} {d:D} {p:PyData},Rep X.K H io v d->RelV v u->toP n st d=some p->∃ as,Reads s.heap u p as
 | 0,_,_,_,_,_,_,h=>by cases h
 | n+1,v,u,d,p,h,r,e=>by
   cases d with
   | non=>cases e;cases (show v=.non from h);cases r;exact⟨_,.none⟩
   | bl b=>cases e;cases (show v=.bl b from h);cases r;exact⟨_,.bool _⟩
   | int b=>cases e;cases (show v=.int b from h);obtain⟨t,rfl⟩:=r;exact⟨_,.int _ _⟩
   | str b =>
     obtain⟨hs,e⟩:=zau e
     cases e;cases (show v=.str b from h);obtain⟨t,rfl⟩:=r;exact⟨_,.str _ _⟩
   | tup ds =>
     obtain⟨ps,e',q⟩:=zaj e;subst q;obtain⟨a,xs,rfl,ha,rs⟩:=h;cases r;obtain⟨its,rv,⟨o,ho,hc,k,hd⟩,hz⟩:=I.tuple<|SqT.of ha;obtain⟨as,ra⟩:=zd2 (f:=toP n st) (fun h r e=>zcU I S h r e) rs rv e';exact⟨_,.tuple ho hc hd<|by simpa using ra⟩
   | kl ds=>cases e
   | fn ds=>cases e
   | ref k =>
     obtain⟨ds,e0,e⟩:=zae e;obtain⟨ps,e',q⟩:=zaj e;subst q;obtain⟨a,rfl,ha⟩:=h;cases r;obtain⟨xs,hx,rs⟩:=zbq S ha e0;obtain⟨its,rv,⟨o,k,ho,hc,_,hd⟩,hz⟩:=I.list hx;obtain⟨as,ra⟩:=zd2 (f:=toP n st) (fun h r e=>zcU I S h r e) rs rv e';exact⟨_,.list ho hc hd<|by simpa using ra⟩
def eqD:G2:=fun x y st=>(toP 100 st x).bind fun p=>(toP 100 st y).map fun q=>(.bl (Bm p q),st)
def neD:G2:=fun x y st=>(toP 100 st x).bind fun p=>(toP 100 st y).map fun q=>(.bl !PyData.eqv p q,st)
def zdE(hu:X.A.units+100 < cLine):OpM X (compareOp .Eq) eqD:=by rintro pins s M H x y v u Q I rx ry ⟨dx,dy,st,io,d,st',Rx,Ry,S,e,k⟩;obtain⟨p,e1,e⟩:=zae e;obtain⟨q,e2,e⟩:=zaj e;cases e;obtain⟨as,ra⟩:=zcU I S Rx rx e1;obtain⟨bs,rb⟩:=zcU I S Ry ry e2;have h1:=zfj e1;have h2:=zfj e2;exact PySem.SeqAt.compareEq_reads ra rb h1.1 h2.1 (Cj (Eb (AR (Hf _ _) h1.2) _) hu) ⟨.bl _,H,I,rfl,k.now S rfl⟩
def ze0(hu:X.A.units+100 < cLine):OpM X (compareOp .NotEq) neD:=by rintro pins s M H x y v u Q I rx ry ⟨dx,dy,st,io,d,st',Rx,Ry,S,e,k⟩;obtain⟨p,e1,e⟩:=zae e;obtain⟨q,e2,e⟩:=zaj e;cases e;obtain⟨as,ra⟩:=zcU I S Rx rx e1;obtain⟨bs,rb⟩:=zcU I S Ry ry e2;have h1:=zfj e1;have h2:=zfj e2;exact PySem.SeqAt.compareNe_reads ra rb h1.1 h2.1 (Cj (Eb (AR (Hf _ _) h1.2) _) hu) ⟨.bl _,H,I,rfl,k.now S rfl⟩
def za4(hr:Room k A):A.units+100 < cLine:=by have:=hr.un;omega
variable {t':Nat}
section
variable {h':Heap}
def Inv.turnNew{fp:List Addr}{o:HO}(I:Inv X pins M H s)(hf:∀ b∈fp,FpOk X pins H b)(k:∀ b ob,b ∉ fp->s.heap.get? b=some ob->h'.get? b=some ob)(hp:s.heap.objs.size<=p)
   (hfp:∀ b∈fp,∀ ob,s.heap.get? b=some ob->∃ ob',h'.get? b=some ob') (new:zdN X.prog X.w (upd H p o) h' p o):Inv X pins M (upd H p o) { s with heap:=h',toks:=t' }:=by
 have hpn:=I.hok.fresh hp;have nlt:∀ b ob,s.heap.get? b=some ob->b≠p:=fun b ob e=>Ap<|Ay (Am e) hp;refine Inv.step (ch:=fp) (g':=s.gens) (d':=s.drawn) I (fun b hb=>⟨(hf b hb).2.2.2.1,(hf b hb).2.1,(hf b hb).2.2.2.2.1,(hf b hb).2.2.2.2.2⟩) (fun b ob _ _ hc e _=>k b ob hc e) (fun b ob _ _ hc e _=>⟨ob.slots,k b ob hc e⟩)
   (fun b ob hc e n=>by rw[zaV (nlt b ob e)];exact n) (fun b ob hc e=>⟨ob,k b ob hc e⟩) (fun b xs e=>by rw[zaV (zaF e hpn)];exact e) (fun b ob u e=>by rw[zaV (zaF e hpn)];exact e)
   (fun b ps e=>⟨#[],by rw[zaV (zaF e hpn),e];simp⟩) (fun m hm=>?_) (fun b u e=>?_) I.bare
 . obtain⟨ob,es,ep,ho,r⟩:=hm;exact⟨ob,es,ep,k _ ob (fun z=>(hf _ z).2.1 rfl) ho,r⟩
 . by_cases hb:b=p
   . subst hb;rw[zbP] at e;cases e;exact new
   . rw[zaV hb] at e;refine (I.hok b u e).stay (fun c v hc q=>k c v (fun z=>?_) q) (fun c q=>by rw[zaV (zaF q hpn)];exact q) fun c xs q=>by rw[zaV (zaF q hpn)];exact q
     have hz:=(hf c z).1
     rcases hc with rfl | hc
     . rw[hz] at e;cases e
     rw[hz] at hc;cases hc
def Inv.turnAll{fp:List Addr}(I:Inv X pins M H s)(hf:∀ b∈fp,FpOk X pins H b)(k:∀ b ob,b ∉ fp->s.heap.get? b=some ob->h'.get? b=some ob):Inv X pins M H { s with heap:=h',toks:=t' }:=by
 refine Inv.step (ch:=fp) (g':=s.gens) (d':=s.drawn) I (fun b hb=>⟨(hf b hb).2.2.2.1,(hf b hb).2.1,(hf b hb).2.2.2.2.1,(hf b hb).2.2.2.2.2⟩) (fun b ob _ _ hc e _=>k b ob hc e) (fun b ob _ _ hc e _=>⟨ob.slots,k b ob hc e⟩)
   (fun b ob hc e n=>n) (fun b ob hc e=>⟨ob,k b ob hc e⟩) (fun b xs e=>e) (fun b ob u e=>e)
   (fun b ps e=>⟨#[],by rw[e];simp⟩) (fun m hm=>?_) (fun b u e=>?_) I.bare
 . obtain⟨ob,es,ep,ho,r⟩:=hm;exact⟨ob,es,ep,k _ ob (fun z=>(hf _ z).2.1 rfl) ho,r⟩
 . refine (I.hok b u e).stay (fun c v hc q=>k c v (fun z=>?_) q) (fun c q=>q) fun c xs q=>q;have hz:=(hf c z).1
   rcases hc with rfl | hc
   . rw[hz] at e;cases e
   rw[hz] at hc;cases hc
end
section
variable {κ:Type} [DecidableEq κ]
def valD(kvs:List (κ×D))(k:κ):Option D:=(kvs.find? fun kv=>decide (kv.1=k)).map (·.2)
def putD(kvs:List (κ×D))(k:κ)(d:D):List (κ×D) :=
 if (kvs.any fun kv=>decide (kv.1=k))=true then kvs.map (fun kv=>if kv.1=k then (kv.1,d) else kv) else kvs++[(k,d)]
def KR.any{ps:List (κ×V)}{kvs:List (κ×D)}(r:KR κ K H io ps kvs)(k:κ):(ps.any fun kv=>decide (kv.1=k))=(kvs.any fun kv=>decide (kv.1=k)):=by
 induction r with
 | nil=>rfl
 | cons z t ih=>rw[CJ,CJ,ih,z.1]
def KR.length{ps:List (κ×V)}{kvs:List (κ×D)}(r:KR κ K H io ps kvs):ps.length=kvs.length:=BF r
def KR.val{ps:List (κ×V)}{kvs:List (κ×D)}(r:KR κ K H io ps kvs)(k:κ):(valD kvs k=none/\valV ps k=none)\/∃ d v,valD kvs k=some d/\valV ps k=some v/\Rep K H io v d:=by
 induction r with
 | nil=>exact .inl ⟨rfl,rfl⟩
 | @cons p q l1 l2 z t ih =>
   unfold valD valV at *;rw[Bx,Bx,z.1]
   by_cases e:q.1=k
   . rw[decide_eq_true e];exact .inr ⟨q.2,p.2,rfl,rfl,z.2⟩
   rw[decide_eq_false e];exact ih
def KR.append{ps qs:List (κ×V)}{kvs lvs:List (κ×D)}(r:KR κ K H io ps kvs)(r':KR κ K H io qs lvs):KR κ K H io (ps++qs) (kvs++lvs):=by
 induction r with
 | nil=>exact r'
 | cons z t ih=>exact .cons z ih
def KR.put{ps:List (κ×V)}{kvs:List (κ×D)}(r:KR κ K H io ps kvs)(k:κ)(rv:Rep K H io v d):KR κ K H io (putK ps k v) (putD kvs k d):=by
 unfold putK putD;rw[KR.any r k]
 by_cases e:(kvs.any fun kv=>decide (kv.1=k))=true
 . rw[if_pos e,if_pos e]
   induction r with
   | nil=>exact .nil
   | @cons p q l1 l2 z t ih =>
     rw[Ao,Ao];have hrest:KR κ K H io (l1.map fun kv=>if kv.1=k then (kv.1,v) else kv) (l2.map fun kv=>if kv.1=k then (kv.1,d) else kv):=by
       clear ih e
       induction t with
       | nil=>exact .nil
       | @cons p q l1 l2 z t ih =>
         rw[Ao,Ao];refine .cons ?_ ih;rw[z.1]
         by_cases e:q.1=k
         . rw[if_pos e,if_pos e];exact⟨rfl,rv⟩
         rw[if_neg e,if_neg e];exact z
     refine .cons ?_ hrest;rw[z.1]
     by_cases e:q.1=k
     . rw[if_pos e,if_pos e];exact⟨rfl,rv⟩
     rw[if_neg e,if_neg e];exact z
 rw[if_neg e,if_neg e];exact KR.append r<|.cons ⟨rfl,rv⟩ .nil
end
def keyOf:D->Option Key
 | .int i=>some<|.inl i
 | .str x=>some<|.inr x
 | _=>none
def keysOf:List D->Option (List Key)
 | []=>some []
 | d::ds=>(keyOf d).bind fun k=>(keysOf ds).map fun ks=>k::ks
variable {y:V}{md mk:ME}
def zeG{k:Key}(h:Rep K H io v d)(e:keyOf d=some k):v=kV k:=by
 cases d with
 | int i=>cases e;exact h
 | str i=>cases e;exact h
 | _=>cases e
def ze7:∀ {xs:List V} {ds:List D} {ks:List Key},Reps K H io xs ds->keysOf ds=some ks->xs=ks.map kV
 | _,[],ks,h,e=>by cases e;exact h
 | _,d::ds,ks,h,e=>by obtain⟨y,ys,rfl,h1,h2⟩:=h;obtain⟨k,e1,e⟩:=zae e;obtain⟨ks',e2,e⟩:=zaj e;subst e;rw[zeG h1 e1,ze7 h2 e2];rfl
def look(st:Sto)(n:Nat)(k:D):Option (Option D):=match st[n]? with
 | some (.dk kvs)=>(keyOf k).map fun q=>valD kvs q
 | some (.dt kvs)=>match k with
   | .tup ds=>(keysOf ds).map fun q=>valD kvs q
   | _=>none
 | _=>none
def zkb{k:D}{r:Option D}(S:StR K H io st)(hp:io[n]?=some p)(ry:Rep K H io y k)(h:look st n k=some r):∃ o,DGet H p y o/\((r=none/\o=none)\/∃ d v,r=some d/\o=some v/\Rep K H io v d):=by
 unfold look at h
 split at h
 . rename_i kvs e;obtain⟨q,e1,h⟩:=zaj h;subst h;obtain⟨ps,hH,r⟩:=S.ob n p _ hp e;have ey:=zeG ry e1;subst ey;refine⟨_,DGet.k hH,?_⟩
   rcases KR.val r q with ⟨h1,h2⟩ | ⟨d,v,h1,h2,h3⟩
   . exact .inl ⟨h1,h2⟩
   exact .inr ⟨d,v,h1,h2,h3⟩
 . rename_i kvs e
   split at h
   . rename_i ds;obtain⟨q,e1,h⟩:=zaj h;subst h;obtain⟨ps,hH,r⟩:=S.ob n p _ hp e;obtain⟨b,xs,rfl,hb,rs⟩:=ry;have ex:=ze7 rs e1;subst ex;refine⟨_,DGet.t hH hb,?_⟩
     rcases KR.val r q with ⟨h1,h2⟩ | ⟨d,v,h1,h2,h3⟩
     . exact .inl ⟨h1,h2⟩
     exact .inr ⟨d,v,h1,h2,h3⟩
   . cases h
 . cases h
def ztD(md mk:ME):ME:=fun U st=>(md U st).bind fun (d,s1)=>(mk U s1).bind fun (k,s2)=>match d with
 | .ref n=>(look s2 n k).bind fun r=>r.map fun v=>(v,s2)
 | _=>none
def zqd(hu:X.A.units+1 < cLine)(ho:SE X o md)(hi:SE X i mk)(hs:NoSl i:=by intro _ _;rfl):SE X (.Subscript o i pos) (ztD md mk):=PE.imp (zqC hu ho hi hs) <| by
 rintro M H Q ⟨U,st,io,d,st',E,S,e,k⟩;obtain⟨⟨x,s1⟩,e1,e⟩:=zae e;obtain⟨⟨y,s2⟩,e2,e⟩:=zae e
 cases x with
 | ref n =>
   obtain⟨r,e3,e⟩:=zae e;obtain⟨w,e4,e⟩:=zaj e;cases e;subst e4;refine⟨U,st,io,_,s1,E,S,e1,fun v1 H1 k1 X1 S1 R1=>⟨U,s1,io++k1,y,_,E.ext S X1,S1,e2,fun v2 H2 k2 X2 S2 R2=>?_⟩⟩;obtain⟨p,rfl,hp⟩:=R1;obtain⟨o,g,⟨z,_⟩ | ⟨d',v,hd,hv,rv⟩⟩:=zkb S2 (zcG hp) R2 e3
   . cases z
   . cases hd;subst hv;exact⟨p,v,rfl,g,((k.on S1 X1).on S2 X2).now S2 rv⟩
 | _=>cases e
def mDIn(neg:Bool)(mk md:ME):ME:=fun U st=>(mk U st).bind fun (k,s1)=>(md U s1).bind fun (d,s2)=>match d with
 | .ref n=>(look s2 n k).map fun r=>(.bl (if neg then !r.isSome else r.isSome),s2)
 | _=>none
def zig{neg:Bool}(h:tE K (mDIn neg mk md) M H Q):tE K mk M H fun y H1=>tE K md M H1 fun x H2=>∃ a o,x=.ref a/\DGet H2 a y o/\Q (.bl<|if neg then !o.isSome else o.isSome) H2:=by
 obtain⟨U,st,io,d,st',E,S,e,k⟩:=h;obtain⟨⟨y,s1⟩,e1,e⟩:=zae e;obtain⟨⟨x,s2⟩,e2,e⟩:=zae e
 cases x with
 | ref n =>
   obtain⟨r,e3,e⟩:=zaj e;cases e;refine⟨U,st,io,y,s1,E,S,e1,fun v1 H1 k1 X1 S1 R1=>⟨U,s1,io++k1,_,_,E.ext S X1,S1,e2,fun v2 H2 k2 X2 S2 R2=>?_⟩⟩;obtain⟨p,rfl,hp⟩:=R2;obtain⟨o,g,z⟩:=zkb S2 hp (R1.ext S1 X2) e3;have:o.isSome=r.isSome:=by
     rcases z with ⟨a,b⟩ | ⟨d',v,a,b,_⟩
     . rw[a,b];rfl
     rw[a,b];rfl
   exact⟨p,o,rfl,g,by rw[this];exact ((k.on S1 X1).on S2 X2).now S2 rfl⟩
 | _=>cases e
def zsg(hu:X.A.units+1 < cLine)(hi:SE X i mk)(ho:SE X o md)(hm:behindInMarks .In o=false:=by rfl):SE X (.Compare i [.In] [o] pos) (mDIn false mk md):=PE.imp (zsH (zsK hu hi ho) hm) fun M H Q h=>zig h
variable {lo hi:Option Expr}{apos cpos p2:Pos}
def zlu(hu:X.A.units+1 < cLine)(hi:SE X i mk)(ho:SE X o md)(hm:behindInMarks .NotIn o=false:=by rfl):SB X (.Compare i [.NotIn] [o] pos) (mTst<|mDIn true mk md) :=
 PT.imp (zso (zlF hu hi ho) hm) fun M H Q h=>zig (zfI h)
def dput(st:Sto)(n:Nat)(k d:D):Option Sto:=match st[n]? with
 | some (.dk kvs)=>(keyOf k).bind fun q=>if decide (kvs.length < sizeLine)=true then some (st.set n<|.dk<|putD kvs q d) else none
 | some (.dt kvs)=>match k with
   | .tup ds=>(keysOf ds).bind fun q=>if decide (kvs.length < sizeLine)=true then some (st.set n<|.dt<|putD kvs q d) else none
   | _=>none
 | _=>none
def zoW{k:D}(S:StR K H io st)(hp:io[n]?=some p)(ry:Rep K H io y k)(rv:Rep K H io v d)(h:dput st n k d=some st'):∃ H',DPut H p y v H'/\Ext io [] H H'/\StR K H' (io++[]) st':=by
 unfold dput at h
 split at h
 . rename_i kvs e;obtain⟨q,e1,h⟩:=zae h;obtain⟨hl,h⟩:=zau h;cases h;obtain⟨ps,hH,r⟩:=S.ob n p _ hp e;have ey:=zeG ry e1;subst ey;have:=KR.length r;refine⟨_,DPut.k hH (by rw[this];exact of_decide_eq_true hl),?_⟩;exact zjA S hp e (fun o u z=>by rw[hH] at z;cases z) fun H' T e'=>⟨_,e',KR.put (KR.mono T r) q<|Rep.mono T rv⟩
 . rename_i kvs e
   split at h
   . rename_i ds;obtain⟨q,e1,h⟩:=zae h;obtain⟨hl,h⟩:=zau h;cases h;obtain⟨ps,hH,r⟩:=S.ob n p _ hp e;obtain⟨b,xs,rfl,hb,rs⟩:=ry;have ex:=ze7 rs e1;subst ex;have:=KR.length r;refine⟨_,DPut.t hH hb (by rw[this];exact of_decide_eq_true hl),?_⟩;exact zjA S hp e (fun o u z=>by rw[hH] at z;cases z) fun H' T e'=>⟨_,e',KR.put (KR.mono T r) q<|Rep.mono T rv⟩
   . cases h
 . cases h
def zrL(md mk mv:ME):MS:=fun U st=>(mv U st).bind fun (v,s1)=>(md U s1).bind fun (d,s2)=>(mk U s2).bind fun (k,s3)=>match d with
 | .ref n=>(dput s3 n k v).map fun s4=>(.nx U,s4)
 | _=>none
def zpJ{value:Expr}{mv:ME}(hu:X.A.units+1 < cLine)(ho:SE X o md)(hi:SE X i mk)(hv:SE X value mv)(hs:swapsWith value (some<|.Subscript o i pos') pos.line X.env=pure false:=by rfl) :
   SS X (.Assign [.Subscript o i pos'] value pos) (zrL md mk mv):=PS.imp (zqr hu ho hi hv hs) fun N M H h=>by
 obtain⟨U,st,io,f,st',E,S,e,w⟩:=zd0.mp h;obtain⟨⟨v,s1⟩,e1,e⟩:=zae e;obtain⟨⟨d,s2⟩,e2,e⟩:=zae e;obtain⟨⟨k,s3⟩,e3,e⟩:=zae e
 cases d with
 | ref n =>
   obtain⟨s4,e4,e⟩:=zaj e;cases e;refine⟨U,st,io,v,s1,E,S,e1,fun v1 H1 k1 X1 S1 R1=>⟨U,s1,io++k1,_,s2,E.ext S X1,S1,e2,fun v2 H2 k2 X2 S2 R2=>⟨U,s2,(io++k1)++k2,k,s3,(E.ext S X1).ext S1 X2,S2,e3,fun v3 H3 k3 X3 S3 R3=>?_⟩⟩⟩;obtain⟨p,rfl,hp⟩:=R2;obtain⟨H4,g,X4,S4⟩:=zoW S3 (zcG hp) R3 ((R1.ext S1 X2).ext S2 X3) e4;refine⟨p,H4,rfl,g,?_⟩;have w3:∀ M' H' kb,Ext (((io++k1)++k2)++k3) kb H3 H'->_:=zgr (zgr (zgr w X1 S1) X2 S2) X3 S3;exact w3 M H4 [] X4 S4<|(((E.ext S X1).ext S1 X2).ext S2 X3).ext S3 X4
 | _=>cases e
def ziZ(t:Bool):ME:=fun _ st=>some (.ref st.length,st++[if t then .dt [] else .dk []])
def zjv:SE X (.Dict [] [] pos) (ziZ false):=PE.imp zn6 <| by
 rintro M H Q ⟨U,st,io,d,st',E,S,e,k⟩;cases e;intro p hp;obtain⟨E',S'⟩:=zjY (o:=.dK []) (ob:=.dk []) S hp fun H' T e=>⟨[],e,.nil⟩
 exact k _ _ [p] E' S' ⟨p,rfl,by rw[<-S.len];exact getElem?_len io p⟩
def znJ:SE X (.Dict [] [] pos) (ziZ true):=PE.imp zn5 <| by
 rintro M H Q ⟨U,st,io,d,st',E,S,e,k⟩;cases e;intro p hp;obtain⟨E',S'⟩:=zjY (o:=.dT []) (ob:=.dt []) S hp fun H' T e=>⟨[],e,.nil⟩
 exact k _ _ [p] E' S' ⟨p,rfl,by rw[<-S.len];exact getElem?_len io p⟩
inductive mtM (K:Ae) (g:D->List D->Sto->Option (D×Sto)) (x:V) (xs:List V) (H:Hp) (Q:VK):Prop
 | mk (dx:D) (ds:List D) (st:Sto) (io:List Addr) (d:D) (st':Sto) (h0:Rep K H io x dx) (h1:Reps K H io xs ds) (h2:StR K H io st) (h3:g dx ds st=some (d,st')) (h4:Bh K io H st' d Q)
def zdy:D->List D->Sto->Option (D×Sto):=fun x xs st=>match x,xs with
 | .ref n,[d]=>match st[n]? with
   | some (.lst ds)=>if decide (ds.length < sizeLine)=true then some (.non,st.set n (.lst<|ds++[d])) else none
   | _=>none
 | _,_=>none
def append_in{ds:List D}{xs:List D}(h:zdy (.ref n) xs st=some (d,st')):∃ ds x,st[n]?=some (.lst ds)/\xs=[x]/\ds.length < sizeLine/\d=.non/\st'=st.set n (.lst<|ds++[x]):=by
 unfold zdy at h
 match xs,h with
 | [x],h =>
   dsimp only at h
   split at h
   . rename_i ds e;obtain⟨hl,h⟩:=zau h;cases h;exact⟨ds,x,e,rfl,of_decide_eq_true hl,rfl,rfl⟩
   . cases h
 | [],h=>cases h
 | _::_::_,h=>cases h
def zj1:MtR X "list.append" (mtM X.K zdy):=by
 rintro pins s M H x xs v us Q I rx rs ⟨dx,ds,st,io,d,st',Rx,Rs,S,e,k⟩
 cases dx with
 | ref n =>
   obtain⟨l,y,e1,rfl,hl,rfl,rfl⟩:=append_in (ds:=[]) e;obtain⟨p,rfl,hp⟩:=Rx;obtain⟨w,rfl,Rw⟩:=Rs.one;obtain⟨ys,hH,r⟩:=S.ob n p _ hp e1;refine zh6 pins s M H _ _ v us Q I rx rs ⟨p,ys,w,rfl,rfl,hH,by rw[r.length];exact hl,?_⟩;obtain⟨E',S'⟩:=zjA (o:=.lst (ys++[w])) (ob:=.lst (l++[y])) S hp e1 (fun o u z=>by rw[hH] at z;cases z) fun H' T e'=>⟨_,e',(Reps.mono T r).append<|Reps.cons (Rep.mono T Rw) Reps.nil⟩
   exact k _ _ [] E' S' rfl
 | _=>unfold zdy at e;cases ds <;> cases e
def znk{l:List D}(R:Rep K H io v (.ref n))(S:StR K H io st)(h:zbY st n=some l):tyV K "list" v H:=by obtain⟨p,rfl,hp⟩:=R;obtain⟨xs,hx,_⟩:=zbq S hp h;exact .inl ⟨rfl,xs,hx⟩
def mApp(m:ME)(mm:MA):ME:=fun U st=>(m U st).bind fun (x,s1)=>match x with
 | .ref n=>(zbY s1 n).bind fun _=>(mm U s1).bind fun (xs,s2)=>zdy x xs s2
 | _=>none
def zeF(ho:SE X o m)(ha:SA X (e::es) mm)
   (hbase:attributeBase o "append" X.env (eval o X.env)=eval o X.env:=by rfl)
   (hfew:((backTo cpos<|starEach (e::es) X.env).all (fun x=>!x.1)&&(backToKw cpos<|keywordEach [] X.env).all (fun x=>x.1.isSome)
    &&decide ((e::es).length+([]:List Keyword).length+(if ([]:List Keyword).isEmpty then 0 else 1) < 30))=true:=by rfl)
   (hline:(apos.endLine==cpos.line)=true:=by rfl) (hs:starEach (e::es) X.env=(false,eval e X.env)::starEach es X.env:=by rfl) (hplain:(backTo cpos<|starEach es X.env).any (·.1)=false:=by rfl) :
   SE X (.Call (.Attribute o "append" apos) (e::es) [] cpos) (mApp m mm) :=
 PE.imp (zsI PySem.F.plainAttrs_list PySem.F.slot_list_append PySem.F.type_list_append zj1 ho ha hbase hfew hline hs hplain) <| by
   rintro M H Q ⟨U,st,io,d,st',E,S,e,k⟩;obtain⟨⟨x,s1⟩,e1,e⟩:=zae e
   cases x with
   | ref n =>
     obtain⟨l,e0,e⟩:=zae e;obtain⟨⟨xs,s2⟩,e2,e⟩:=zae e;refine⟨U,st,io,_,s1,E,S,e1,fun v1 H1 k1 X1 S1 R1=>⟨znk R1 S1 e0,U,s1,io++k1,xs,s2,E.ext S X1,S1,e2,fun vs H2 k2 X2 S2 R2=>?_⟩⟩;exact⟨_,xs,s2,(io++k1)++k2,d,st',R1.ext S1 X2,R2,S2,e,(k.on S1 X1).on S2 X2⟩
   | _=>cases e
noncomputable abbrev MO:=Rho->Sto->Option (Option Int×Sto)
inductive tOm (K:Ae) (m:MO) (M:L2.St) (H:Hp) (Q:Option Int->Hp->Prop):Prop
 | mk (U:Rho) (st:Sto) (io:List Addr) (d:Option Int) (st':Sto) (h1:EnvR K H io M U) (h2:StR K H io st) (h3:m U st=some (d,st')) (h4:∀ H' ka,Ext io ka H H'->StR K H' (io++ka) st'->Q d H')
def SO(X:Cx)(e:Option Expr)(m:MO):Prop:=PO X e<|tOm X.K m
def zcM:MO:=fun _ st=>some (none,st)
def zcL(m:ME):MO:=fun U st=>(m U st).bind fun (d,s)=>match d with
 | .int i=>some (some i,s)
 | _=>none
def zcC:SO X none zcM:=fun pins s M H Q I ⟨U,st,io,d,st',E,S,e,k⟩=>zqs pins s M H Q I (by cases e;exact k H [] Ext.refl S.nil)
def zcB(h:SE X e m):SO X (some e) (zcL m):=fun pins s M H Q I ⟨U,st,io,d,st',E,S,e,k⟩=>zhW h pins s M H Q I (by
 obtain⟨⟨x,s1⟩,e1,e⟩:=zae e
 cases x with
 | int i =>
   cases e;exact⟨U,st,io,_,_,E,S,e1,fun v1 H1 k1 X1 S1 R1=>⟨i,R1,k H1 k1 X1 S1⟩⟩
 | _=>cases e)
def cutD(xs:List D)(lo hi:Option Int):List D:=(xs.drop<|HT.sIx xs.length 0 lo).take<|HT.sIx xs.length xs.length hi - HT.sIx xs.length 0 lo
def zkF(r:Reps K H io xs ds)(lo hi:Option Int):Reps K H io (cutV xs lo hi) (cutD ds lo hi):=by unfold cutV cutD;rw[r.length];exact (r.drop _).take _
def slD:D->Option Int->Option Int->Sto->Option (D×Sto):=fun x lo hi st=>match x with
 | .tup ds=>if (decide (HT.sIx ds.length 0 lo=0)&&decide (HT.sIx ds.length ds.length hi=ds.length))=true then none else some (.tup (cutD ds lo hi),st)
 | .ref n=>(zbY st n).map fun ds=>(.ref st.length,st++[.lst (cutD ds lo hi)])
 | _=>none
def mSl(m:ME)(l h:MO):ME:=fun U st=>(m U st).bind fun (x,s1)=>(l U s1).bind fun (lo,s2)=>(h U s2).bind fun (hi,s3)=>slD x lo hi s3
def rSlM(K:Ae):V->Option Int->Option Int->Hp->VK->Prop:=fun x lo hi H Q=>rSlT K x lo hi H Q\/rSlL K x lo hi H Q
def sl_M:SlR X (rSlM X.K):=by
 intro pins s M H x v vl vu lo hi sl Q I rx hs pl pu h
 rcases h with h | h
 . exact zr4 pins s M H x v vl vu lo hi sl Q I rx hs pl pu h
 exact zmA pins s M H x v vl vu lo hi sl Q I rx hs pl pu h
def znI{ml mh:MO}(he:SE X e m)(hl:SO X lo ml)(hu:SO X hi mh):SE X (.Subscript e (.Slice lo hi none p2) pos) (mSl m ml mh):=PE.imp (zfU sl_M he hl hu) <| by
 rintro M H Q ⟨U,st,io,d,st',E,S,e,k⟩;obtain⟨⟨x,s1⟩,e1,e⟩:=zae e;obtain⟨⟨lo',s2⟩,e2,e⟩:=zae e;obtain⟨⟨hi',s3⟩,e3,e⟩:=zae e;refine⟨U,st,io,x,s1,E,S,e1,fun v1 H1 k1 X1 S1 R1=>⟨U,s1,io++k1,lo',s2,E.ext S X1,S1,e2,fun H2 k2 X2 S2=>⟨U,s2,(io++k1)++k2,hi',s3,(E.ext S X1).ext S1 X2,S2,e3,fun H3 k3 X3 S3=>?_⟩⟩⟩;have R3:=(R1.ext S1 X2).ext S2 X3;have k':=((k.on S1 X1).on S2 X2).on S3 X3
 cases x with
 | tup ds =>
   have e:(if (decide (HT.sIx ds.length 0 lo'=0)&&decide (HT.sIx ds.length ds.length hi'=ds.length))=true then none else some (D.tup (cutD ds lo' hi'),s3))=some (d,st'):=e
   by_cases hw:(decide (HT.sIx ds.length 0 lo'=0)&&decide (HT.sIx ds.length ds.length hi'=ds.length))=true
   . rw[if_pos hw] at e;cases e
   rw[if_neg hw] at e;cases e;obtain⟨p,xs,rfl,hp,r⟩:=R3;refine .inl ⟨p,xs,rfl,SqT.of hp,fun z=>hw ?_,fun q hq=>k'.tup S3 (zkF r _ _) hq⟩;rw[r.length] at z;rw[An];exact⟨decide_eq_true z.1,decide_eq_true z.2⟩
 | ref n =>
   obtain⟨ds,e0,e⟩:=zaj e;cases e;obtain⟨p,rfl,hp⟩:=R3;obtain⟨xs,hx,r⟩:=zbq S3 hp e0;exact .inr ⟨p,xs,rfl,hx,fun q hq=>k'.lst S3 (zkF r _ _) hq⟩
 | _=>cases e
def zpp:G2:=intD (fun _ j=>decide (0 < j)&&decide (j < 2 ^ 128)) fun i j=>.int<|i / j
def zhl:OpM X (binaryOp .FloorDiv) zpp:=zgq (C:=fun i j=>0 < j/\j < 2 ^ 128) (opI fun i j _ _ _ _ _ hc q=>by
 refine floordiv_int (by omega) (by rw[Int.fdiv_eq_ediv_of_nonneg i (by omega)];exact q)<|.inl<|PyProof.noPylong_of_log2 ?_;have h0:j.natAbs≠0:=by omega
 have h1:j.natAbs < 2 ^ 128:=by omega
 exact CA ((Nat.log2_lt h0).mpr h1) (by decide)) fun i j h=>by rw[An] at h;exact⟨of_decide_eq_true h.1,of_decide_eq_true h.2⟩
def powB:G2:=intD (fun i j=>decide (0<=j)&&decide ((Gf i:Int)*j<=2 ^ 27)) fun i j=>.int<|i ^ j.toNat
def zh3:OpM X (binaryOp .Pow) powB:=zgq (C:=fun i j=>0<=j/\(Gf i:Int)*j<=2 ^ 27) (opI fun i j _ _ _ _ _ hc q=>pow_int hc.1 hc.2 q) fun i j h=>by rw[An] at h;exact⟨of_decide_eq_true h.1,of_decide_eq_true h.2⟩
def subT(t T:String):Bool:=t==T || (t=="bool"&&T=="int")
def sorts:List String:=["NoneType","bool","int","str","tuple","list","dict"]
def kinds:List String:=["bool","int","str","tuple","list","dict"]
variable {t:String}
def zq7(ht:t∈sorts)(hT:T∈kinds):Hu K (.type t) (.type T)=some (subT t T):=by
 have all:∀ t∈sorts,∀ T∈kinds,Hu K (.type t) (.type T)=some (subT t T):=by
   intro t ht T hT;simp only[sorts,kinds,AI,AM,or_false] at ht hT
   rcases ht with rfl | rfl | rfl | rfl | rfl | rfl | rfl <;> rcases hT with rfl | rfl | rfl | rfl | rfl | rfl <;> rfl
 exact all t ht T hT
def tyName(st:Sto):D->Option String
 | .non=>some "NoneType"
 | .bl _=>some "bool"
 | .int _=>some "int"
 | .str _=>some "str"
 | .tup _=>some "tuple"
 | .ref n=>match st[n]? with
   | some (.lst _)=>some "list"
   | some (.fz _)=>some "list"
   | some (.dk _)=>some "dict"
   | some (.dt _)=>some "dict"
   | _=>none
 | .kl _=>none
 | .fn _=>none
def zkh(I:Inv X pins M H s)(h:SqL X.K H p xs):Gc p "list" s.heap:=by obtain⟨its,_,⟨o,n,e,c,_,_⟩,_⟩:=I.list h;exact⟨o,e,c⟩
def zlS{ps:List (Key×V)}(I:Inv X pins M H s)(h:H p=some (.dK ps)):Gc p "dict" s.heap:=by obtain⟨_,_,_,_,o,_,_,e,ex,_⟩:=I.hok p _ h;exact⟨o,e,ex.1⟩
def zlR{ps:List (List Key×V)}(I:Inv X pins M H s)(h:H p=some (.dT ps)):Gc p "dict" s.heap:=by obtain⟨_,_,_,_,o,_,_,e,ex,_⟩:=I.hok p _ h;exact⟨o,e,ex.1⟩
def zra{u:Value}{Q:Value->Shared->Prop}(I:Inv X pins M H s)(S:StR X.K H io st)(R:Rep X.K H io v d)(r:RelV v u)(ht:tyName st d=some t)(hT:T∈kinds)
   (q:∀ tk,Q (.bool<|subT t T) { s with toks:=tk }):wpAny (model X.prog X.w) X.A (call (.builtin "isinstance") [u,.type T]) Q E s:=by
 have k:=fun {x:Value} {HH:Heap->Prop} (hs:t∈sorts) (Z:PySem.W.KitX X.K x (.type t) HH) (p:HH s.heap) (hx:x≠.builtin "__main__.__loader__#opaque")=>PySem.W.kia_one (prog:=X.prog) (w:=X.w) (A:=X.A) (E:=E) Z I.kIn p (zq7 hs hT) hx q
 cases d with
 | non=>cases ht;cases (show v=.non from R);cases r;exact k (by decide) PySem.W.kitx_none trivial (by intro e;cases e)
 | bl b=>cases ht;cases (show v=.bl b from R);cases r;exact k (by decide) PySem.W.kitx_bool trivial (by intro e;cases e)
 | int b=>cases ht;cases (show v=.int b from R);obtain⟨t,rfl⟩:=r;exact k (by decide) PySem.W.kitx_int trivial (by intro e;cases e)
 | str b=>cases ht;cases (show v=.str b from R);obtain⟨t,rfl⟩:=r;exact k (by decide) PySem.W.kitx_str trivial (by intro e;cases e)
 | tup ds =>
   cases ht;obtain⟨p,xs,rfl,hp,_⟩:=R;cases r;obtain⟨its,_,⟨o,e,c,_⟩,_⟩:=I.tuple<|SqT.of hp;exact k (by decide) PySem.W.kitx_tuple ⟨o,e,c⟩ (by intro e;cases e)
 | ref n =>
   obtain⟨p,rfl,hp⟩:=R;cases r;unfold tyName at ht;dsimp only at ht
   split at ht
   . rename_i o e;cases ht;obtain⟨xs,hH,_⟩:=S.ob n p _ hp e;exact k (by decide) GK (zkh I<|SqL.of hH) (by intro e;cases e)
   . rename_i o e;cases ht;obtain⟨ob,xs,hH,_⟩:=S.ob n p _ hp e;exact k (by decide) GK (zkh I<|.inl<|.inr ⟨ob,hH⟩) (by intro e;cases e)
   . rename_i o e;cases ht;obtain⟨xs,hH,_⟩:=S.ob n p _ hp e;exact k (by decide) GL (zlS I hH) (by intro e;cases e)
   . rename_i o e;cases ht;obtain⟨xs,hH,_⟩:=S.ob n p _ hp e;exact k (by decide) GL (zlR I hH) (by intro e;cases e)
   . cases ht
 | kl ds=>cases ht
 | fn ds=>cases ht
def rIsi(K:Ae)(T:String):List V->Hp->VK->Prop:=fun xs H Q=>∃ x d st io t,xs=[x,.ty T]/\Rep K H io x d/\StR K H io st/\tyName st d=some t/\Q (.bl<|subT t T) H
def zo5(hT:T∈kinds):zgU X (.builtin "isinstance") (rIsi X.K T):=by rintro pins s M H xs us Q I r ⟨x,d,st,io,t,e,R,S,ht,q⟩;subst e;obtain⟨u,w,rfl,ru,rw'⟩:=r.two;cases rw';exact zra I S R ru ht hT fun tk=>⟨.bl _,H,I.tok tk,rfl,q⟩
def mIsi(T:String)(m:ME):ME:=fun U st=>(m U st).bind fun (x,s)=>(tyName s x).map fun t=>(.bl (subT t T),s)
def zsf{x y:Str}{p:Pos}(hT:T∈kinds)(hg:Gl X "isinstance")(hm:X.mg "isinstance"=none)(ha:SE X a m)(hgy:Gl X y)(hmy:X.mg y=none)(hvy:bootBuiltins y=some (.type T))(hny:y≠"__name__":=by decide)(hdy:(y==("__debug__":Str))=false:=by decide)
   (hs:starEach [a,.Name y p2] X.env=(false,eval a X.env)::starEach [.Name y p2] X.env:=by rfl) (hs2:starEach [.Name y p2] X.env=[(false,eval (.Name y p2) X.env)]:=by rfl) (hpl:(backTo pos<|starEach [.Name y p2] X.env).any (·.1)=false:=by rfl) :
   SE X (.Call (.Name "isinstance" p) [a,.Name y p2] [] pos) (mIsi T m) :=
 PE.imp (zfW (zo5 hT) hg hm (by decide +kernel) (zeZ ha (zeZ (zqF (v:=.ty T) hgy hmy hvy rfl hny hdy) ziE hs2) hs) (by decide) (by decide) hs hpl) <| by rintro M H Q ⟨U,st,io,d,st',E,S,e,k⟩;obtain⟨⟨x,s1⟩,e1,e⟩:=zae e;obtain⟨t,e2,e⟩:=zaj e;cases e;exact⟨U,st,io,x,_,E,S,e1,fun v1 H1 k1 X1 S1 R1=>⟨v1,x,_,io++k1,t,rfl,R1,S1,e2,k _ H1 k1 X1 S1 rfl⟩⟩
def zdf{α:Type}{le:α->α->Prop}:∀ {l1 l2:List α},l1.Perm l2->l1.Pairwise le->l2.Pairwise le->(∀ a∈l1,∀ b∈l1,le a b->le b a->a=b)->l1=l2
 | [],l2,p,_,_,_=>(List.Perm.nil_eq p)
 | a::l1,[],p,_,_,_=>absurd p.symm (by intro h;have:=h.length_eq;simp at this)
 | a::l1,b::l2,p,h1,h2,an=>by
   obtain⟨ha,h1'⟩:=List.pairwise_cons.mp h1;obtain⟨hb,h2'⟩:=List.pairwise_cons.mp h2;have e:a=b:=by
     have m1:a∈b::l2:=p.mem_iff.mp Aj;have m2:b∈a::l1:=p.mem_iff.mpr Aj
     rcases List.mem_cons.mp m1 with q | q
     . exact q
     . rcases List.mem_cons.mp m2 with r | r
       . exact r.symm
       exact an a Aj b (Ah _ r) (ha b r)<|hb a q
   subst e;rw[zdf ((List.perm_cons a).mp p) h1' h2' fun x hx y hy=>an x (Ah _ hx) y (Ah _ hy)]
def sle(a b:Str):Bool:=!decide (b.cps.toList < a.cps.toList)
def zbz(ss:List Str):List Str:=ss.mergeSort sle
def zjf{a b:Str}(h:a.cps.toList=b.cps.toList):a=b:=by
 obtain⟨x⟩:=a;obtain⟨y⟩:=b;have:x=y:=by have h':x.toList=y.toList:=h;exact Array.toList_inj.mp h'
 rw[this]
def zeD(a b:Str):(sle a b || sle b a)=true:=by
 unfold sle;rw[Dh,B2,B2,decide_eq_false_iff_not,decide_eq_false_iff_not]
 by_cases h:b.cps.toList < a.cps.toList
 . exact .inr<|HA h
 exact .inl h
def zdP(a b c:Str)(h1:sle a b=true)(h2:sle b c=true):sle a c=true:=by unfold sle at *;rw[B2,decide_eq_false_iff_not] at *;have h1:a.cps.toList<=b.cps.toList:=h1;have h2:b.cps.toList<=c.cps.toList:=h2;exact List.le_trans h1 h2
def zhe{a b:Str}(h1:sle a b=true)(h2:sle b a=true):a=b:=by unfold sle at *;rw[B2,decide_eq_false_iff_not] at *;exact zjf<|List.le_antisymm h1 h2
def zfv:∀ {ss:List Str} {p:Str},risingS p ss=true->(p::ss).Pairwise fun a b=>sle a b=true
 | [],p,_=>by simp
 | s::ss,p,h=>by
   have h':(!ltCps s.cps.toList p.cps.toList&&risingS s ss)=true:=h;rw[An] at h';have ih:=zfv h'.2;have hps:sle p s=true:=by have:=h'.1;rw[ltCps_eq] at this;exact this
   refine List.pairwise_cons.mpr ⟨fun x hx=>?_,ih⟩
   rcases List.mem_cons.mp hx with rfl | hx
   . exact hps
   exact zdP _ _ _ hps<|(List.pairwise_cons.mp ih).1 x hx
variable {ss:List Str}
def zeh{ss':List Str}(p:ss'.Perm ss)(h:sortedS ss'=true):ss'=zbz ss:=by
 have hp:ss'.Pairwise fun a b=>sle a b=true:=by
   cases ss' with
   | nil=>exact DB
   | cons x r=>exact zfv h
 refine zdf (p.trans (Bg ss sle).symm) hp (Bd (fun a b c=>zdP a b c) zeD ss) fun a _ b _=>zhe
variable {r:List D}
def strsOf:List D->Option (List Str)
 | []=>some []
 | .str x::r=>(strsOf r).map fun xs=>x::xs
 | _=>none
def zfs(h:strsOf (d::r)=some ss):∃ x xs,d=.str x/\strsOf r=some xs/\ss=x::xs:=by
 cases d with
 | str x =>
   obtain⟨xs,e,h⟩:=zaj h;exact⟨x,xs,rfl,e,h.symm⟩
 | _=>cases h
def zeR(ss:List Str):strsOf (ss.map D.str)=some ss:=by
 induction ss with
 | nil=>rfl
 | cons x r ih=>show (strsOf<|r.map D.str).map _=_;rw[ih];rfl
def zhc:∀ {xs:List V} {us:List Value} {ds:List D} {ss:List Str},Reps K H io xs ds->Vals xs us->strsOf ds=some ss->StrsAre us ss
 | _,_,[],ss,h,r,e=>by cases (show _=[] from h);cases r;cases e;exact .nil
 | _,_,d::ds,ss,h,r,e=>by
   obtain⟨y,ys,rfl,h1,h2⟩:=h;obtain⟨x,rest,rfl,e2,rfl⟩:=zfs e
   cases r with
   | cons r1 r2 =>
     cases (show y=.str x from h1)
     obtain⟨t,rfl⟩:=r1;exact .cons x t<|zhc h2 r2 e2
def zeC:∀ {us:List Value} {ss:List Str},StrsAre us ss->Vals (ss.map V.str) us
 | _,_,.nil=>.nil
 | _,_,.cons y t r=>.cons ⟨t,rfl⟩<|zeC r
def zhN(ss:List Str):Reps K H io (ss.map V.str) (ss.map D.str):=by
 induction ss with
 | nil=>exact rfl
 | cons x r ih=>exact Reps.cons rfl ih
def lt64(h:n < 64):n<=sizeLine:=AR (Cy h)<|by decide
def zdB:GN
 | [.ref n],st=>(zbY st n).bind fun ds=>(strsOf ds).bind fun ss=>if decide (ss.length < 64)=true then some (.ref st.length,st++[.lst ((zbz ss).map D.str)]) else none
 | _,_=>none
def zgJ:zed X (.builtin "sorted") zdB:=by
 rintro pins s M H xs us Q I r ⟨ds,st,io,d,st',R,S,e,k⟩;unfold zdB at e
 split at e
 . rename_i n;obtain⟨ts,e0,e⟩:=zae e;obtain⟨ss,e1,e⟩:=zae e;obtain⟨hl,e⟩:=zau e;cases e;have hl:=of_decide_eq_true hl;obtain⟨v,rfl,p,rfl,hp⟩:=R.one;obtain⟨u,rfl,ru⟩:=r.one;cases ru;obtain⟨ys,hx,r1⟩:=zbq S hp e0;obtain⟨its,rv,pl,hz⟩:=I.list hx;have hS:=zhc r1 rv e1;have hlen:its.length=ss.length:=by
     have h1:=rv.length;have h2:=(zeC hS).length;rw[Ai] at h2;omega
   refine sorted_strs pl.isList hS (by omega) fun out ss' a1 a2 a3=>?_;have es:=zeh a2 a3;obtain⟨ep,hat⟩:=sortedAll_at s.heap its out;have hv:=zeC a1;have hfree:H (s.heap.objs.size+1)=none:=I.hok.fresh<|BM _;have hlen':(ss'.map V.str).length<=sizeLine:=by rw[Ai,a2.length_eq];exact lt64 hl
   refine⟨.ref<|s.heap.objs.size+1,upd H (s.heap.objs.size+1)<|.lst<|ss'.map V.str,I.laid (t':=s.toks) (a:=s.heap.objs.size+1) (fun b o q=>sortedAll_old q) (BM _) ⟨hlen',out.toList,ep,hv,by simpa using hat⟩,rfl,?_⟩;rw[es] at *;exact k.lst S (zhN _) hfree
 . cases e
def zpo:D->List D->Sto->Option (D×Sto):=fun x xs st=>match x,xs with
 | .str z,[.ref n]=>(zbY st n).bind fun ds=>(strsOf ds).bind fun ss=>if decide ((ss.map (·.length)).sum+ss.length*z.length<=16777216)=true then some (.str (Txt.join z ss),st) else none
 | _,_=>none
def zog:MtR X "str.join" (mtM X.K zpo):=by
 rintro pins s M H x xs v us Q I rx rs ⟨dx,ds,st,io,d,st',Rx,Rs,S,e,k⟩;unfold zpo at e
 split at e
 . rename_i z n;obtain⟨ts,e0,e⟩:=zae e;obtain⟨ss,e1,e⟩:=zae e;obtain⟨hl,e⟩:=zau e;cases e
   cases (show x=.str z from Rx)
   obtain⟨t,rfl⟩:=rx;obtain⟨w,rfl,p,rfl,hp⟩:=Rs.one;obtain⟨u,rfl,ru⟩:=rs.one;cases ru;obtain⟨ys,hx,r1⟩:=zbq S hp e0;obtain⟨its,rv,pl,hz⟩:=I.list hx;exact join_list pl.isList (zhc r1 rv e1) (of_decide_eq_true hl) fun t' k'=>⟨.str _,H,I.tok k',⟨t',rfl⟩,k.now S rfl⟩
 . cases e
def zrK(m:ME)(mm:MA):ME:=fun U st=>(m U st).bind fun (x,s1)=>match x with
 | .str _=>(mm U s1).bind fun (xs,s2)=>zpo x xs s2
 | _=>none
def zqc(ho:SE X o m)(ha:SA X (e::es) mm)
   (hbase:attributeBase o "join" X.env (eval o X.env)=eval o X.env:=by rfl)
   (hfew:((backTo cpos<|starEach (e::es) X.env).all (fun x=>!x.1)&&(backToKw cpos<|keywordEach [] X.env).all (fun x=>x.1.isSome)
    &&decide ((e::es).length+([]:List Keyword).length+(if ([]:List Keyword).isEmpty then 0 else 1) < 30))=true:=by rfl)
   (hline:(apos.endLine==cpos.line)=true:=by rfl) (hs:starEach (e::es) X.env=(false,eval e X.env)::starEach es X.env:=by rfl) (hplain:(backTo cpos<|starEach es X.env).any (·.1)=false:=by rfl) :
   SE X (.Call (.Attribute o "join" apos) (e::es) [] cpos) (zrK m mm) :=
 PE.imp (zsI DI PySem.F.slot_str_join PySem.F.type_str_join zog ho ha hbase hfew hline hs hplain) <| by
   rintro M H Q ⟨U,st,io,d,st',E,S,e,k⟩;obtain⟨⟨x,s1⟩,e1,e⟩:=zae e
   cases x with
   | str z =>
     obtain⟨⟨xs,s2⟩,e2,e⟩:=zae e;refine⟨U,st,io,_,s1,E,S,e1,fun v1 H1 k1 X1 S1 R1=>⟨by cases (show v1=.str z from R1);rfl,U,s1,io++k1,xs,s2,E.ext S X1,S1,e2,fun vs H2 k2 X2 S2 R2=>?_⟩⟩;exact⟨_,xs,s2,(io++k1)++k2,d,st',R1.ext S1 X2,R2,S2,e,(k.on S1 X1).on S2 X2⟩
   | _=>cases e
def rSlS:V->Option Int->Option Int->Hp->VK->Prop:=fun x lo hi H Q=>∃ z,x=.str z/\z.length<=sizeLine/\Q (.str<|Bo z lo hi) H
def zr5:SlR X rSlS:=by
 rintro pins s M H x v vl vu lo hi sl Q I rx hs pl pu ⟨z,e,hz,q⟩;subst e;obtain⟨t,rfl⟩:=rx;refine⟨"str",_,F.slot_str_getitem.lookup,EK _ _ _,?_⟩;have fin:∀ t' k,EP X pins M Q (.str (Bo z lo hi) t') { s with toks:=k }:=fun t' k=>⟨.str _,H,I.tok k,⟨t',rfl⟩,q⟩
 cases pl with
 | none =>
   cases pu with
   | none=>exact B6 (l:=none) (u:=none) (st:=none) hs rfl<|Di ⟨AR (D2 z _ _) hz,fin⟩
   | int j tj=>exact B6 (l:=none) (u:=some (j,tj)) (st:=none) hs rfl<|Di ⟨AR (D2 z _ _) hz,fin⟩
 | int i ti =>
   cases pu with
   | none=>exact B6 (l:=some (i,ti)) (u:=none) (st:=none) hs rfl<|Di ⟨AR (D2 z _ _) hz,fin⟩
   | int j tj=>exact B6 (l:=some (i,ti)) (u:=some (j,tj)) (st:=none) hs rfl<|Di ⟨AR (D2 z _ _) hz,fin⟩
def slS:D->Option Int->Option Int->Sto->Option (D×Sto):=fun x lo hi st=>match x with
 | .str z=>if fits z.length=true then some (.str (Bo z lo hi),st) else none
 | _=>none
def mSlS(m:ME)(l h:MO):ME:=fun U st=>(m U st).bind fun (x,s1)=>(l U s1).bind fun (lo,s2)=>(h U s2).bind fun (hi,s3)=>slS x lo hi s3
def zln{ml mh:MO}(he:SE X e m)(hl:SO X lo ml)(hu:SO X hi mh):SE X (.Subscript e (.Slice lo hi none p2) pos) (mSlS m ml mh):=PE.imp (zfU zr5 he hl hu) <| by
 rintro M H Q ⟨U,st,io,d,st',E,S,e,k⟩;obtain⟨⟨x,s1⟩,e1,e⟩:=zae e;obtain⟨⟨lo',s2⟩,e2,e⟩:=zae e;obtain⟨⟨hi',s3⟩,e3,e⟩:=zae e;refine⟨U,st,io,x,s1,E,S,e1,fun v1 H1 k1 X1 S1 R1=>⟨U,s1,io++k1,lo',s2,E.ext S X1,S1,e2,fun H2 k2 X2 S2=>⟨U,s2,(io++k1)++k2,hi',s3,(E.ext S X1).ext S1 X2,S2,e3,fun H3 k3 X3 S3=>?_⟩⟩⟩;have k':=((k.on S1 X1).on S2 X2).on S3 X3
 cases x with
 | str z =>
   obtain⟨hf,e⟩:=zau e;cases e;exact⟨z,R1,of_decide_eq_true hf,k'.now S3 rfl⟩
 | _=>cases e
def repS(x:Str)(n:Int):Str:=if n < 1 then DW else if (n==1 || x.length==0)=true then x else ⟨(Cw n.toNat x.cps).foldl (·++·) #[]⟩
def zof:G2
 | .str x,.int n,st=>if (decide (-(2 ^ 62)<=n)&&decide (n < 2 ^ 20)&&decide (x.length*n.toNat<=sizeLine)&&decide ((repS x n).length<=sizeLine))=true then some (.str (repS x n),st) else none
 | _,_,_=>none
def zn8:OpM X (binaryOp .Mult) zof:=by
 rintro pins s M H x y v u Q I rx ry ⟨dx,dy,st,io,d,st',Rx,Ry,S,e,k⟩;unfold zof at e
 split at e
 . rename_i z n;obtain⟨hc,e⟩:=zau e;cases e;rw[An,An,An] at hc;obtain⟨⟨⟨h1,h2⟩,h3⟩,h4⟩:=hc;have h1:=of_decide_eq_true h1;have h2:=of_decide_eq_true h2;have h3:=of_decide_eq_true h3;have h4:=of_decide_eq_true h4
   cases (show x=.str z from Rx)
   cases (show y=.int n from Ry)
   obtain⟨t,rfl⟩:=rx;obtain⟨t2,rfl⟩:=ry;have fin:∀ t' k',EP X pins M Q (.str (repS z n) t') { s with toks:=k' }:=fun t' k'=>⟨.str _,H,I.tok k',⟨t',rfl⟩,k.now S rfl⟩
   refine PySem.P.mul_str (by rw[decide_eq_false (by omega),decide_eq_false (by omega)];rfl) (fun hn _=>?_) (fun hn _=>?_) ?_
   . have hs:sizeLine=16777216:=Fz;have hnn:((n.toNat:Nat):Int)=n:=Int.toNat_of_nonneg (by omega);have hm:(z.length:Int)*n<=2 ^ 63 - 1:=by
       rw[<-hnn,<-Int.natCast_mul];omega
     have:=Int.le_ediv_of_mul_le (by omega:0 < n) hm;omega
   . unfold De;exact decide_eq_false<|by omega
   . unfold repS at fin h4
     by_cases hn:n < 1
     . rw[if_pos hn] at fin h4 ⊢;exact⟨h4,fin s.toks<|s.toks+1⟩
     rw[if_neg hn] at fin h4 ⊢;exact Di ⟨h4,fin⟩
 . cases e
def memP(p:PyData):PyData->Option Bool
 | .list xs=>some<|xs.any fun y=>Bm y p
 | .tuple xs=>some<|xs.any fun y=>Bm y p
 | _=>none
def inD(neg:Bool):G2:=fun x y st=>(toP 50 st x).bind fun p=>(toP 50 st y).bind fun q=>(memP p q).map fun b=>(.bl (if neg then !b else b),st)
def zfD{xs:List PyData}(h:(PyData.list xs).canLay0=true):CU xs=true:=by simpa only [Ca] using h
def zfa{xs:List PyData}(h:(PyData.tuple xs).canLay0=true):CU xs=true:=by simpa only [Ca] using h
def zsR(hu:X.A.units+100 < cLine):OpM X (compareOp .In) (inD false):=by
 rintro pins s M H x y v u Q I rx ry ⟨dx,dy,st,io,d,st',Rx,Ry,S,e,k⟩;obtain⟨p,e1,e⟩:=zae e;obtain⟨q,e2,e⟩:=zae e;obtain⟨r,e3,e⟩:=zaj e;cases e;obtain⟨as,ra⟩:=zcU I S Rx rx e1;obtain⟨bs,rb⟩:=zcU I S Ry ry e2;have h1:=zfj e1;have h2:=zfj e2;have hb:∀ n,X.A.units+1+min n p.depth < cLine:=fun n=>by have:=ET n p.depth;omega
 cases q with
 | list xs=>cases e3;exact PySem.SeqAt.in_list_reads rb ra (zfD h2.1) h1.1 (hb _) ⟨.bl _,H,I,rfl,k.now S rfl⟩
 | tuple xs=>cases e3;exact PySem.SeqAt.in_tuple_reads rb ra (zfa h2.1) h1.1 (hb _) ⟨.bl _,H,I,rfl,k.now S rfl⟩
 | _=>cases e3
def zlH(hu:X.A.units+100 < cLine):OpM X (compareOp .NotIn) (inD true):=by
 rintro pins s M H x y v u Q I rx ry ⟨dx,dy,st,io,d,st',Rx,Ry,S,e,k⟩;obtain⟨p,e1,e⟩:=zae e;obtain⟨q,e2,e⟩:=zae e;obtain⟨r,e3,e⟩:=zaj e;cases e;obtain⟨as,ra⟩:=zcU I S Rx rx e1;obtain⟨bs,rb⟩:=zcU I S Ry ry e2;have h1:=zfj e1;have h2:=zfj e2;have hb:∀ n,X.A.units+1+min n p.depth < cLine:=fun n=>by have:=ET n p.depth;omega
 cases q with
 | list xs=>cases e3;exact PySem.SeqAt.notIn_list_reads rb ra (zfD h2.1) h1.1 (hb _) ⟨.bl _,H,I,rfl,k.now S rfl⟩
 | tuple xs=>cases e3;exact PySem.SeqAt.notIn_tuple_reads rb ra (zfa h2.1) h1.1 (hb _) ⟨.bl _,H,I,rfl,k.now S rfl⟩
 | _=>cases e3
def inSD:G2
 | .str i,.str j,st=>some (.bl (!(BC j i 0 j.length 1).isEmpty),st)
 | _,_,_=>none
def zqN:OpM X (compareOp .In) inSD:=by
 rintro pins s M H x y v u Q I rx ry ⟨dx,dy,st,io,d,st',Rx,Ry,S,e,k⟩;unfold inSD at e
 split at e
 . rename_i i j
   cases e;exact zlI pins s M H x y v u Q I rx ry ⟨i,j,Rx,Ry,k.now S rfl⟩
 . cases e
def zo8:List D->Option (List Bool)
 | []=>some []
 | .bl x::r=>(zo8 r).map fun xs=>x::xs
 | _=>none
def zkQ{ss:List Bool}(h:zo8 (d::r)=some ss):∃ x xs,d=.bl x/\zo8 r=some xs/\ss=x::xs:=by
 cases d with
 | bl x =>
   obtain⟨xs,e,h⟩:=zaj h;exact⟨x,xs,rfl,e,h.symm⟩
 | _=>cases h
def zng:∀ {xs:List V} {us:List Value} {ds:List D} {ss:List Bool},Reps K H io xs ds->Vals xs us->zo8 ds=some ss->us=ss.map Dt
 | _,_,[],ss,h,r,e=>by cases (show _=[] from h);cases r;cases e;rfl
 | _,_,d::ds,ss,h,r,e=>by
   obtain⟨y,ys,rfl,h1,h2⟩:=h;obtain⟨x,rest,rfl,e2,rfl⟩:=zkQ e
   cases r with
   | cons r1 r2 =>
     cases (show y=.bl x from h1)
     cases r1;rw[zng h2 r2 e2];rfl
def allC:GN
 | [.ref n],st=>(zbY st n).bind fun ds=>(zo8 ds).map fun bs=>(.bl (bs.all id),st)
 | _,_=>none
def range_all(bs:List Bool):((AV bs.length).all fun i=>bs.getD i false)=bs.all id:=by
 rw[BR,BD,BD]
 constructor
 . intro h b hb;obtain⟨i,hi,e⟩:=Ge hb;have:=h i<|List.mem_range.mpr hi;rw[Ar,Ak hi,e] at this;exact this
 intro h i hi;have hi:=List.mem_range.mp hi;rw[Ar,Ak hi];exact h _<|BK hi
def zcy(hc:X.calm=true):zed X (.builtin "all") allC:=by
 rintro pins s M H xs us Q I r ⟨ds,st,io,d,st',R,S,e,k⟩;unfold allC at e
 split at e
 . rename_i n;obtain⟨ts,e0,e⟩:=zae e;obtain⟨bs,e1,e⟩:=zaj e;cases e;obtain⟨v,rfl,p,rfl,hp⟩:=R.one;obtain⟨u,rfl,ru⟩:=r.one;cases ru;obtain⟨ys,hx,r1⟩:=zbq S hp e0;obtain⟨its,rv,pl,hz⟩:=I.list hx;have hb:=zng r1 rv e1;subst hb;refine call_all_walk<|CS pl.isList ?_;have hlt:p < s.heap.objs.size:=by
     obtain⟨o,_,e,_⟩:=pl;exact Am e
   refine⟨_,_,_,_,_,_,fun i=>bs.getD i false,rfl,Hg (A:=X.A.in1) (I.ok.hd hc) s.heap.objs.size p (Ap hlt) (bs.map Dt).toArray,⟨⟨_,Al _ rfl,rfl,rfl⟩,?_⟩,?_,fun h' tk hk=>?_⟩
   . obtain⟨o,nn,e,c,dd,sq⟩:=pl;exact⟨o,Ad _ e,c,nn,sq⟩
   . intro i v s' Q' E' hv hq;have hv:((bs.map Dt).toArray)[i]?=some v:=hv;rw[CZ,AB] at hv
     cases ei:bs[i]? with
     | none=>rw[ei] at hv;cases hv
     | some bb =>
       rw[ei] at hv;cases hv;refine BQ ?_;have hg:bs.getD i false=bb:=by rw[Ar,ei];rfl
       have hq:Q' (bs.getD i false) s':=hq;rw[hg] at hq;exact hq
   . refine⟨.bl _,H,I.kept (t':=tk) fun b o q=>hk b o ?_ (Ad _ q),rfl,?_⟩
     . simp;exact Ap<|Am q
     . have:((AV (bs.map Dt).toArray.size).all fun i=>bs.getD i false)=bs.all id:=by simpa using range_all bs
       rw[this];exact k.now S rfl
 . cases e
end L2.MP
namespace Srt
open PySem PySem.W PyProof.Rows
variable {α:Type}
def Hd(n:Nat)(r:Nat->Int){α:Type}:KasT α->(α->Prop)->Prop
 | .ret a,Q=>Q a
 | .ask i j k,Q=>(i < n/\j < n)/\Hd n r (k<|decide (r i < r j)) Q
variable {n i j src d m N:Nat}{c:Prop}{p:Array Nat}
section
variable {r:Nat->Int} {β:Type}
def Hd.bind{f:α->KasT β}{Q:β->Prop}:∀ {t:KasT α},Hd n r t (fun a=>Hd n r (f a) Q)->Hd n r (t.bind f) Q
 | .ret _,h=>h
 | .ask i j k,h=>⟨h.1,Hd.bind (t:=k _) h.2⟩
def Hd.mono{P Q:α->Prop}(k:∀ a,P a->Q a):∀ {t:KasT α},Hd n r t P->Hd n r t Q
 | .ret a,h=>k a h
 | .ask i j f,h=>⟨h.1,Hd.mono k (t:=f _) h.2⟩
def zkx[Decidable c]{A B:KasT α}{Q:α->Prop}(hc:c)(h:Hd n r A Q):Hd n r (if decide c=true then A else B) Q:=by rw[decide_eq_true hc,if_pos rfl];exact h
def zky[Decidable c]{A B:KasT α}{Q:α->Prop}(hc:¬ c)(h:Hd n r B Q):Hd n r (if decide c=true then A else B) Q:=by rw[decide_eq_false hc,if_neg Bn];exact h
def Bel(n:Nat)(p:Array Nat):Prop:=∀ k,p.getD k 0 < n
def R(r:Nat->Int)(p:Array Nat)(k:Nat):Int:=r<|p.getD k 0
def Up(r:Nat->Int)(p:Array Nat)(m:Nat):Prop:=∀ i j,i<=j->j < m->R r p i<=R r p j
def Dn(r:Nat->Int)(p:Array Nat)(m:Nat):Prop:=∀ i j,i<=j->j < m->R r p j<=R r p i
def getD_eq{q:Array Nat}(h:p[i]?=q[j]?):p.getD i 0=q.getD j 0:=by rw[BS,BS,h]
def zhT(hj:j<=p.size)(k:Nat):(kas_rev p i j).getD k 0=if i<=k/\k < j then p.getD (i+j - 1 - k) 0 else p.getD k 0:=by
 have e:=getElem?_mirror_all (i:=i) hj k;unfold kas_rev
 by_cases h:i<=k/\k < j
 . rw[if_pos h] at e ⊢;exact getD_eq e
 rw[if_neg h] at e ⊢;exact getD_eq e
def znd(hs:src < p.size)(hd:d<=src)(k:Nat):(bubble p src d).getD k 0=if k=src - d then p.getD src 0 else if src - d < k/\k<=src then p.getD (k - 1) 0 else p.getD k 0:=by
 have e:=getElem?_bubble hs d hd k
 by_cases h1:k=src - d
 . rw[if_pos h1] at e ⊢;exact getD_eq e
 . rw[if_neg h1] at e ⊢
   by_cases h2:src - d < k/\k<=src
   . rw[if_pos h2] at e ⊢;exact getD_eq e
   rw[if_neg h2] at e ⊢;exact getD_eq e
def zgo(hj:j<=p.size)(h:Bel n p):Bel n (kas_rev p i j):=fun k=>by
 rw[zhT hj];split
 . exact h _
 exact h _
def zrv(hs:src < p.size)(hd:d<=src)(h:Bel n p):Bel n (bubble p src d):=fun k=>by
 rw[znd hs hd]
 by_cases h1:k=src - d
 . rw[if_pos h1];exact h _
 . rw[if_neg h1]
   by_cases h2:src - d < k/\k<=src
   . rw[if_pos h2];exact h _
   rw[if_neg h2];exact h _
def znO(p:Array Nat)(i j:Nat):(kas_rev p i j).size=p.size:=mirror_size _ _ _ _
def zlA(p:Array Nat)(i j:Nat):(kas_rev p i j).Perm p:=mirror_perm _ _ _ _
def Up.more(h:Up r p m)(hl:m=0\/R r p (m - 1)<=R r p m):Up r p (m+1):=fun i j hij hj=>by
 by_cases hm:j < m
 . exact h i j hij hm
 . have e:j=m:=by omega
   subst e
   by_cases hi:i=j
   . rw[hi];exact DJ _
   . rcases hl with hl | hl
     . omega
     exact D3 (h i (j - 1) (by omega)<|by omega) hl
def Dn.more(h:Dn r p m)(hl:m=0\/R r p m<=R r p (m - 1)):Dn r p (m+1):=fun i j hij hj=>by
 by_cases hm:j < m
 . exact h i j hij hm
 . have e:j=m:=by omega
   subst e
   by_cases hi:i=j
   . rw[hi];exact DJ _
   . rcases hl with hl | hl
     . omega
     exact D3 hl<|h i (j - 1) (by omega)<|by omega
def zo9{p:Array Nat}(hb:Bel n p):∀ (f m:Nat),1<=m->Up r p m->Hd n r (kas_asc p f m) fun m'=>m<=m'/\m'<=m+f/\Up r p m'/\(m' < m+f->R r p m' < R r p (m' - 1))
 | 0,m,h1,h=>⟨Af _,Af _,h,fun z=>absurd z (AX _)⟩
 | f+1,m,h1,h=>by
   refine⟨⟨hb _,hb _⟩,?_⟩
   by_cases c:r (p.getD m 0) < r (p.getD (m - 1) 0)
   . refine zkx c ?_;exact⟨Af _,BY _ _,h,fun _=>c⟩
   refine zky c ?_;refine Hd.mono (fun m' h'=>?_)<|zo9 hb f (m+1) (by omega)<|h.more<|.inr<|Int.not_lt.mp c;exact⟨by omega,by omega,h'.2.2.1,fun z=>h'.2.2.2 (by omega)⟩
def Eqs(r:Nat->Int)(p:Array Nat)(i j:Nat):Prop:=∀ k,i<=k->k < j->R r p k=R r p (j - 1)
def zjy(hj:j<=p.size)(h:Eqs r p i j)(k:Nat):R r (kas_rev p i j) k=R r p k:=by
 unfold R;rw[zhT hj]
 split
 . rename_i hk;have h1:=h (i+j - 1 - k) (by omega) (by omega);have h2:=h k hk.1 hk.2;exact h1.trans h2.symm
 rfl
def Dn.same{p':Array Nat}(h:Dn r p m)(e:∀ k,R r p' k=R r p k):Dn r p' m:=fun i j a b=>by rw[e,e];exact h i j a b
def zsk(hm:m<=p.size)(h:Dn r p m):Up r (kas_rev p 0 m) m:=fun i j hij hj=>by unfold R;rw[zhT hm,zhT hm,if_pos (by omega),if_pos (by omega)];exact h (0+m - 1 - j) (0+m - 1 - i) (by omega)<|by omega
def zih{N:Nat}:∀ (f:Nat) (p:Array Nat) (m q:Nat),Bel n p->p.size=N->1<=m->m+f<=N->q+1<=m->Dn r p m->Eqs r p (m - (q+1)) m ->
   Hd n r (kas_desc f p m q) fun t=>Bel n t.1/\t.1.Perm p/\m<=t.2.1/\t.2.1<=m+f/\t.2.2+1<=t.2.1/\Dn r t.1 t.2.1/\Eqs r t.1 (t.2.1 - (t.2.2+1)) t.2.1
 | 0,p,m,q,hb,hs,h1,h2,h3,hd,he=>⟨hb,Dj _,Af _,Af _,h3,hd,he⟩
 | f+1,p,m,q,hb,hs,h1,h2,h3,hd,he=>by
   refine⟨⟨hb _,hb _⟩,?_⟩
   by_cases c:r (p.getD m 0) < r (p.getD (m - 1) 0)
   . refine zkx c ?_;have one:∀ p':Array Nat,Eqs r p' (m+1 - (0+1)) (m+1):=fun p' k h1 h2=>by
       have e:k=m+1 - 1:=by omega
       subst e;rfl
     by_cases hq:q > 0
     . rw[if_pos hq];have hz:m<=p.size:=by omega
       have e:=zjy hz he;refine Hd.mono (fun t ht=>?_)<|zih f (kas_rev p (m - (q+1)) m) (m+1) 0 (zgo hz hb) ((znO _ _ _).trans hs) (by omega) (by omega) (by omega) ((hd.more<|.inr<|Dq c).same e)<|one _;exact⟨ht.1,ht.2.1.trans<|zlA _ _ _,by omega,by omega,ht.2.2.2.2⟩
     rw[if_neg hq];refine Hd.mono (fun t ht=>?_)<|zih f p (m+1) 0 hb hs (by omega) (by omega) (by omega) (hd.more<|.inr<|Dq c)<|one _;exact⟨ht.1,ht.2.1,by omega,by omega,ht.2.2.2.2⟩
   . refine zky c ?_;refine⟨⟨hb _,hb _⟩,?_⟩
     by_cases d:r (p.getD (m - 1) 0) < r (p.getD m 0)
     . refine zkx d ?_;exact⟨hb,Dj _,Af _,BY _ _,h3,hd,he⟩
     . refine zky d ?_;have eq:R r p m=R r p (m - 1):=Hi (Int.not_lt.mp d)<|Int.not_lt.mp c;refine Hd.mono (fun t ht=>?_) (zih f p (m+1) (q+1) hb hs (by omega) (by omega) (by omega) (hd.more<|.inr<|Int.not_lt.mp d) fun k k1 k2=>?_)
       . exact⟨ht.1,ht.2.1,by omega,by omega,ht.2.2.2.2⟩
       . show R r p k=R r p (m+1 - 1)
         by_cases hk:k=m
         . rw[hk];rfl
         rw[Nat.add_sub_cancel,eq];exact he k (by omega)<|by omega
def ztu(n N:Nat)(r:Nat->Int)(p:Array Nat)(t:Nat×Array Nat):Prop:=Bel n t.2/\t.2.Perm p/\1<=t.1/\t.1<=N/\Up r t.2 t.1
def zje(hb:Bel n p)(hs:p.size=N)(h1:1<=m)(h2:m<=N)(hd:Dn r p m):Hd n r (kas_tail3 m N p) (ztu n N r p):=by
 unfold kas_tail3;have hz:m<=p.size:=by omega
 refine Hd.bind<|Hd.mono (fun m' h'=>?_)<|zo9 (zgo hz hb) (N - m) m h1<|zsk hz hd;exact⟨zgo hz hb,zlA _ _ _,by omega,by omega,h'.2.2.1⟩
def zfB(hb:Bel n p)(hs:p.size=N)(h1:1<=m)(h2:m+1<=N)(hd:Dn r p (m+1)):Hd n r (kas_descPart m N p) (ztu n N r p):=by
 unfold kas_descPart;refine Hd.bind (Hd.mono (fun t ht=>?_) (zih (N:=N) (N - (m+1)) p (m+1) 0 hb hs (by omega) (by omega) (by omega) hd fun k k1 k2=>by
   have:k=m+1 - 1:=by omega
   rw[this]))
 obtain⟨t1,t2,t3,t4,t5,t6,t7⟩:=ht;have hsz:t.1.size=N:=t2.size_eq.trans hs
 by_cases hq:t.2.2 > 0
 . rw[if_pos hq];have hz:t.2.1<=t.1.size:=by omega
   refine Hd.mono (fun u hu=>?_)<|zje (zgo hz t1) ((znO _ _ _).trans hsz) (by omega) (by omega)<|t6.same<|zjy hz t7;exact⟨hu.1,(hu.2.1.trans<|zlA _ _ _).trans t2,hu.2.2⟩
 rw[if_neg hq];refine Hd.mono (fun u hu=>?_)<|zje t1 hsz (by omega) (by omega) t6;exact⟨hu.1,hu.2.1.trans t2,hu.2.2⟩
def zo1(hb:Bel n p)(hs:p.size=N)(hN:1<=N):Hd n r (kas_count N p) (ztu n N r p):=by
 unfold kas_count;have up1:Up r p 1:=fun i j a b=>by
   have:i=j:=by omega
   rw[this];exact DJ _
 refine Hd.bind<|Hd.mono (fun m hm=>?_)<|zo9 hb (N - 1) 1 (Af _) up1;obtain⟨m1,m2,m3,m4⟩:=hm
 by_cases e:(m==N)=true
 . rw[if_pos e];exact⟨hb,Dj _,m1,by omega,m3⟩
 . rw[if_neg e];have ne:m≠N:=fun z=>e (by simp[z]);have lt:=m4 (by omega)
   by_cases g:m > 1
   . rw[if_pos g];refine⟨⟨hb _,hb _⟩,?_⟩
     by_cases c:r (p.getD 0 0) < r (p.getD (m - 1) 0)
     . refine zkx c ?_;exact⟨hb,Dj _,m1,by omega,m3⟩
     . refine zky c ?_;have hz:m<=p.size:=by omega
       have all:∀ k,k < m->R r p k=R r p (m - 1):=fun k hk=>Hi (m3 k (m - 1) (by omega)<|by omega)<|D3 (Int.not_lt.mp c)<|m3 0 k (by omega) hk;have e:=zjy (i:=0) hz fun k _ hk=>all k hk;have dn:Dn r p m:=fun i j a b=>by rw[all i (by omega),all j b];exact DJ _
       refine Hd.mono (fun u hu=>?_)<|zfB (zgo (i:=0) hz hb) ((znO _ _ _).trans hs) m1 (by omega)<|(dn.more<|.inr<|Dq lt).same e;exact⟨hu.1,hu.2.1.trans<|zlA _ _ _,hu.2.2⟩
   . rw[if_neg g];have m1':m=1:=by omega
     subst m1';have dn:Dn r p 1:=fun i j a b=>by
       have:i=j:=by omega
       rw[this];exact DJ _
     exact zfB hb hs (Af _) (by omega)<|dn.more<|.inr<|Dq lt
def zhg{p:Array Nat}{k:Nat}(hb:Bel n p)(hu:Up r p k):∀ (f a b:Nat),a<=b->b<=k->b<=a+f->(∀ x,x < a->R r p x<=R r p k)->(∀ x,b<=x->x < k->R r p k<=R r p x) ->
   Hd n r (kas_place p k f a b) fun l=>l<=k/\(∀ x,x < l->R r p x<=R r p k)/\∀ x,l<=x->x < k->R r p k<=R r p x
 | 0,a,b,h1,h2,h3,hl,hr=>by
   have:a=b:=by omega
   subst this;exact⟨h2,hl,hr⟩
 | f+1,a,b,h1,h2,h3,hl,hr=>by
   unfold kas_place
   by_cases g:a ≥ b
   . rw[if_pos g];have:a=b:=by omega
     subst this;exact⟨h2,hl,hr⟩
   . rw[if_neg g];refine⟨⟨hb _,hb _⟩,?_⟩
     by_cases c:r (p.getD k 0) < r (p.getD ((a+b) / 2) 0)
     . refine zkx c ?_;refine zhg hb hu f a ((a+b) / 2) (by omega) (by omega) (by omega) hl fun x x1 x2=>?_;exact D3 (Dq c)<|hu ((a+b) / 2) x x1 x2
     refine zky c ?_;refine zhg hb hu f ((a+b) / 2+1) b (by omega) h2 (by omega) (fun x hx=>?_) hr;exact D3 (hu x ((a+b) / 2) (by omega)<|by omega)<|Int.not_lt.mp c
def zrz{N:Nat}:∀ (f:Nat) (p:Array Nat) (k:Nat),Bel n p->p.size=N->k+f=N->Up r p k->Hd n r (kas_bin f p k) fun q=>q.Perm p/\Up r q N
 | 0,p,k,hb,hs,hk,hu=>⟨Dj _,by rw[<-hk];exact hu⟩
 | f+1,p,k,hb,hs,hk,hu=>by
   unfold kas_bin;refine Hd.bind<|Hd.mono (fun l hl=>?_)<|zhg hb hu k 0 k (AY _) (Af _) (by omega) (fun x hx=>absurd hx (Hj _)) fun x a b=>absurd (Ay b a) (AX _);obtain⟨l1,l2,l3⟩:=hl;have hks:k < p.size:=by omega
   refine Hd.mono (fun q hq=>⟨hq.1.trans<|bubble_perm _ _ _,hq.2⟩)<|zrz f (bubble p k<|k - l) (k+1) (zrv hks (by omega) hb) ((bubble_size _ _ _).trans hs) (by omega) fun i j hij hj=>?_;have g:∀ x,R r (bubble p k<|k - l) x=if x=l then R r p k else if l < x/\x<=k then R r p (x - 1) else R r p x:=fun x=>by
     unfold R;rw[znd hks (by omega)];have e:k - (k - l)=l:=by omega
     rw[e]
     by_cases a1:x=l
     . rw[if_pos a1,if_pos a1]
     . rw[if_neg a1,if_neg a1]
       by_cases a2:l < x/\x<=k
       . rw[if_pos a2,if_pos a2]
       rw[if_neg a2,if_neg a2]
   rw[g i,g j]
   by_cases h1:i=l
   . rw[if_pos h1]
     by_cases h2:j=l
     . rw[if_pos h2];exact DJ _
     rw[if_neg h2,if_pos (by omega)];exact l3 (j - 1) (by omega)<|by omega
   . rw[if_neg h1]
     by_cases h2:j=l
     . rw[if_pos h2,if_neg (by omega)];exact l2 i<|by omega
     . rw[if_neg h2]
       by_cases h3:l < i/\i<=k
       . rw[if_pos h3,if_pos (by omega)];exact hu (i - 1) (j - 1) (by omega)<|by omega
       . rw[if_neg h3]
         by_cases h4:l < j/\j<=k
         . rw[if_pos h4];exact hu i (j - 1) (by omega)<|by omega
         rw[if_neg h4];exact hu i j hij<|by omega
def zlC(hn:1<=n):Bel n (CB<|AV n):=fun k=>by
 rw[BS,CZ]
 by_cases h:k < n
 . rw[Dc h];exact h
 rw[List.getElem?_eq_none_iff.mpr (by rw[CT];omega)];exact hn
def sort_ok(hn:1<=n):Hd n r (kas_sort n) fun q=>q.Perm (CB<|AV n)/\Up r q n:=by
 unfold kas_sort;have hs:(CB<|AV n).size=n:=by simp
 refine Hd.bind<|Hd.mono (fun t ht=>?_)<|zo1 (zlC hn) hs hn;obtain⟨t1,t2,t3,t4,t5⟩:=ht
 by_cases h:t.1 < n
 . rw[if_pos h];have e:max t.1 1=t.1:=Nat.max_eq_left t3;rw[e];refine Hd.mono (fun q hq=>⟨hq.1.trans t2,hq.2⟩)<|zrz (N:=n) (n - t.1) t.2 t.1 t1 (t2.size_eq.trans hs) (by omega) t5
 . rw[if_neg h];have e:t.1=n:=by omega
   exact⟨t2,by rw[<-e];exact t5⟩
end
end Srt
namespace L2.MP
open PySem PySem.Spec PyProof.Rows
def zon:∀ a:List Int,HT.lexLt a a=false
 | []=>rfl
 | x::r=>by rw[HT.lexLt_cons,if_pos rfl];exact zon r
def zmS:∀ {a b:List Int},HT.lexLt a b=false->HT.lexLt b a=false->a=b
 | [],[],_,_=>rfl
 | [],_::_,h,_=>by rw[HT.lexLt_nil_cons] at h;cases h
 | _::_,[],_,h=>by rw[HT.lexLt_nil_cons] at h;cases h
 | x::a,y::b,h1,h2=>by
   rw[HT.lexLt_cons] at h1 h2
   by_cases e:x=y
   . subst e;rw[if_pos rfl] at h1 h2;rw[zmS h1 h2]
   rw[if_neg e] at h1;rw[if_neg (BV e)] at h2;have a1:=of_decide_eq_false h1;have a2:=of_decide_eq_false h2;omega
def zj6:∀ {a b c:List Int},HT.lexLt b a=false->HT.lexLt c b=false->HT.lexLt c a=false
 | a,[],c,_,h2=>by
   cases c with
   | nil =>
     cases a with
     | nil=>rfl
     | cons x a=>rename_i h1;rw[HT.lexLt_nil_cons] at h1;cases h1
   | cons z c =>
     cases a with
     | nil=>exact HT.lexLt_cons_nil _ _
     | cons x a=>rename_i h1;rw[HT.lexLt_nil_cons] at h1;cases h1
 | a,y::b,[],_,h2=>by rw[HT.lexLt_nil_cons] at h2;cases h2
 | [],y::b,z::c,_,_=>HT.lexLt_cons_nil _ _
 | x::a,y::b,z::c,h1,h2=>by
   rw[HT.lexLt_cons] at h1 h2 ⊢
   by_cases e1:y=x
   . subst e1;rw[if_pos rfl] at h1
     by_cases e2:z=y
     . subst e2;rw[if_pos rfl] at h2 ⊢;exact zj6 h1 h2
     rw[if_neg e2] at h2 ⊢;exact h2
   . rw[if_neg e1] at h1;have a1:=of_decide_eq_false h1
     by_cases e2:z=y
     . subst e2;rw[if_neg e1];exact h1
     rw[if_neg e2] at h2;have a2:=of_decide_eq_false h2;rw[if_neg (by omega)];exact decide_eq_false<|by omega
def zgx{a b:List Int}(h:HT.lexLt a b=true):HT.lexLt b a=false:=by
 cases e:HT.lexLt b a with
 | false=>rfl
 | true =>
   -- b < a and a < b: then not (a < a) breaks
   exfalso;have:∀ {a b:List Int},HT.lexLt a b=true->HT.lexLt b a=true->False:=by
     intro a
     induction a with
     | nil=>intro b h1 h2;cases b with
       | nil=>rw[HT.lexLt_nil_nil] at h1;cases h1
       | cons y b=>rw[HT.lexLt_cons_nil] at h2;cases h2
     | cons x a ih=>intro b h1 h2;cases b with
       | nil=>rw[HT.lexLt_cons_nil] at h1;cases h1
       | cons y b =>
         rw[HT.lexLt_cons] at h1 h2
         by_cases q:x=y
         . subst q;rw[if_pos rfl] at h1 h2;exact ih h1 h2
         rw[if_neg q] at h1;rw[if_neg (BV q)] at h2;have a1:=of_decide_eq_true h1;have a2:=of_decide_eq_true h2;omega
   exact this h e
def tle(a b:List Int):Bool:=!HT.lexLt b a
def zfO(ts:List (List Int)):List (List Int):=ts.mergeSort tle
def zcv(a b c:List Int)(h1:tle a b=true)(h2:tle b c=true):tle a c=true:=by unfold tle at *;rw[B2] at *;exact zj6 h1 h2
def zc3(a b:List Int):(tle a b || tle b a)=true:=by
 unfold tle
 cases e:HT.lexLt b a with
 | false=>rfl
 | true=>rw[zgx e];rfl
def zg8{a b:List Int}(h1:tle a b=true)(h2:tle b a=true):a=b:=by unfold tle at *;rw[B2] at *;exact zmS h2 h1
def rank(ts:List (List Int))(i:Nat):Int:=((ts.countP fun t=>HT.lexLt t (ts.getD i [])):Nat)
variable {ts:List (List Int)}{i j:Nat}
def zmI(hi:i < ts.length):(decide (rank ts i < rank ts j))=HT.lexLt (ts.getD i []) (ts.getD j []):=by
 unfold rank
 cases e:HT.lexLt (ts.getD i []) (ts.getD j []) with
 | true =>
   refine decide_eq_true ?_;have le:ts.countP (fun t=>HT.lexLt t (ts.getD i [])) < ts.countP (fun t=>HT.lexLt t (ts.getD j [])):=by
     have hm:ts.getD i []∈ts:=by rw[Ar,Ak hi];exact BK hi
     generalize ha:ts.getD i []=a at *;generalize hb:ts.getD j []=b at *;clear ha hb hi;have sub:∀ t,HT.lexLt t a=true->HT.lexLt t b=true:=fun t ht=>by
       cases q:HT.lexLt t b with
       | true=>rfl
       | false =>
         exfalso
         -- b<=t,t < a,a < b
         have h1:HT.lexLt a t=false:=zgx ht;have:HT.lexLt a b=false:=by
           have h2:tle b t=true:=by unfold tle;rw[q];rfl
           have h3:tle t a=true:=by unfold tle;rw[h1];rfl
           have:=zcv b t a h2 h3;unfold tle at this;rw[B2] at this;exact this
         rw[e] at this;cases this
     induction ts with
     | nil=>exact absurd hm (by simp)
     | cons t r ih =>
       rw[GW,GW]
       rcases List.mem_cons.mp hm with q | q
       . subst q;rw[zon,e];have:r.countP (fun t=>HT.lexLt t a)<=r.countP (fun t=>HT.lexLt t b):=FQ fun t _ ht=>sub t ht;simp only[Aw,if_false,if_true];omega
       . have:=ih q
         by_cases c:HT.lexLt t a=true
         . rw[if_pos c,if_pos (sub t c)];omega
         rw[if_neg c];split <;> omega
   omega
 | false =>
   refine decide_eq_false ?_;have le:ts.countP (fun t=>HT.lexLt t (ts.getD j []))<=ts.countP (fun t=>HT.lexLt t (ts.getD i [])):=FQ fun t _ ht=>by
     cases q:HT.lexLt t (ts.getD i []) with
     | true=>rfl
     | false =>
       exfalso;have h2:tle (ts.getD j []) (ts.getD i [])=true:=by unfold tle;rw[e];rfl
       have h3:tle (ts.getD i []) t=true:=by unfold tle;rw[q];rfl
       have h4:=zcv _ _ _ h2 h3;unfold tle at h4;rw[ht] at h4;cases h4
   omega
variable {n:Nat}{α:Type}{s:Shared}
def ztf{n:Nat}{r:Nat->Int}{α:Type}{P:α->Prop}{Q:α->Shared->Prop}{s:Shared}{cmp:Nat->Nat->(Bool->Shared->Prop)->Shared->Prop}(hc:∀ i j,i < n->j < n->∀ C:Bool->Shared->Prop,C (decide (r i < r j)) s->cmp i j C s)(hq:∀ a,P a->Q a s) :
   ∀ {t:PySem.W.KasT α},Srt.Hd n r t P->t.kasWp cmp Q s
 | .ret a,h=>hq a h
 | .ask i j k,h=>hc i j h.1.1 h.1.2 _<|ztf hc hq (t:=k _) h.2
variable {prog:Program}{w:World}{A:Around}{E:Value->Shared->Prop}
def zfA{Q:Bool->Shared->Prop}:∀ {xs ys:List Int} {us ws:List Value} (i:Nat),Vals (xs.map V.int) us->Vals (ys.map V.int) ws->Q (HT.lexLt xs ys) s->PySem.W.KatLex prog w A true (decide (us.length < ws.length)) Q (us.zip ws) i s
 | [],[],_,_,i,.nil,.nil,h=>h
 | [],y::ys,_,_,i,.nil,.cons r t,h=>by show Q (decide (_ < _)) s;rw[decide_eq_true (by simp)];exact h
 | x::xs,[],_,_,i,.cons r t,.nil,h=>by show Q (decide (_ < _)) s;rw[decide_eq_false (by simp)];exact h
 | x::xs,y::ys,_,_,i,.cons r1 t1,.cons r2 t2,h=>by
   obtain⟨a1,rfl⟩:=r1;obtain⟨a2,rfl⟩:=r2;rw[HT.lexLt_cons] at h;refine Gs x a1 y a2 prog w _ _ ?_
   by_cases e:x=y
   . subst e;rw[if_pos rfl] at h;rw[beq_self_eq_true,if_pos rfl];have:=zfA (Q:=Q) (i+1) t1 t2 h;rw[AA,AA];have e2:∀ a b:Nat,decide (a+1 < b+1)=decide (a < b):=fun a b=>by
       by_cases q:a < b
       . rw[decide_eq_true q,decide_eq_true (by omega)]
       rw[decide_eq_false q,decide_eq_false (by omega)]
     rw[e2];exact this
   . rw[if_neg e] at h;have hb:(x==y)=false:=by simpa using e
     rw[hb,if_neg Bn]
     by_cases hi:i=0
     . subst hi;exact oneLt_int h
     . have:(true&&i==0)=false:=by simpa using hi
       rw[this];exact PySem.W.kat_one _ _<|G6 h
variable {X:Cx}{pins:List (Addr×Obj)}{M:L2.St}{H:Hp}
def zdc(H:Hp):List V->List (List Int)->Prop:=Paired fun v t=>∃ a,v=.ref a/\H a=some (.tup<|t.map V.int)/\t≠[]
def zeN:∀ {xs:List V} {ts:List (List Int)} {i:Nat},zdc H xs ts->i < ts.length->∃ a,xs[i]?=some (.ref a)/\H a=some (.tup<|(ts.getD i []).map V.int)/\ts.getD i []≠[]
 | _,[],i,_,hi=>absurd hi<|by simp
 | _,t::ts,0,.cons r q,_=>by obtain⟨a,rfl,ha,hn⟩:=r;exact⟨a,rfl,ha,hn⟩
 | _,t::ts,i+1,.cons r q,hi=>by have:=zeN (i:=i) q (by simpa using hi);simpa using this
def zrD{xs:List V}{us:List Value}{s':Shared}(I:Inv X pins M H s)(hk:∀ b o,H b≠none->s.heap.get? b=some o->s'.heap.get? b=some o)(T:zdc H xs ts)(r:Vals xs us)(hi:i < ts.length)(hj:j < ts.length)(C:Bool->Shared->Prop)
   (h:C (decide (rank ts i < rank ts j)) s'):Hk X.prog X.w A (PyProof.Rows.tuples' true) us i j C s':=by
 rw[zmI hi] at h;obtain⟨a,ea,ha,_⟩:=zeN T hi;obtain⟨b,eb,hb,_⟩:=zeN T hj;obtain⟨u,eu,ru⟩:=r.get ea;obtain⟨u2,eu2,ru2⟩:=r.get eb;cases ru;cases ru2;obtain⟨ia,va,⟨oa,ga,ca,na,da⟩,_⟩:=I.tuple<|SqT.of (K:=X.K) ha;obtain⟨ib,vb,⟨ob,gb,cb,nb,db⟩,_⟩:=I.tuple<|SqT.of (K:=X.K) hb;unfold Hk;rw[Ar,Ar,eu,eu2];refine PySem.W.kat_lt (hk _ _ (by rw[ha];simp) ga) da (hk _ _ (by rw[hb];simp) gb) db ?_;have:=zfA (prog:=X.prog) (w:=X.w) (A:=A) (Q:=C) (s:=s') 0 va vb h;simpa using this
variable {h':Heap}
def zhx{h':Heap}(I:Inv X pins M H s)(hk:∀ b o,H b≠none->s.heap.get? b=some o->h'.get? b=some o):∀ {xs:List V} {us:List Value} {ts:List (List Int)},zdc H xs ts->Vals xs us ->
   ∃ fs:List Value,PySem.W.KatTups h' us fs/\fs.length=us.length/\∀ v∈fs,∃ i t,v=Gn i t
 | _,_,[],.nil,.nil=>⟨[],HX,rfl,fun v hv=>absurd hv (by simp)⟩
 | _,_,t::ts,.cons r q,.cons rv rvs=>by
   obtain⟨a,rfl,ha,hn⟩:=r;cases rv;obtain⟨fs,h1,h2,h3⟩:=zhx I hk q rvs;obtain⟨its,va,⟨o,g,c,n,d⟩,_⟩:=I.tuple<|SqT.of (K:=X.K) ha
   cases t with
   | nil=>exact absurd rfl hn
   | cons x t =>
     cases va with
     | @cons _ u _ us' ru rus =>
       obtain⟨tk,rfl⟩:=ru;refine⟨.int x tk::fs,HV (hk _ _ (by rw[ha];simp) g) c d (by simp) h1,by rw[AA,AA,h2],fun v hv=>?_⟩
       rcases List.mem_cons.mp hv with rfl | hv
       . exact⟨x,tk,rfl⟩
       exact h3 v hv
variable {a:Addr}{P:Program}{h:Heap}
def zh5{o:HO}(x:zdN P w H h a o):∃ u,h.get? a=some u:=by
 cases o with
 | lst xs=>obtain⟨_,_,_,_,e⟩:=x;exact⟨_,e⟩
 | tup xs=>obtain⟨_,_,_,o,e,_⟩:=x;exact⟨_,e⟩
 | dK kvs=>obtain⟨_,_,_,_,o,_,_,e,_⟩:=x;exact⟨_,e⟩
 | dT kvs=>obtain⟨_,_,_,_,o,_,_,e,_⟩:=x;exact⟨_,e⟩
 | set S n=>obtain⟨o,_,_,_,e,_⟩:=x;exact⟨_,e⟩
 | ins C dx fs=>obtain⟨_,_,_,e,_⟩:=x;exact⟨_,e⟩
 | own y=>exact x
 | xd fs=>obtain⟨_,⟨_,_,_,e,_⟩,_⟩:=x;exact⟨_,e⟩
 | rng lo hi=>obtain⟨_,_,_,e⟩:=x;exact⟨_,e⟩
 | frz ob u=>obtain⟨e,_⟩:=x;exact⟨_,e⟩
 | tbl ps=>exact⟨_,x⟩
 | met f y=>exact⟨_,x⟩
 | ext φ=>obtain⟨_,e,_⟩:=x;exact e
variable {m:Str->Option Value}
def zqW{m':Str->Option Value}(x:h.Ns a m)(y:h.Ns a m'):m=m':=by
 obtain⟨o,es,ep,ho,hd,_,hm⟩:=x;obtain⟨o',es',ep',ho',hd',_,hm'⟩:=y;rw[ho] at ho';cases ho';rw[hd] at hd';cases hd'
 funext n
 rw[<-hm n,hm' n]
variable {l:Addr}
def Inv.laidAt{m:Str->Option Value}{o:HO}(I:Inv X pins M H s)(k:∀ b u,b≠X.env.locals->s.heap.get? b=some u->h'.get? b=some u)(ns:∀ m,s.heap.Ns X.env.locals m->h'.Ns X.env.locals m)(hL:∃ u,h'.get? X.env.locals=some u)
   (ha:s.heap.get? a=none) (hH:H a=none) (haL:a≠X.env.locals) (new:zdN X.prog X.w (upd H a o) h' a o):Inv X pins M (upd H a o) { s with heap:=h' }:=by
 have na:∀ b u,s.heap.get? b=some u->b≠a:=fun b u e z=>by rw[z,ha] at e;cases e
 refine Inv.step (t':=s.toks) (ch:=[]) (g':=s.gens) (d':=s.drawn) I (fun b hb=>absurd hb (by simp)) (fun b u h1 _ _ e _=>k b u h1 e) (fun b u h1 _ _ e _=>⟨u.slots,k b u h1 e⟩) (fun b u _ e n=>by rw[zaV (na b u e)];exact n) (fun b u _ e=>?_)
   (fun b xs e=>by rw[zaV (zaF e hH)];exact e) (fun b u v e=>by rw[zaV (zaF e hH)];exact e) (fun b ps e=>⟨#[],by rw[zaV (zaF e hH),e];simp⟩) ns (fun b u e=>?_) I.bare
 . by_cases hb:b=X.env.locals
   . rw[hb];exact hL
   exact⟨u,k b u hb e⟩
 . by_cases hb:b=a
   . subst hb;rw[zbP] at e;cases e;exact new
   . rw[zaV hb] at e;refine (I.hok b u e).stay (fun c v hc q=>k c v (fun z=>?_) q) (fun c q=>by rw[zaV (zaF q hH)];exact q) fun c xs q=>by rw[zaV (zaF q hH)];exact q
     subst z
     rcases hc with rfl | hc
     . rw[I.free] at e;cases e
     rw[I.free] at hc;cases hc
def ziz{xs:List V}{Q:VK}(I:Inv X pins M H s)(hl:SqL X.K H l xs)(T:zdc H xs ts)(h2:2<=ts.length)(h64:ts.length < 64)
   (h:∀ (q:Array Nat) (p:Addr),q.Perm (CB<|AV ts.length)->Srt.Up (rank ts) q ts.length->H p=none->Q (.ref p) (upd H p<|.lst<|q.toList.map fun i=>xs.getD i .non)) :
   wpAny (model X.prog X.w) X.A (call (.builtin "sorted") [.ref l]) (EP X pins M Q) X.xe s:=by
 obtain⟨its,rv,pl,hz⟩:=I.list hl;have hlen:its.length=ts.length:=by have a:=rv.length;have b:=BF T;omega
 obtain⟨m,F⟩:=I.fr;have trkL:∀ b,H b≠none->b≠X.env.locals:=fun b hb z=>hb (by rw[z];exact I.free);have trkB:∀ b,H b≠none->X.base.get? b=none:=fun b hb=>by
   cases e:X.base.get? b with
   | none=>rfl
   | some o=>exact absurd (I.bs b o e).2 hb
 refine PySem.W.kat_sorted F (zhr (g:=X.base) (h:=s.heap) (L:=X.env.locals)) pl.isList (by omega) (by omega) fun D e1 h' F' N' hlt=>?_;have keep:∀ {h2:Heap} {o:Obj},Fr X.base X.env.locals h2 m->News X.base X.env.locals h2 ((D,o)::zfe X.base s.heap X.env.locals)->∀ b u,b≠X.env.locals->s.heap.get? b=some u->h2.get? b=some u:=fun {h2 o} F2 N2 b u hb e=>by
   cases q:X.base.get? b with
   | some v =>
     have z:=(I.bs b v q).1;rw[e] at z;cases z;exact F2.keep b _ q
   | none=>exact (N2 (b,u)<|Ah _<|zd3 hb q e).1
 have hk:∀ b o,H b≠none->s.heap.get? b=some o->h'.get? b=some o:=fun b o hb e=>keep F' N' b o (trkL b hb) e;have hDD:=N' _ Aj;have hsD:s.heap.get? D=none:=by
   cases e:s.heap.get? D with
   | none=>rfl
   | some u=>exact absurd (hlt _<|zd3 hDD.2.1 hDD.2.2 e)<|AX _
 have hHD:H D=none:=by
   cases e:H D with
   | none=>rfl
   | some o =>
     obtain⟨u,hu⟩:=zh5<|I.hok D o e;rw[hsD] at hu;cases hu
 obtain⟨fs,k1,k2,k3⟩:=zhx (h':=h') I hk T rv;refine GX (s:={ s with heap:=h' }) (T:=.type "int") k1 (by omega) (fun v hv=>?_) rfl ?_
 . obtain⟨i,t,rfl⟩:=k3 v hv;exact FR rfl
 have ok:=Srt.sort_ok (n:=its.length) (r:=rank ts) (by omega);refine ztf (n:=its.length) (r:=rank ts) (s:={ s with heap:=h' }) (fun i j hi hj C hC=>zrD (s':={ s with heap:=h' }) I hk T rv (by omega) (by omega) C hC) (fun q hq=>?_) ok;refine F8 F' N' (GM fun p hp=>Ap (hlt p hp)) fun h2 c F2 N2=>?_;have hD2:=(N2 _ Aj).1;rw[hlen] at hq;have vals:Vals (q.toList.map fun i=>xs.getD i .non) (q.toList.map fun i=>its.getD i AZ):=by
   have hmem:∀ i∈q.toList,i < xs.length:=fun i hi=>by have:i∈(CB<|AV ts.length).toList:=(Array.perm_iff_toList_perm.mp hq.1).mem_iff.mp hi;have hr:=rv.length;simp at this;omega
   generalize q.toList=ql at hmem
   induction ql with
   | nil=>exact .nil
   | cons i r ih =>
     refine .cons ?_<|ih fun j hj=>hmem j (Ah _ hj);have hi:=hmem i Aj;obtain⟨u,eu,ru⟩:=rv.get<|Ak hi;show RelV (xs.getD i V.non) (its.getD i AZ);rw[Ar,Ar,Ak hi,eu];exact ru
 have hql:q.toList.length=ts.length:=by have:=(Array.perm_iff_toList_perm.mp hq.1).length_eq;simpa using this
 have J:Inv X pins M (upd H D<|.lst<|q.toList.map fun i=>xs.getD i .non) { s with heap:=h2 } :=
   Inv.laidAt (m:=m) I (keep F2 N2) (fun m' hm'=>by rw[zqW hm' F.ns];exact F2.ns) (let ⟨o,_,_,e,_⟩:=F2.ns;⟨o,e⟩) hsD hHD hDD.2.1 ⟨by rw[Ai,hql];exact lt64 h64,_,c,vals,hD2⟩
 exact⟨.ref D,_,J,rfl,h q D hq.1 hq.2 hHD⟩
def zf5(ts:List α)(d:α):(AV ts.length).map (fun i=>ts.getD i d)=ts:=by
 apply GY
 . simp
 intro i h1 h2;simp[Ar,Ak h2]
def zfw{q:Array Nat}(hp:q.Perm (CB<|AV ts.length))(hu:Srt.Up (rank ts) q ts.length):q.toList.map (fun i=>ts.getD i [])=zfO ts:=by
 have hl:=Array.perm_iff_toList_perm.mp hp;have hl:q.toList.Perm (AV ts.length):=by simpa using hl
 have hsz:q.toList.length=ts.length:=by rw[hl.length_eq,CT]
 have p1:(q.toList.map fun i=>ts.getD i []).Perm ts:=by have:=hl.map fun i=>ts.getD i [];rw[zf5] at this;exact this
 refine zdf (le:=fun a b=>tle a b=true) (p1.trans (Bg ts tle).symm) ?_ (Bd (fun a b c=>zcv a b c) zc3 ts) fun a _ b _=>zg8;rw[EM];intro i j hi hj hij;rw[GZ,GZ];rw[Ai] at hi hj;have hu:=hu i j (Cy hij) (by omega);have gi:∀ (k:Nat) (hk:k < q.toList.length),q.getD k 0=q.toList[k]:=fun k hk=>by rw[BS,<-AD,Ak hk];rfl
 unfold Srt.R at hu;rw[gi i hi,gi j hj] at hu;have lt:∀ k∈q.toList,k < ts.length:=fun k hk=>List.mem_range.mp<|hl.mem_iff.mp hk;have e:=zmI (ts:=ts) (i:=q.toList[j]) (j:=q.toList[i])<|lt _<|BK hj;rw[decide_eq_false (by omega)] at e;unfold tle;rw[<-e];rfl
def intsOf:List D->Option (List Int)
 | []=>some []
 | .int i::r=>(intsOf r).map fun is=>i::is
 | _=>none
def ziO{d:D}{r:List D}{ss:List Int}(h:intsOf (d::r)=some ss):∃ x xs,d=.int x/\intsOf r=some xs/\ss=x::xs:=by
 cases d with
 | int x =>
   obtain⟨xs,e,h⟩:=zaj h;exact⟨x,xs,rfl,e,h.symm⟩
 | _=>cases h
def rowOf:D->Option (List Int)
 | .tup ds=>(intsOf ds).bind fun t=>if (!t.isEmpty)=true then some t else none
 | _=>none
def rowsOf:List D->Option (List<|List Int)
 | []=>some []
 | d::r=>(rowOf d).bind fun t=>(rowsOf r).map fun ts=>t::ts
def tupD(t:List Int):D:=.tup<|t.map D.int
variable {K:Ae}{io:List Addr}{st st':Sto}
def ints_rep:∀ {xs:List V} {ds:List D} {t:List Int},Reps K H io xs ds->intsOf ds=some t->xs=t.map V.int/\ds=t.map D.int
 | _,[],t,h,e=>by cases e;exact⟨h,rfl⟩
 | _,d::ds,t,h,e=>by
   obtain⟨y,ys,rfl,h1,h2⟩:=h;obtain⟨x,rest,rfl,e2,rfl⟩:=ziO e;obtain⟨a,b⟩:=ints_rep h2 e2
   cases (show y=.int x from h1)
   rw[a,b];exact⟨rfl,rfl⟩
def zjw:∀ {xs:List V} {ds:List D} {ts:List (List Int)},Reps K H io xs ds->rowsOf ds=some ts->zdc H xs ts/\ds=ts.map tupD
 | _,[],ts,h,e=>by cases e;cases (show _=[] from h);exact⟨.nil,rfl⟩
 | _,d::ds,ts,h,e=>by
   obtain⟨y,ys,rfl,h1,h2⟩:=h;obtain⟨t,e1,e⟩:=zae e;obtain⟨us,e2,e⟩:=zaj e;subst e;obtain⟨a,b⟩:=zjw h2 e2
   cases d with
   | tup zs =>
     obtain⟨t',f1,f2⟩:=zae e1;obtain⟨hn,f2⟩:=zau f2;cases f2;obtain⟨p,vs,rfl,hp,rs⟩:=h1;obtain⟨q1,q2⟩:=ints_rep rs f1;subst q1;refine⟨.cons ⟨p,rfl,hp,fun z=>?_⟩ a,?_⟩
     . rw[z] at hn;exact absurd hn<|by decide
     rw[b,q2];rfl
   | _=>cases e1
def zfM:GN
 | [.ref n],st=>(zbY st n).bind fun ds=>(rowsOf ds).bind fun ts=>if (decide (2<=ts.length)&&decide (ts.length < 64))=true then some (.ref st.length,st++[.lst ((zfO ts).map tupD)]) else none
 | _,_=>none
def zhZ{xs:List V}{ts:List (List Int)}(r:Reps K H io xs (ts.map tupD)):∀ {q:List Nat},(∀ i∈q,i < ts.length)->Reps K H io (q.map fun i=>xs.getD i .non) ((q.map fun i=>ts.getD i []).map tupD)
 | [],_=>rfl
 | i::q,h=>by
   have hi:=h i Aj;have hg:(ts.map tupD)[i]?=some (tupD<|ts.getD i []):=by rw[AB,Ak hi,Ar,Ak hi];rfl
   obtain⟨v,hv,rv⟩:=r.get hg;refine⟨_,_,rfl,?_,zhZ r fun j hj=>h j (Ah _ hj)⟩;show Rep K H io (xs.getD i .non) _;rw[Ar,hv];exact rv
def zgI:zed X (.builtin "sorted") zfM:=by
 rintro pins s M H xs us Q I r ⟨ds,st,io,d,st',R,S,e,k⟩;unfold zfM at e
 split at e
 . rename_i n;obtain⟨zs,e0,e⟩:=zae e;obtain⟨ts,e1,e⟩:=zae e;obtain⟨hl,e⟩:=zau e;cases e;rw[An] at hl;obtain⟨v,rfl,p,rfl,hp⟩:=R.one;obtain⟨u,rfl,ru⟩:=r.one;cases ru;obtain⟨ys,hx,r1⟩:=zbq S hp e0;obtain⟨T,hd⟩:=zjw r1 e1;subst hd;refine ziz I hx T (of_decide_eq_true hl.1) (of_decide_eq_true hl.2) fun q p' hq hu hf=>?_;have hm:∀ i∈q.toList,i < ts.length:=fun i hi=>by
     have:=(Array.perm_iff_toList_perm.mp hq).mem_iff.mp hi;simpa using this
   have rr:=zhZ r1 hm;rw[zfw hq hu] at rr;exact k.lst S rr hf
 . cases e
variable {ma mb:ME}{pos p:Pos}{g:G2}{k:Nat}{mg:Str->Option Value}{base:Heap}{N ps:List Str}
section
variable {a b c e:Expr} {es:List Expr} {mc m:ME} {mm:MA}
def orO:Option α->Option α->Option α
 | some x,_=>some x
 | none,y=>y
def zcu{x y:Option α}{z:α}(h:orO x y=some z):x=some z\/y=some z:=by
 cases x with
 | none=>exact .inr h
 | some w=>exact .inl h
def orG(g h:G2):G2:=fun x y st=>orO (g x y st)<|h x y st
def orN(g h:GN):GN:=fun xs st=>orO (g xs st)<|h xs st
def zhi{f:Value->Value->Sem Value}{h:G2}(p:OpM X f g)(q:OpM X f h):OpM X f (orG g h):=by
 rintro pins s M H x y v u Q I rx ry ⟨dx,dy,st,io,d,st',Rx,Ry,S,e,k⟩
 rcases zcu e with e | e
 . exact p pins s M H x y v u Q I rx ry ⟨dx,dy,st,io,d,st',Rx,Ry,S,e,k⟩
 exact q pins s M H x y v u Q I rx ry ⟨dx,dy,st,io,d,st',Rx,Ry,S,e,k⟩
def zfd{f:Value}{g h:GN}(p:zed X f g)(q:zed X f h):zed X f (orN g h):=by
 rintro pins s M H xs us Q I r ⟨ds,st,io,d,st',R,S,e,k⟩
 rcases zcu e with e | e
 . exact p pins s M H xs us Q I r ⟨ds,st,io,d,st',R,S,e,k⟩
 exact q pins s M H xs us Q I r ⟨ds,st,io,d,st',R,S,e,k⟩
def zh9{U:Rho}{x y:D}{s0 s1 s2:Sto}{r:D×Sto}(h1:ma U s0=some (x,s1))(h2:mb U s1=some (y,s2))(h3:g x y s2=some r):mBin g ma mb U s0=some r:=by unfold mBin;rw[h1];show HS (mb U s1) _=_;rw[h2];exact h3
def zp8{h:G2}(p:SE X e (mBin g ma mb))(q:SE X e (mBin h ma mb)):SE X e (mBin (orG g h) ma mb):=by
 rintro pins s M H Q I ⟨U,st,io,d,st',E,S,e,k⟩;obtain⟨⟨x,s1⟩,e1,e⟩:=zae e;obtain⟨⟨y,s2⟩,e2,e⟩:=zae e
 rcases zcu e with e | e
 . exact p pins s M H Q I ⟨U,st,io,d,st',E,S,zh9 e1 e2 e,k⟩
 exact q pins s M H Q I ⟨U,st,io,d,st',E,S,zh9 e1 e2 e,k⟩
def zqf{h:G2}(p:SB X e (mTst<|mBin g ma mb))(q:SB X e (mTst<|mBin h ma mb)):SB X e (mTst<|mBin (orG g h) ma mb):=by
 rintro pins s M H Q I ⟨U,st,io,d,st',E,S,e,k⟩;have e:=zjb e;obtain⟨⟨x,s1⟩,e1,e⟩:=zae e;obtain⟨⟨y,s2⟩,e2,e⟩:=zae e
 rcases zcu e with e | e
 . exact p pins s M H Q I ⟨U,st,io,d,st',E,S,by unfold mTst;rw[zh9 e1 e2 e];rfl,k⟩
 exact q pins s M H Q I ⟨U,st,io,d,st',E,S,by unfold mTst;rw[zh9 e1 e2 e];rfl,k⟩
def ztl:G2:=fun d k st=>match d with
 | .ref n=>(look st n k).bind fun r=>r.map fun v=>(v,st)
 | _=>none
def ixA:G2:=orG idxD ztl
def zaR(hu:X.A.units+1 < cLine)(ha:SE X a ma)(hb:SE X b mb)(hs:zkW b:=by intro _ _;rfl)(hs':NoSl b:=by intro _ _;rfl):SE X (.Subscript a b pos) (mBin ixA ma mb) :=
 zp8 (zt0 ha hb hs) (show SE X (.Subscript a b pos) (ztD ma mb) from zqd hu ha hb hs')
def dinD(neg:Bool):G2:=fun k d st=>match d with
 | .ref n=>(look st n k).map fun r=>(.bl (if neg then !r.isSome else r.isSome),st)
 | _=>none
def inA:G2:=orG (orG (inD false) inSD)<|dinD false
def zhp:G2:=orG (inD true)<|dinD true
def zlq(hu:X.A.units+100 < cLine)(ha:SE X a ma)(hb:SE X b mb)(hm:behindInMarks .In b=false:=by rfl):SE X (.Compare a [.In] [b] pos) (mBin inA ma mb) :=
 zp8 (zeu (zhi (zsR hu) zqN) ha hb hm) (show SE X _ (mDIn false ma mb) from zsg (by omega) ha hb hm)
def zhS(hu:X.A.units+100 < cLine)(ha:SE X a ma)(hb:SE X b mb)(hm:behindInMarks .NotIn b=false:=by rfl):SB X (.Compare a [.NotIn] [b] pos) (mTst<|mBin zhp ma mb) :=
 zqf (zbR (zlH hu) ha hb hm) (show SB X _ (mTst<|mDIn true ma mb) from zlu (by omega) ha hb hm)
def slA:D->Option Int->Option Int->Sto->Option (D×Sto):=fun x lo hi st=>orO (slD x lo hi st)<|slS x lo hi st
def mSlA(m:ME)(l h:MO):ME:=fun U st=>(m U st).bind fun (x,s1)=>(l U s1).bind fun (lo,s2)=>(h U s2).bind fun (hi,s3)=>slA x lo hi s3
def zeE{lo hi:Option Expr}{ml mh:MO}{p2:Pos}(he:SE X e m)(hl:SO X lo ml)(hu:SO X hi mh):SE X (.Subscript e (.Slice lo hi none p2) pos) (mSlA m ml mh):=by
 rintro pins s M H Q I ⟨U,st,io,d,st',E,S,e0,k⟩;obtain⟨⟨x,s1⟩,e1,e0⟩:=zae e0;obtain⟨⟨lo',s2⟩,e2,e0⟩:=zae e0;obtain⟨⟨hi',s3⟩,e3,e0⟩:=zae e0
 rcases zcu e0 with e0 | e0
 . exact znI he hl hu pins s M H Q I ⟨U,st,io,d,st',E,S,by simp only[mSl,e1,e2,e3,Ac];exact e0,k⟩
 exact zln he hl hu pins s M H Q I ⟨U,st,io,d,st',E,S,by simp only[mSlS,e1,e2,e3,Ac];exact e0,k⟩
def zmq:D->Sto->Option (Wk×Sto)
 | .ref n,s=>(zbY s n).map fun ds=>(⟨ds,[(n,ds)]⟩,s)
 | .tup ds,s=>some (⟨ds,[]⟩,s)
 | _,_=>none
def mW(m:ME):MI:=fun U st=>(m U st).bind fun (d,s)=>zmq d s
def zmB{tg l:Expr}(hl:SE X l m):SI X tg l (mW m):=by
 rintro pins s M H R I ⟨U,st,io,W,st',E,S,e0,k⟩;obtain⟨⟨d,s1⟩,e1,e0⟩:=zae e0
 cases d with
 | ref n=>exact zpR hl pins s M H R I ⟨U,st,io,W,st',E,S,by unfold mWL;rw[e1];exact e0,k⟩
 | tup ds=>exact zsa hl pins s M H R I ⟨U,st,io,W,st',E,S,by unfold mWT;rw[e1];exact e0,k⟩
 | _=>cases e0
def setD:G3:=fun o i v st=>match o,i with
 | .ref n,.int k=>match st[n]? with
   | some (.lst ds)=>(ixN ds.length k).map fun j=>st.set n<|.lst<|ds.set j v
   | _=>none
 | _,_=>none
def ztY:SetM X setD:=by
 rintro pins s M H o i v ov iv u Q I ro ri rv ⟨d1,d2,d3,st,io,st',R1,R2,R3,S,e,k⟩
 cases d1 with
 | ref n =>
   cases d2 with
   | int j =>
     unfold setD at e;dsimp only at e
     split at e
     . rename_i ds e0;obtain⟨q,e1,e⟩:=zaj e;cases e;obtain⟨p,rfl,hp⟩:=R1;obtain⟨ys,hH,r⟩:=S.ob n p _ hp e0;refine set_list pins s M H _ _ v ov iv u Q I ro ri rv ⟨p,ys,j,q,rfl,R2,hH,by rw[r.length];exact e1,?_⟩;obtain⟨E',S'⟩:=zjA (o:=.lst (ys.set q v)) (ob:=.lst (ds.set q d3)) S hp e0 (fun o u z=>by rw[hH] at z;cases z) fun H' T e'=>⟨_,e',(Reps.mono T r).set q<|Rep.mono T R3⟩
       exact k _ [] E' S'
     . cases e
   | _=>cases e
 | _=>cases d2 <;> cases e
def putA(mo mi mv:ME):MS:=fun U st=>orO (mAsg mv (gSb setD mo mi) U st)<|zrL mo mi mv U st
def znu{o i value:Expr}{mo mi mv:ME}{pos':Pos}(hu:X.A.units+1 < cLine)(ho:SE X o mo)(hi:SE X i mi)(hv:SE X value mv)(hs:swapsWith value (some<|.Subscript o i pos') pos.line X.env=pure false:=by rfl)
   (ha:∀ v,assign (.Subscript o i pos') X.env v=(do
     let ov <-holding [v] (eval o X.env)
     let iv <-holding [v,ov] (eval i X.env)
     standAt pos'
     holding [v,ov,iv] (setItem ov iv v)
     release [v,ov,iv] []):=by intro _;rfl)
   (hs2:swapsWithSole [.Subscript o i pos'] value pos.line X.env=pure false:=by rfl) (hw:swappedStores [.Subscript o i pos'] value X.env=pure none:=by rfl)
   (h1:(assignEach [.Subscript o i pos'] X.env).map (·.2)=[assign (.Subscript o i pos') X.env]:=by rfl):SS X (.Assign [.Subscript o i pos'] value pos) (putA mo mi mv):=by
 intro pins s M H N I h;obtain⟨U,st,io,f,st',E,S,e,w⟩:=zd0.mp h
 rcases zcu e with e | e
 . exact zr2 hv (zsc ho hi ztY ha) hs2 hw h1 pins s M H N I<|zph E S e w
 exact zpJ hu ho hi hv hs pins s M H N I<|zph E S e w
def mPar(i j:Nat)(mm:MA):MS:=fun U st=>(mm U st).bind fun (xs,s)=>match xs with
 | [x,y]=>some (.nx ((U.set i<|some x).set j<|some y),s)
 | _=>none
def zr0{x y:Str}{px py pt:Pos}{kt k2 pt2}(hc:X.calm=true)(hN:X.N.Nodup)(hi:X.N[i]?=some x)(hj:X.N[j]?=some y)(hij:i≠j)
   (hx:X.env.scope.names.lookup x=some .local) (hy:X.env.scope.names.lookup y=some .local) (ha:SA X [a,b] mm)
   (hw:swappedStores [.Tuple [.Name x px,.Name y py] kt pt] (.Tuple [a,b] k2 pt2) X.env=pure (some [x,y]):=by rfl)
   (hs:swapsWithSole [.Tuple [.Name x px,.Name y py] kt pt] (.Tuple [a,b] k2 pt2) pos.line X.env=pure false:=by rfl) :
   SS X (.Assign [.Tuple [.Name x px,.Name y py] kt pt] (.Tuple [a,b] k2 pt2) pos) (mPar i j mm):=PS.imp (zsr hc hN hi hj hij hx hy ha hw hs) fun N M H h=>by
 obtain⟨U,st,io,f,st',E,S,e,w⟩:=zd0.mp h;obtain⟨⟨xs,s1⟩,e1,e⟩:=zae e
 match xs,e,e1 with
 | [u,v],e,e1 =>
   cases e;refine⟨U,st,io,_,_,E,S,e1,fun vs H1 k1 X1 S1 R1=>?_⟩;obtain⟨p,q,rfl,r1,r2⟩:=R1.two;exact⟨p,q,rfl,w _ H1 k1 X1 S1<|((E.ext S X1).set i r1).set j r2⟩
def zc2(P:Program)(w:World)(K:Ae)(mg:Str->Option Value)(base:Heap)(k:Nat)(x:Str)(n:Nat)(g:GN):Prop :=
 ∃ f fd ps,FnOk P w K mg base CX0 k f fd ps (spM K n g)/\mg x=some (.ref f)/\Cv K (.ref f)=true/\Binds K fd ps []
def zfi(n:Nat)(mm:MA):Prop:=∀ U st xs s,mm U st=some (xs,s)->xs.length=n
def zfi.nil:zfi 0 mNil:=fun _ _ _ _ h=>zol h
def zfi.cons(h:zfi n mm):zfi (n+1) (zab m mm):=fun _ _ _ _ q=>zlP h q
def zeV{x:Str}{g:GN}(F:zc2 X.prog X.w X.K X.mg X.base k x n g)(hr:Room k X.A)(hg:Gl X x)(ha:SA X (e::es) mm)(hl:zfi n mm)(hdb:(x==("__debug__":Str))=false:=by decide)
   (he:starEach (e::es) X.env=(false,eval e X.env)::starEach es X.env:=by rfl) (hpl:(backTo pos<|starEach es X.env).any (·.1)=false:=by rfl) (hn:(e::es).length=n:=by rfl) :
   SE X (.Call (.Name x p) (e::es) [] pos) (zal g mm):=by
 obtain⟨f,fd,ps,F,hm,hk,hb⟩:=F;exact zqe F hr hg hm hk hb ha hdb he hpl hn hl
def Laid(K:Ae)(mg:Str->Option Value)(x:Str)(st:Stmt)(ps:List Str):Prop:=∃ f fd,Fun K x x st f fd/\mg x=some (.ref f)/\Binds K fd ps []
def zrq{x:Str}{st:Stmt}{m:MS}(L:Laid K mg x st ps)(S:FnScope N ps (zaO st))
   (hbody:∀ (f:Addr) (cdv:Value) (A:Around) (outer:List Env) (s:Shared) (H:Hp) (E:XK),Room k (A.deeper<|envOfC x (zaO st) s.heap.objs.size f cdv) ->
     SSs (cxOf CX0 P w K mg base N x (zaO st) f cdv A outer s H E).nox (zcF st) m):zc2 P w K mg base (k+1) x ps.length (fnM N.length m):=by
 obtain⟨f,fd,F,hm,hb⟩:=L;exact⟨f,fd,ps,fn_m F S<|hbody f,hm,F.kp,hb⟩
def noG:GN:=fun _ _=>none
def recG(n:Nat)(G:GN->MS):Nat->GN
 | 0=>noG
 | k+1=>fnM n<|G<|recG n G k
def zm8{P:Program}{w:World}{mg:Str->Option Value}{base:Heap}{x:Str}{st:Stmt}{N ps:List Str}{j:Nat}{G:GN->MS}(L:Laid K mg x st ps)(S:FnScope N ps (zaO st))
   (hbody:∀ (i:Nat) (g:GN),zc2 P w K mg base (j+i) x ps.length g->∀ (f:Addr) (cdv:Value) (A:Around) (outer:List Env) (s:Shared) (H:Hp) (E:XK),Room (j+i) (A.deeper<|envOfC x (zaO st) s.heap.objs.size f cdv) ->
     SSs (cxOf CX0 P w K mg base N x (zaO st) f cdv A outer s H E).nox (zcF st) (G g)):∀ i,zc2 P w K mg base (j+i) x ps.length (recG N.length G i)
 | 0=>by
   obtain⟨f,fd,F,hm,hb⟩:=L;refine⟨f,fd,ps,⟨fun vs H Q E h=>?_,fun A outer s H args us vs Q E hr he hb hv h=>?_⟩,hm,F.kp,hb⟩
   . obtain⟨_,_,_,_,_,h,_⟩:=h;exact h
   obtain⟨_,_,_,_,_,_,_,_,h,_⟩:=h;cases h
 | i+1=>zrq L S fun f cdv A outer s H E hr=>hbody i _ (zm8 L S hbody i) f cdv A outer s H E hr
end
variable {v:Value}
def zlb{at_:Addr}{R:PySem.Fin->Shared->Prop}(g0:s.heap.get? at_=some (seqObj "list" #[v] k))(fin:R (.done<|.ret .none) { s with heap:=sortedHeap s.heap at_ [v] #[v] }) :
   wpAny (model prog w) A (Builtin.«list.sort» ⟨[.ref at_],[]⟩) R E s:=by
 have lt0:=Am g0;obtain⟨ep,g1⟩:∃ ep,(s.heap.update at_<|By fun _=>(#[]:Array Value)).get? at_=some (seqObj "list" #[] ep):=⟨_,get?_update_seq g0 fun _=>#[]⟩
 have g2:(((s.heap.update at_<|By fun _=>(#[]:Array Value)).push<|seqObj "tuple" #[v] 0).push<|seqObj "list" #[] 0).get? at_=some (seqObj "list" #[] ep):=Ad _<|Ad _ g1;rw[list_sort_plain];refine Aa<|listItems_at g0 rfl<|Aa<|Ew g0 rfl<|Aa<|FG g1 rfl<|Aa<|Ed<|Aa<|DN<|AS ?_;show wpAny (model prog w) A _ R E { s with heap:=((s.heap.update at_<|By fun _=>(#[]:Array Value)).push<|seqObj "tuple" #[v] 0).push (seqObj "list" #[] 0) };have two:(#[v]:Array Value).size < 2:=by show 1 < 2;decide
 have same:(arrOf<|HW general' ((#[v]:Array Value).zip #[v]) #[] 7 none).map (·.2)=#[v]:=by show (((#[v]:Array Value).zip #[v]).map (·.2))=#[v];simp
 dsimp only;rw[if_pos two,if_pos two];refine Aa<|Ab ?_;rw[Hl];refine Aa<|Ab ?_;dsimp only;rw[same];refine Aa<|FG g2 rfl<|Aa<|Ew g2 rfl ?_;simp only[bne_self_eq_false,Aw,if_false];exact Ab fin
def ziA{R:Value->Shared->Prop}(hl:s.heap.IsList l [v].toArray)(fin:R (.ref<|s.heap.objs.size+1) { s with heap:=sortedAll s.heap [v] #[v] }) :
   wpAny (model prog w) A (call (.builtin "sorted") [.ref l]) R E s:=by
 have sz:((s.heap.push<|seqObj "list" #[] 0).update s.heap.objs.size (By (·++[v].toArray))).objs.size=s.heap.objs.size+1:=(Heap.size_update ..).trans<|size_push' ..;have g0:(((s.heap.push<|seqObj "list" #[] 0).update s.heap.objs.size (By (·++[v].toArray))).push<|seqObj "list" [v].toArray 0).get? (s.heap.objs.size+1)=some (seqObj "list" [v].toArray 0):=by rw[<-sz];exact Al _ rfl
 refine Dk kind_sorted plain_sorted entry_sorted (Gx _) ?_;unfold Builtin.«sorted»;refine Aa (m:=checkCount "sorted" 1 1 _) (Ab<|Aa<|collect_list hl<|Aa<|DN ?_);show wpAny _ _ _ _ _ { s with heap:=((s.heap.push<|seqObj "list" #[] 0).update s.heap.objs.size (By (·++[v].toArray))).push (seqObj "list" [v].toArray 0) };rw[sz];exact Aa<|AS<|AG FS ⟨_,g0,rfl⟩ Ft (zlb g0 ⟨_,rfl,Ab ⟨_,rfl,fin⟩⟩)<|FT _
def zeT:GN
 | [.ref n],st=>(zbY st n).bind fun ds=>if decide (ds.length=1)=true then some (.ref st.length,st++[.lst ds]) else none
 | _,_=>none
def zgK:zed X (.builtin "sorted") zeT:=by
 rintro pins s M H xs us Q I r ⟨ds,st,io,d,st',R,S,e,k⟩;unfold zeT at e
 split at e
 . rename_i n;obtain⟨zs,e0,e⟩:=zae e;obtain⟨hl,e⟩:=zau e;cases e;obtain⟨y,rfl⟩:=List.length_eq_one_iff.mp<|of_decide_eq_true hl;obtain⟨v,rfl,p,rfl,hp⟩:=R.one;obtain⟨u,rfl,ru⟩:=r.one;cases ru;obtain⟨ys,hx,r1⟩:=zbq S hp e0;obtain⟨its,rv,pl,hz⟩:=I.list hx;obtain⟨y',rfl,ry⟩:=r1.one;obtain⟨i,rfl,ri⟩:=rv.one;refine ziA pl.isList ?_;obtain⟨ep,hat⟩:=sortedAll_at s.heap [i] #[i];have hfree:H (s.heap.objs.size+1)=none:=I.hok.fresh<|BM _;refine⟨.ref<|s.heap.objs.size+1,upd H (s.heap.objs.size+1)<|.lst [y'],I.laid (t':=s.toks) (a:=s.heap.objs.size+1) (fun b o q=>sortedAll_old q) (BM _) ⟨by show 1<=sizeLine;decide,[i],ep,rv,by simpa using hat⟩,rfl,?_⟩;exact k.lst S r1 hfree
 . cases e
def zdv:GN:=orN zdB<|orN zeT zfM
def zfc:zed X (.builtin "sorted") zdv:=zfd zgJ<|zfd zgK zgI
variable {o:Obj}{d:Addr}{es:Array DictEntry}{ep:Nat}{ok ov:Value}
def zkm{o:Obj}{R:Value->Shared->Prop}(ty:s.TypeIs (.ref d) "dict")(hd:(d==sysModules)=false)
   (k:R (.ref s.heap.objs.size) { s with heap:=s.heap.push { cls:=.type "dict_items",data:=.fields #[.ref d] } }):wpAny (model prog w) A (call (.builtin "dict.items") [.ref d]) R E s:=by
 refine AG Fi ty PySem.F.entry_dict_items ?_<|PySem.F.args_dict_items_1 _;unfold Builtin.«dict.items» Builtin.Dict.noArgs;refine Aa<|Aa<|C0 ty ?_;show wpAny _ _ (pure d) _ _ s;refine Ab ?_;unfold DX;show wpAny _ _ ((if (d==sysModules)=true then _ else _) >>= _) _ _ s;rw[if_neg (show ¬ (d==sysModules)=true by rw[hd];decide)];exact Aa<|Ab<|Aa<|AF<|Ab ⟨_,rfl,k⟩
def zkp{v:Addr}{R:Value->Shared->Prop}(hv:s.heap.IsItemsView v d)(g:s.heap.get? d=some o)(dd:o.data=.dict es ep)
   (k:R (.ref s.heap.objs.size) { s with heap:=s.heap.push { cls:=.type "dict_itemiterator",data:=.fields #[.none,.bool false,.ref d,.int 0 0,.int es.size 0,.int ep 0,.none,.none] } }) :
   wpAny (model prog w) A (pyIter<|.ref v) R E s:=by
 obtain⟨vo,vg,vc,vd⟩:=id hv;refine CV hv.typeIs F.slot_dict_items_iter<|AG F.slot_dict_items_iter hv.typeIs F.entry_dict_items_iter ?go<|F.args_dict_items_iter_1 _;unfold Builtin.«dict_items.__iter__» HE Hm;refine Aa<|Ab<|Aa<|Aa<|A8 vg vd (x:=.ref d) rfl<|Ab<|Aa<|Aa<|Cq g dd<|Aa<|CN g dd ?_;have own:BN "dict_itemiterator"=true:=by decide
 simp only[own,if_true];refine AF (Ab ⟨_,rfl,"dict_itemiterator",_,⟨_,Al _ rfl,rfl⟩,F.slot_dict_itemiterator_next.lookup,?_⟩) (by
   simp only[sizeOk,Dw,Aq,AE,AA,BH,Fz]
   omega)
 simpa[rawInt,Dw] using k
def zko{it:Addr}{en:DictEntry}{R:Option Value->Shared->Prop}(hit:IsItemIter s.heap it d i es.size ep ok ov)(g:s.heap.get? d=some o)(dd:o.data=.dict es ep)(hx:es[i]?=some en)
   (k:∀ h',IsItemIterOut h' it d (i+1) es.size ep en.key en.val s.heap.objs.size->h'.get? s.heap.objs.size=some { cls:=.type "tuple",data:=.seq #[en.key,en.val] }->h'.objs.size=s.heap.objs.size+1 ->
     (∀ b u,b≠it->s.heap.get? b=some u->h'.get? b=some u)->R (some<|.ref s.heap.objs.size) { s with heap:=h' }):wpAny (model prog w) A (pyNext<|.ref it) R E s:=by
 obtain⟨hp,gs,dr,tk,os⟩:=s;have ty:Shared.TypeIs ⟨hp,gs,dr,tk,os⟩ (.ref it) "dict_itemiterator":=⟨_,hit,rfl⟩
 have own:BN "dict_itemiterator"=true:=by decide
 have lt:it < hp.objs.size:=Am hit;unfold pyNext;refine Aa (BW<|AO (name:=Bf "__next__") ty F.slot_dict_itemiterator_next<|AG F.slot_dict_itemiterator_next ty F.entry_dict_itemiterator_next ?_<|F.args_dict_itemiterator_next_1 _);refine Aa<|Ab<|Aa<|Aa ?_;refine Aa<|B0 ty<|Ab<|Aa<|Cb hit rfl ?_;simp only[own,if_true];show wpAny _ _ (if (AC d==AZ)=true then _ else _) _ _ _;rw[if_neg (show ¬ (AC d==AZ)=true from fun z=>Bn z)];refine Aa<|Ab<|Aa<|Cq g dd ?_;rw[if_neg (by simp)];refine Aa<|Ab<|Aa<|CN g dd ?_;rw[if_neg (by simp)];refine Ab ?_;have ni:¬ ((i:Int) < 0):=by omega
 simp only[ni,if_false,Ba,hx];refine Aa<|Aa<|B0 ty<|Ab<|Aa<|DK ty ?_;show wpAny _ _ (setField (.ref it) 3 (rawInt<|(i:Int)+1) >>= _) _ _ ⟨hp,gs,dr,tk,os⟩;refine Aa<|Bp hit (by simp) fun g1 i1 s1=>?_
 replace s1:Be it hp g1:=s1
 replace i1:IsItemIter g1 it d (i+1) es.size ep ok ov:=by
   have cast:((i+1:Nat):Int)=(i:Int)+1:=by omega
   unfold IsItemIter;rw[cast];simpa[rawInt] using i1
 have ty1:Shared.TypeIs ⟨g1,gs,dr,tk,os⟩ (.ref it) "dict_itemiterator":=⟨_,i1,rfl⟩
 refine Aa<|AS<|Aa<|DK ty1<|Aa<|DK ty1 ?_;show wpAny _ _ (DS (.ref it) 6 en.key en.val) _ _ ⟨g1,gs,dr,tk,os⟩;unfold DS;refine Aa<|Ed ?_;have i2:IsItemIter (g1.push { cls:=.type "tuple",data:=.seq #[en.key,en.val] }) it d (i+1) es.size ep ok ov:=Ad _ i1;have z1:g1.objs.size=hp.objs.size:=s1.1;generalize eg:g1.push { cls:=.type "tuple",data:=.seq #[en.key,en.val] }=g2 at i2;have t2:g2.get? hp.objs.size=some { cls:=.type "tuple",data:=.seq #[en.key,en.val] }:=by rw[<-eg,<-z1];exact Al _ rfl
 have z2:g2.objs.size=hp.objs.size+1:=by rw[<-eg,A4,z1]
 have k2:∀ b u,b≠it->hp.get? b=some u->g2.get? b=some u:=fun b u nb q=>by rw[<-eg];exact Ad _<|s1.extBut b u nb q
 show wpAny _ _ (Dx (.ref it) >>= _) _ _ ⟨g2,gs,dr,tk,os⟩;rw[z1];clear eg i1 s1 ty1 z1 g1;unfold Dx;refine Aa<|Aa<|A8 i2 rfl (x:=.none) rfl<|Ab ?_;simp only[if_true];refine Aa<|A8 i2 rfl (x:=ok) rfl<|Aa<|A8 i2 rfl (x:=ov) rfl<|Aa<|Bp i2 (by simp) fun g3 i3 s3=>?_
 replace s3:Be it g2 g3:=s3
 replace i3:IsItemIter g3 it d (i+1) es.size ep en.key ov:=i3
 refine Aa<|Bp i3 (by simp) fun g4 i4 s4=>?_
 replace s4:Be it g3 g4:=s4
 replace i4:IsItemIter g4 it d (i+1) es.size ep en.key en.val:=i4
 refine Aa<|Bp i4 (by simp) fun g5 i5 s5=>?_
 replace s5:Be it g4 g5:=s5
 replace i5:IsItemIterOut g5 it d (i+1) es.size ep en.key en.val hp.objs.size:=i5
 refine Aa<|Bp i5 (by simp) fun g6 i6 s6=>?_
 replace s6:Be it g5 g6:=s6
 replace i6:IsItemIterOut g6 it d (i+1) es.size ep en.key en.val hp.objs.size:=i6
 have up:∀ b u,b≠it->g2.get? b=some u->g6.get? b=some u:=fun b u nb q=>s6.extBut b u nb<|s5.extBut b u nb<|s4.extBut b u nb<|s3.extBut b u nb q;refine Aa<|FH<|Ab<|Ab ⟨_,rfl,Ab<|k g6 i6 (up _ _ (AJ lt) t2) ?_ fun b u nb q=>up b u nb (k2 b u nb q)⟩;show g6.objs.size=hp.objs.size+1;rw[s6.1,s5.1,s4.1,s3.1,z2]
def zkn{it:Addr}{R:Option Value->Shared->Prop}(hh:A.handled=none)(hit:IsItemIter s.heap it d i es.size ep ok ov)(g:s.heap.get? d=some o)(dd:o.data=.dict es ep)(hx:es[i]?=none)
   (k:∀ h',Cg it s.heap h'->R none { s with heap:=h' }):wpAny (model prog w) A (pyNext<|.ref it) R E s:=by
 have ty:s.TypeIs (.ref it) "dict_itemiterator":=⟨_,hit,rfl⟩
 have own:BN "dict_itemiterator"=true:=by decide
 unfold pyNext;refine Aa (BW<|AO (name:=Bf "__next__") ty F.slot_dict_itemiterator_next<|AG F.slot_dict_itemiterator_next ty F.entry_dict_itemiterator_next ?_<|F.args_dict_itemiterator_next_1 _);refine Aa<|Ab<|Aa<|Aa ?_;refine Aa<|B0 ty<|Ab<|Aa<|Cb hit rfl ?_;simp only[own,if_true];show wpAny _ _ (if (AC d==AZ)=true then _ else _) _ _ s;rw[if_neg (show ¬ (AC d==AZ)=true from fun z=>Bn z)];refine Aa<|Ab<|Aa<|Cq g dd ?_;rw[if_neg (by simp)];refine Aa<|Ab<|Aa<|CN g dd ?_;rw[if_neg (by simp)];refine Ab ?_;have ni:¬ ((i:Int) < 0):=by omega
 simp only[ni,if_false,Ba,hx];refine Aa<|Aa<|B0 ty<|Ab ?_;show wpAny _ _ (setField (.ref it) 2 .none >>= _) _ _ s;refine Aa<|Br hit rfl (by simp) ?_;show wpAny _ _ (newExc (.type "StopIteration") [] >>= _) _ _ _;simp only[newExc,newTuple];refine Aa (Aa<|AF (Aa (m:=firstArgMember _ _)<|Eg (a:=AZ) (by first | rfl | (simp only[firstArgMember];rfl))<|AF ?_<|by size_fits)<|by size_fits);simp only[raiseNew];refine Aa<|Ex ?_;rw[show A.in1.handled=none from hh];refine Aa<|Ab<|FI ?_;refine Aa (C6 (T:="StopIteration") (b:=true) ⟨_,Al _ rfl,rfl⟩ Ee<|Ab ?_);exact k _<|((AQ ..).extBut.push _).push _
def Inv.freeze{o:Obj}{u:HO}(I:Inv X pins M H s)(hd:H d=some u)(g:s.heap.get? d=some o)(n1:∀ xs,u≠.tup xs)(n2:∀ x,u≠.own x)(n3:∀ o w,u≠.frz o w)(n4:∀ ps,u≠.tbl ps):Inv X pins M (upd H d<|.frz o u) s:=by
 have ne:∀ {b:Addr} {v:HO},H b=some v->v≠u->b≠d:=fun {b v} q nv z=>by subst z;rw[hd] at q;exact nv (Ax q).symm
 refine Inv.step (h':=s.heap) (t':=s.toks) (g':=s.gens) (d':=s.drawn) (ch:=[]) I (fun _ z=>nomatch z) (fun b v _ _ _ q _=>q) (fun b v _ _ _ q _=>⟨v.slots,q⟩) (fun b v _ q n=>?_) (fun b v _ q=>⟨v,q⟩) (fun b xs q=>?_) (fun b v w q=>?_) (fun b ps q=>⟨#[],?_⟩) (fun m hm=>hm) (fun b v q=>?_) I.bare
 . have:b≠d:=fun z=>by
     rw[z,hd] at n;cases n
   rw[zaV this];exact n
 . rw[zaV (ne q fun z=>n1 xs z.symm)];exact q
 . rw[zaV (ne q fun z=>n3 v w z.symm)];exact q
 . rw[zaV (ne q fun z=>n4 ps z.symm),q];simp
 . by_cases hb:b=d
   . subst hb;rw[zbP] at q;cases q;refine⟨g,?_⟩;exact (I.hok b u hd).stay (fun c x _ y=>y) (fun c y=>by rw[zaV (ne y fun z=>n2 b z.symm)];exact y) fun c xs y=>by rw[zaV (ne y fun z=>n1 xs z.symm)];exact y
   rw[zaV hb] at q;exact (I.hok b v q).stay (fun c x _ y=>y) (fun c y=>by rw[zaV (ne y fun z=>n2 b z.symm)];exact y) fun c xs y=>by rw[zaV (ne y fun z=>n1 xs z.symm)];exact y
def Iti(o:Obj)(d:Addr):It :=
 ⟨fun i H=>∃ ps p,H d=some (.frz o<|.dT ps)/\ps[i]?=some p,fun i H x H'=>∃ q b ps k v,H q=none/\H'=upd H q (.tup [.ref b,v])/\x=.ref q/\H d=some (.frz o<|.dT ps)/\ps[i]?=some (k,v)/\H b=some (.tup<|k.map kV),
   fun i H=>∃ ps,H d=some (.frz o<|.dT ps)/\ps.length<=i⟩
def zhy{ps:List (List Key×V)}(x:zdN P w H h d (.frz o<|.dT ps))(dd:o.data=.dict es ep) :
   h.get? d=some o/\es.size=ps.length/\∀ (i:Nat) (k:List Key) (v:V),ps[i]?=some (k,v)->∃ (en:DictEntry) (b:Addr),es[i]?=some en/\en.key=.ref b/\H b=some (.tup<|k.map kV)/\RelV v en.val:=by
 obtain⟨g,z,y,xs,r,o',es',ep',g',ex,dd',et,nd⟩:=x;rw[g] at g';cases g';rw[dd] at dd';cases dd';have hl:es.size=ps.length:=by have h1:=congrArg List.length et;have h2:=BF r;simp at h1;omega
 refine⟨g,hl,fun i k v hi=>?_⟩;have get:∀ {l:List (List Key×V)} {m:List (List Key×Addr×Value)} {i:Nat},Paired (fun (p:List Key×V) (q:List Key×Addr×Value)=>p.1=q.1/\H q.2.1=some (.tup<|p.1.map kV)/\RelV p.2 q.2.2) l m->l[i]?=some (k,v)->∃ q,m[i]?=some q/\H q.2.1=some (.tup<|k.map kV)/\RelV v q.2.2:=by
   intro l m i q
   induction q generalizing i with
   | nil=>intro e;simp at e
   | cons h t ih =>
     cases i with
     | zero =>
       intro e;simp at e;subst e;exact⟨_,rfl,h.2.1,h.2.2⟩
     | succ j=>intro e;exact ih<|by simpa using e
 obtain⟨q,hq,h1,h2⟩:=get r hi;have he:es[i]?=some (entryOfKey (tupleKind<|zbm P w) q):=by
   have:es.toList[i]?=some (entryOfKey (tupleKind<|zbm P w) q):=by rw[et,AB,hq];rfl
   simpa using this
 exact⟨_,q.2.1,he,rfl,h1,h2⟩
variable {elts:List Expr}
def zi9{x1}(d it:Addr)(dd:o.data=.dict es ep) :
   Turn P w K (.Tuple elts x1 pos) (Iti o d) [it] it (fun i h=>∃ ok ov,IsItemIter h it d i es.size ep ok ov) where
 mem:=by simp
 obj:=fun i h st b hb=>by obtain⟨ok,ov,he⟩:=st;rw[List.mem_singleton.mp hb];exact⟨_,he,fun v z=>by cases z⟩
 keep:=fun i h h' st k=>by obtain⟨ok,ov,he⟩:=st;exact⟨ok,ov,k it (by simp) _ he⟩
 item:=by
   intro X hP hw hK hc i pins s M H E I hf st hg;subst hP hw hK;obtain⟨ps,⟨k,v⟩,hq,hx⟩:=hg;obtain⟨g,hl,ent⟩:=zhy (I.hok d _ hq) dd;obtain⟨en,b,he,hkey,hb,hv⟩:=ent i k v hx;obtain⟨ok,ov,hi⟩:=st;refine zko hi g dd he fun h1 i1 t1 z1 k1=>?_;refine⟨_,rfl,wpAny_letOwnedTupleGo_items (s:={ s with heap:=h1 }) i1 fun h2 i2 b2=>?_⟩;have nsz:it≠s.heap.objs.size:=Ap<|Am hi;have k2:∀ c u,c ∉ [it]->s.heap.get? c=some u->h2.get? c=some u:=fun c u hc q=>by have nc:c≠it:=fun z=>hc (by simp[z]);exact (b2.2 c nc).trans<|k1 c u nc q
   have t2:h2.get? s.heap.objs.size=some { cls:=.type "tuple",data:=.seq #[.ref b,en.val] }:=by rw[hkey] at t1;exact (b2.2 _ nsz.symm).trans t1
   refine⟨.ref s.heap.objs.size,upd H s.heap.objs.size<|.tup [.ref b,v],?_,rfl,⟨_,b,ps,k,v,I.hok.fresh<|Af _,rfl,rfl,hq,hx,hb⟩,⟨_,_,i2⟩,fun c hc=>?_⟩
   . exact Inv.turnNew (s:=s) (h':=h2) (t':=s.toks) I hf k2 (Af _) (fun c hc ob q=>by rw[List.mem_singleton.mp hc];exact⟨_,i2⟩) ⟨by show 2<=sizeLine;decide,[.ref b,en.val],.cons rfl<|.cons hv .nil,⟨_,t2,rfl,rfl,_,rfl⟩⟩
   rw[List.mem_singleton.mp hc,zaV nsz];exact (hf it<|by simp).1
 done:=by intro X hP hw hK hc i pins s M H E I hf st hg;subst hP hw hK;obtain⟨ps,hq,hx⟩:=hg;obtain⟨g,hl,_⟩:=zhy (I.hok d _ hq) dd;obtain⟨ok,ov,hi⟩:=st;exact zkn (I.ok.hd hc) hi g dd (by simp;omega) fun h' eb=>⟨rfl,Inv.turnAll (t':=s.toks) I hf fun b o hb q=>eb b o (fun z=>hb (by simp[z])) q⟩
 self:=fun _ _ _ _ _ st h=>by obtain⟨ok,ov,hi⟩:=st;exact PySem.W.kcp_self hi h
variable {tp:Pos}
section
variable {m:ME}
def keyD:Key->D
 | .inl i=>.int i
 | .inr x=>.str x
def zd7(kvs:List (List Key×D)):List D:=kvs.map fun p=>.tup [.tup (p.1.map keyD),p.2]
def zf6:∀ (ks:List Key),Reps K H io (ks.map kV) (ks.map keyD)
 | []=>rfl
 | .inl i::r=>⟨_,_,rfl,rfl,zf6 r⟩
 | .inr x::r=>⟨_,_,rfl,rfl,zf6 r⟩
def zpt:D->Sto->Option (Wk×Sto)
 | .ref n,s=>match s[n]? with
   | some (.dt kvs)=>some (⟨zd7 kvs,[]⟩,s.set n (.ft kvs))
   | _=>none
 | _,_=>none
def zom(m:ME):MI:=fun U st=>(m U st).bind fun (d,s)=>zpt d s
def ztd{p:Addr}{ps:List (List Key×V)}{kvs:List (List Key×D)}(S:StR K H io st)(hn:io[n]?=some p)(hp:H p=some (.frz o<|.dT ps))(r:KR (List Key) K H io ps kvs):ItOk K H io ⟨zd7 kvs,[]⟩ (Iti o p) where
 go := fun i d H1 k1 s hd X1 S1 hs=>by
   have h1:=X1.frz _ _ _ hp;have r1:=KR.mono (ka:=k1) (X1.kp S) r;have hd:(zd7 kvs)[i]?=some d:=hd;unfold zd7 at hd;rw[AB] at hd;obtain⟨⟨k,y⟩,hk,rfl⟩:=zaj hd;have get:∀ {l:List (List Key×V)} {m:List (List Key×D)} {i:Nat},KR (List Key) K H1 (io++k1) l m->m[i]?=some (k,y)->∃ v,l[i]?=some (k,v)/\Rep K H1 (io++k1) v y:=by
     intro l m i q
     induction q generalizing i with
     | nil=>intro e;simp at e
     | @cons a b _ _ h t ih =>
       cases i with
       | zero =>
         intro e;simp at e;subst e;obtain⟨a1,a2⟩:=a;have z:a1=k:=h.1;subst z;exact⟨a2,rfl,h.2⟩
       | succ j=>intro e;exact ih<|by simpa using e
   obtain⟨v,hv,rv⟩:=get r1 hk;refine⟨⟨ps,_,h1,hv⟩,fun x H' y'=>?_⟩;obtain⟨q,b,ps',k',v',hq,rfl,rfl,h1',hv',hb⟩:=y';rw[h1] at h1';cases h1';rw[hv] at hv';cases hv';obtain⟨E,S'⟩:=zfx (o:=.tup [.ref b,v]) S1 hq;rw[As] at S';refine⟨E,S',⟨q,_,rfl,zbP,?_⟩⟩;have r2:=rv.ext S1 E;rw[As] at r2;refine Reps.cons ⟨b,_,rfl,?_,zf6 k⟩<|Reps.cons r2 Reps.nil;rw[zaV (zaF hb hq)];exact hb
 stop:=fun H1 k1 s X1 S1 hs=>⟨ps,X1.frz _ _ _ hp,by show ps.length<=(zd7 kvs).length;unfold zd7;rw[Ai,KR.length r];exact Af _⟩
 stop':=fun H1 k1 s i hi X1 S1 hs=>⟨ps,X1.frz _ _ _ hp,by have hi:(zd7 kvs).length<=i:=hi;unfold zd7 at hi;rw[Ai,<-KR.length r] at hi;exact hi⟩
def znG{x1}{o:Expr}{apos cpos:Pos}(ho:SE X o m)(hbase:attributeBase o "items" X.env (eval o X.env)=eval o X.env:=by rfl)(hline:(apos.endLine==cpos.line)=true:=by rfl) :
   SI X (.Tuple elts x1 tp) (.Call (.Attribute o "items" apos) [] [] cpos) (zom m):=by
 rintro pins s M H R I ⟨U,st,io,W,st',E,S,e,k⟩;obtain⟨⟨d,s1⟩,e1,e⟩:=zae e
 cases d with
 | ref n =>
   unfold zpt at e;dsimp only at e
   split at e
   . rename_i kvs en;cases e;refine Fj hbase hline<|thn (ho pins s M H (fun v H'=>∃ ka,Ext io ka H H'/\StR X.K H' (io++ka) s1/\Rep X.K H' (io++ka) v (.ref n)) I ⟨U,st,io,_,s1,E,S,e1,fun v1 H1 k1 X1 S1 R1=>⟨k1,X1,S1,R1⟩⟩) ?_;rintro v s2 ⟨x,H1,I1,r1,k1,X1,S1,R1⟩;obtain⟨p,rfl,hp⟩:=R1;cases r1;obtain⟨ps,hH,r⟩:=S1.ob n p _ hp en;obtain⟨t1,t2,hs⟩:=zrf I1<|.inr ⟨ps,.inl hH⟩;refine⟨"dict","dict.items",PySem.F.plainAttrs_dict,Fi,PySem.F.type_dict_items,t1,t2,DH rfl<|Gg<|zkm (o:=default) t1 hs ?_⟩;obtain⟨_,_,xs,_,o,es,ep,g,_,dd,_,_⟩:=I1.hok p _ hH;refine zkp (o:=o) (es:=es) (ep:=ep) ⟨_,Al _ rfl,rfl,rfl⟩ (Ad _ g) dd ?_;have J:=I1.kept (t':=s2.toks) (h':=(s2.heap.push { cls:=.type "dict_items",data:=.fields #[.ref p] }).push { cls:=.type "dict_itemiterator",data:=.fields #[.none,.bool false,.ref p,.int 0 0,.int es.size 0,.int ep 0,.none,.none] }) fun b u q=>Ad _<|Ad _ q;have J2:=Inv.freeze J hH (Ad _<|Ad _ g) (by simp) (by simp) (by simp) (by simp);obtain⟨X2,S2⟩:=zjA (o:=.frz o (.dT ps)) (ob:=.ft kvs) S1 hp en (fun o u z=>by rw[hH] at z;cases z) fun H' T e'=>⟨o,ps,e',KR.mono T r⟩
     have big:s2.heap.objs.size<=(s2.heap.push { cls:=.type "dict_items",data:=.fields #[.ref p] }).objs.size:=by rw[A4];exact BM _
     refine⟨_,[_],_,_,_,rfl,J2,zi9 p _ dd,⟨_,_,Al _ rfl⟩,fun b hb=>?_,?_⟩
     . rw[List.mem_singleton.mp hb];refine I1.fpOk big ?_;rw[zaV (BV<|Ap<|Ay (Am g) big)];exact I1.hok.fresh big
     . have hn':((io++k1)++[])[n]?=some p:=by rw[As];exact hp
       have r2:=KR.mono (ka:=[]) (X2.kp S1) r;have ok:=ztd S2 hn' zbP r2;refine k _ _ (k1++[]) (X1.trans S1 X2) (by rw[<-Av];exact S2) (by rw[<-Av];exact ok)
   . cases e
 | _=>cases e
end
inductive Sr where
 | l (a:Addr) | t (a:Addr)
def Sr.ad:Sr->Addr
 | .l a=>a
 | .t a=>a
def Sr.ob:Sr->Obj
 | .l a=>{ cls:=.type "list_iterator",data:=.fields #[.ref a,.int 0 0] }
 | .t a=>{ cls:=.type "tuple_iterator",data:=.fields #[.ref a,.int 0 0] }
def Sr.is(h:Heap)(xs:Array Value):Sr->Prop
 | .l a=>h.IsList a xs
 | .t a=>IsTup h a xs
def Sr.at_(h:Heap)(i:Addr)(k:Nat):Sr->Prop
 | .l a=>h.IsListIter i a k
 | .t a=>IsTupIter h i a k
variable {xs:Array Value}{x:Sr}
def Sr.is_keep(q:x.is h xs)(k:∀ u,h.get? x.ad=some u->h'.get? x.ad=some u):x.is h' xs:=by
 cases x with
 | l a=>exact FU q k
 | t a=>obtain⟨o,g,c⟩:=q;exact⟨o,k o g,c⟩
def Sr.at_keep{i:Addr}(q:x.at_ h i n)(k:∀ u,h.get? i=some u->h'.get? i=some u):x.at_ h' i n:=by
 cases x with
 | l a=>exact Gy q k
 | t a=>obtain⟨o,g,c⟩:=q;exact⟨o,k o g,c⟩
def Sr.at_get{i:Addr}(q:x.at_ h i n):∃ o vs,h.get? i=some o/\o.data=.fields vs:=by
 cases x with
 | l a=>obtain⟨o,g,c,d⟩:=q;exact⟨o,_,g,d⟩
 | t a=>obtain⟨o,g,c,d⟩:=q;exact⟨o,_,g,d⟩
def Sr.iter{R:Value->Shared->Prop}(h:x.is s.heap xs)(k:R (.ref s.heap.objs.size) { s with heap:=s.heap.push x.ob }):wpAny (model prog w) A (pyIter<|.ref x.ad) R E s:=by
 cases x with
 | l a=>exact CS h k
 | t a=>exact iter_tuple h k
def zjX{it:Addr}{R:Value->Shared->Prop}(hit:IsTupIter s.heap it a i)(ht:IsTup s.heap a xs)(hx:xs[i]?=some v)
   (k:∀ h',IsTupIter h' it a (i+1)->Be it s.heap h'->R v { s with heap:=h' }):wpAny (model prog w) A (A5<|.ref it) R E s:=by
 obtain⟨ro,rg,rc,rd⟩:=id hit;obtain⟨to,tg,_,tn,td⟩:=ht;unfold A5;refine Aa (AO (name:=Bf "__next__") hit.typeIs Df<|AG Df hit.typeIs F9 ?_<|Gh _);show wpAny _ _ (field (.ref it) 0 >>= _) _ _ s;refine Aa<|A8 rg rd (x:=.ref a) rfl ?_;show wpAny _ _ (if (AC a==AZ)=true then _ else _) _ _ s;rw[if_neg (show ¬ (AC a==AZ)=true from fun z=>Bn z)];show wpAny _ _ (field (.ref it) 1 >>= _) _ _ s;refine Aa<|A8 rg rd (x:=.int i 0) rfl ?_;show wpAny _ _ (seqItems? (.ref a) >>= _) _ _ s;refine Aa<|BA tg td ?_;simp only[Ba,hx];refine Aa<|Br rg rd (by simp)<|Ab ⟨v,rfl,Ab<|k _ ⟨_,A3 _ rg<|BB<|AL rd _,(B3 ..).trans rc,?_⟩<|AQ ..⟩;rw[AL rd];simp[rawInt]
def zf4{it:Addr}{R:Value->Shared->Prop}(hh:A.handled=none)(hit:IsTupIter s.heap it a i)(ht:IsTup s.heap a xs)(hx:xs[i]?=none)
   (k:∀ h' e,Cg it s.heap h'->(∃ o,h'.get? e=some o/\o.cls=.type "StopIteration")->E (.ref e) { s with heap:=h' }):wpAny (model prog w) A (A5<|.ref it) R E s:=by
 obtain⟨ro,rg,rc,rd⟩:=id hit;obtain⟨to,tg,_,tn,td⟩:=ht;unfold A5;refine Aa (AO (name:=Bf "__next__") hit.typeIs Df<|AG Df hit.typeIs F9 ?_<|Gh _);show wpAny _ _ (field (.ref it) 0 >>= _) _ _ s;refine Aa<|A8 rg rd (x:=.ref a) rfl ?_;show wpAny _ _ (if (AC a==AZ)=true then _ else _) _ _ s;rw[if_neg (show ¬ (AC a==AZ)=true from fun z=>Bn z)];show wpAny _ _ (field (.ref it) 1 >>= _) _ _ s;refine Aa<|A8 rg rd (x:=.int i 0) rfl ?_;show wpAny _ _ (seqItems? (.ref a) >>= _) _ _ s;refine Aa<|BA tg td ?_;simp only[Ba,hx];refine Aa<|Cs<|Aa<|Br rg rd (by simp) ?_;show wpAny _ _ (newExc (.type "StopIteration") [] >>= _) _ _ _;simp only[newExc,newTuple];refine Aa (Aa<|AF (Aa (m:=firstArgMember _ _)<|Eg (a:=AZ) (by first | rfl | (simp only[firstArgMember];rfl))<|AF ?_<|by size_fits)<|by size_fits);simp only[raiseNew];refine Aa<|Ex ?_
 first | rw[show A.in1.handled=none from hh] | rw[hh]
 refine Aa<|Ab<|FI ?_;exact k _ _ (((AQ ..).extBut.push _).push _) ⟨_,Al _ rfl,rfl⟩
def Sr.next{it:Addr}{R:Value->Shared->Prop}(hit:x.at_ s.heap it i)(h:x.is s.heap xs)(hx:xs[i]?=some v)(k:∀ h',x.at_ h' it (i+1)->Be it s.heap h'->R v { s with heap:=h' }) :
   wpAny (model prog w) A (A5<|.ref it) R E s:=by
 cases x with
 | l a=>exact wpAny_nextOf_list_item hit h hx k
 | t a=>exact zjX hit h hx k
def Sr.stop{it:Addr}{R:Value->Shared->Prop}(hh:A.handled=none)(hit:x.at_ s.heap it i)(h:x.is s.heap xs)(hx:xs[i]?=none)
   (k:∀ h' e,Cg it s.heap h'->(∃ o,h'.get? e=some o/\o.cls=.type "StopIteration")->E (.ref e) { s with heap:=h' }):wpAny (model prog w) A (A5<|.ref it) R E s:=by
 cases x with
 | l a=>exact wpAny_nextOf_list_end hh hit h hx k
 | t a=>exact zf4 hh hit h hx k
def Sr.at_new{i:Addr}(g:h.get? i=some x.ob):x.at_ h i 0:=by
 cases x with
 | l a=>exact⟨_,g,rfl,rfl⟩
 | t a=>exact⟨_,g,rfl,rfl⟩
noncomputable abbrev zp1 (h:Heap) (x:Sr):Heap:=h.push x.ob
noncomputable abbrev zp2 (h:Heap) (x y:Sr):Heap:=(zp1 h x).push y.ob
noncomputable abbrev zp3 (h:Heap) (x y:Sr):Heap:=(zp2 h x y).push { cls:=.type "tuple",data:=.seq #[.ref h.objs.size,.ref (zp1 h x).objs.size] }
noncomputable abbrev zp4 (h:Heap) (x y:Sr):Heap:=(zp3 h x y).push { cls:=.type "tuple",data:=.seq #[.none,.none] }
noncomputable abbrev zp5 (h:Heap) (x y:Sr):Heap:=(zp4 h x y).push { cls:=.type "zip",data:=.fields #[.none,.bool false,.bool false,.ref (zp2 h x y).objs.size,.ref (zp3 h x y).objs.size] }
def zkZ(x y:Sr)(xs ys:Array Value):Meets (Builtin.«zip.__new__» ⟨[.type "zip",.ref x.ad,.ref y.ad],[]⟩) (fun _ R s=>x.is s.heap xs/\y.is s.heap ys/\R (.ok<|.ret<|.ref (zp4 s.heap x y).objs.size) { s with heap:=zp5 s.heap x y }) :=
 .of_wp fun prog w A R s h=>by
   obtain⟨hp,g,d,tk,os⟩:=s;obtain⟨h1,h2,h⟩:=h;have hsub:=sub_zip;have hx:x.is (Shared.heap ⟨hp,g,d,tk,os⟩) xs:=h1;have hy:y.is (Shared.heap ⟨hp.push x.ob,g,d,tk,os⟩) ys:=Sr.is_keep h2 fun u q=>Ad _ q
   wp_walk using Sr.iter hx,Sr.iter hy
   exact⟨_,rfl,h⟩
structure Zp(z TI TO i j:Addr):Prop where
 TIz:TI≠z
 TOz:TO≠z
 iz:i≠z
 jz:j≠z
 TIO:TI≠TO
 TIi:TI≠i
 TIj:TI≠j
 TOi:TO≠i
 TOj:TO≠j
 ij:i≠j
def neq{a b:Nat}(h:a≠b):(show Addr from a)≠(show Addr from b):=h
def Zp.new(n:Nat):Zp (n+4) (n+2) (n+3) n (n+1):=⟨neq<|by omega,neq<|by omega,neq<|by omega,neq<|by omega,neq<|by omega,neq<|by omega,neq<|by omega,neq<|by omega,neq<|by omega,neq<|by omega⟩
variable {b:Value}{y:Sr}{z:Addr}{ys:Array Value}
def zmb{R:Value->Shared->Prop}(hx:x.is s.heap xs)(hy:y.is s.heap ys)
   (k:∀ h',IsZip h' (s.heap.objs.size+4) (s.heap.objs.size+2) (s.heap.objs.size+3) .none->IsPair h' (s.heap.objs.size+2) (.ref s.heap.objs.size) (.ref<|s.heap.objs.size+1)->IsPair h' (s.heap.objs.size+3) .none .none ->
     x.at_ h' s.heap.objs.size 0->y.at_ h' (s.heap.objs.size+1) 0->(∀ c u,s.heap.get? c=some u->h'.get? c=some u)->R (.ref<|s.heap.objs.size+4) { s with heap:=h' }):wpAny (model prog w) A (call (.type "zip") [.ref x.ad,.ref y.ad]) R E s:=by
 refine callType_new F.called_zip (by decide) (F.typeCall_zip_2 _ _) (F.newCall_zip_2 _ _) (fun obj=>F.args_object_init_3 obj _ _) F.entry_zip_new (zkZ x y xs ys) ⟨hx,hy,?_⟩;have e1:(zp1 s.heap x).objs.size=s.heap.objs.size+1:=A4 ..;have e2:(zp2 s.heap x y).objs.size=s.heap.objs.size+2:=(A4 ..).trans (by rw[e1]);have e3:(zp3 s.heap x y).objs.size=s.heap.objs.size+3:=(A4 ..).trans (by rw[e2]);have e4:(zp4 s.heap x y).objs.size=s.heap.objs.size+4:=(A4 ..).trans (by rw[e3]);have up:∀ c u,(zp1 s.heap x).get? c=some u->(zp5 s.heap x y).get? c=some u:=fun c u q=>Ad _<|Ad _<|Ad _<|Ad _ q;have f5:(zp5 s.heap x y).get? (zp4 s.heap x y).objs.size=some { cls:=.type "zip",data:=.fields #[.none,.bool false,.bool false,.ref (zp2 s.heap x y).objs.size,.ref (zp3 s.heap x y).objs.size] }:=Al _ rfl;have f4:(zp5 s.heap x y).get? (zp3 s.heap x y).objs.size=some { cls:=.type "tuple",data:=.seq #[.none,.none] }:=Ad _<|Al _ rfl;have f3:(zp5 s.heap x y).get? (zp2 s.heap x y).objs.size=some { cls:=.type "tuple",data:=.seq #[.ref s.heap.objs.size,.ref (zp1 s.heap x).objs.size] }:=Ad _<|Ad _<|Al _ rfl;have f2:(zp5 s.heap x y).get? (zp1 s.heap x).objs.size=some y.ob:=Ad _<|Ad _<|Ad _<|Al _ (by cases y <;> rfl);have f1:(zp5 s.heap x y).get? s.heap.objs.size=some x.ob:=up _ _<|Al _ (by cases x <;> rfl);rw[e2,e3,e4] at f5;rw[e1,e2] at f3;rw[e3] at f4;rw[e1] at f2;show _/\_;rw[e4];exact⟨⟨_,f5,rfl⟩,k _ f5 f3 f4 (Sr.at_new f1) (Sr.at_new f2) fun c u q=>up c u (Ad _ q)⟩
def znh{TI TO i j:Addr}{m:Nat}{u a:Value}{R:Option Value->Shared->Prop}(D:Zp z TI TO i j)(xz:x.ad≠z/\x.ad≠TO/\x.ad≠i/\x.ad≠j)(yz:y.ad≠z/\y.ad≠TO/\y.ad≠i/\y.ad≠j)
   (hz:IsZip s.heap z TI TO .none) (hTI:IsPair s.heap TI (.ref i) (.ref j)) (hTO:IsPair s.heap TO a b) (hi:x.at_ s.heap i n) (hj:y.at_ s.heap j m) (hx:x.is s.heap xs) (hy:y.is s.heap ys) (gx:xs[n]?=some u) (gy:ys[m]?=some v)
   (k:∀ h',IsZip h' z TI TO (rawInt s.heap.objs.size)->IsPair h' TI (.ref i) (.ref j)->IsPair h' TO u v->x.at_ h' i (n+1)->y.at_ h' j (m+1)->IsPair h' s.heap.objs.size u v ->
     (∀ c o,c≠z->c≠TO->c≠i->c≠j->s.heap.get? c=some o->h'.get? c=some o)->R (some<|.ref s.heap.objs.size) { s with heap:=h' }):wpAny (model prog w) A (pyNext<|.ref z) R E s:=by
 have ty:s.TypeIs (.ref z) "zip":=⟨_,hz,rfl⟩
 unfold pyNext;refine Aa (BW<|AO (name:=Bf "__next__") ty F.slot_zip_next<|AG F.slot_zip_next ty F.entry_zip_next ?_<|F.args_zip_next_1 _);show wpAny _ _ (field (.ref z) 2 >>= _) _ _ _;refine Aa<|A8 hz rfl (x:=.bool false) rfl ?_;show wpAny _ _ (field (.ref z) 3 >>= _) _ _ _;refine Aa<|A8 hz rfl (x:=.ref TI) rfl<|Aa<|BA hTI rfl ?_;show wpAny _ _ (BO (.ref z) >>= _) _ _ _;unfold BO;refine Aa<|Aa<|A8 hz rfl (x:=.none) rfl<|Ab ?_;simp only[if_true];refine Aa<|Cs<|Aa<|A8 hz rfl (x:=.ref TO) rfl<|Aa<|Bp hz (by simp) fun g1 z1 s1=>?_
 replace z1:IsZip g1 z TI TO .ellipsis:=z1
 have k1:∀ c o,c≠z->s.heap.get? c=some o->g1.get? c=some o:=fun c o nc q=>s1.extBut c o nc q;simp only[G1,Ho,Fq,Dv];refine Aa<|Aa<|Aa<|Ey ?_;show wpAny _ _ (A5 (.ref i) >>= _) _ _ _;refine Aa<|Sr.next (Sr.at_keep hi fun o q=>k1 _ o D.iz q) (Sr.is_keep hx fun o q=>k1 _ o xz.1 q) gx fun g2 i2 s2=>Ab ?_;have k2:∀ c o,c≠z->c≠i->s.heap.get? c=some o->g2.get? c=some o:=fun c o nc ni q=>s2.extBut c o ni<|k1 c o nc q;have o2:IsPair g2 TO a b:=k2 _ _ D.TOz D.TOi hTO;refine Aa<|BA o2 rfl<|Aa<|D4 o2 fun g3 o3 s3=>(Aa<|FH<|Ab ?_)
 replace o3:IsPair g3 TO u b:=o3
 have k3:∀ c o,c≠z->c≠i->c≠TO->s.heap.get? c=some o->g3.get? c=some o:=fun c o nc ni nt q=>s3.extBut c o nt<|k2 c o nc ni q;refine Aa<|Aa<|Ey ?_;show wpAny _ _ (A5 (.ref j) >>= _) _ _ _;refine Aa<|Sr.next (Sr.at_keep hj fun o q=>k3 _ o D.jz D.ij.symm D.TOj.symm q) (Sr.is_keep hy fun o q=>k3 _ o yz.1 yz.2.2.1 yz.2.1 q) gy fun g4 j4 s4=>Ab ?_;have o4:IsPair g4 TO u b:=s4.extBut _ _ D.TOj o3;refine Aa<|BA o4 rfl<|Aa<|D4 o4 fun g5 o5 s5=>(Aa<|FH<|Ab<|Ab ?_)
 replace o5:IsPair g5 TO u v:=o5
 refine Aa<|BA o5 rfl<|Aa<|Ed ?_;have sz:g5.objs.size=s.heap.objs.size:=by rw[s5.1,s4.1,s3.1,s2.1,s1.1]
 have z5:IsZip g5 z TI TO .ellipsis:=s5.extBut _ _ D.TOz.symm<|s4.extBut _ _ D.jz.symm<|s3.extBut _ _ D.TOz.symm<|s2.extBut _ _ D.iz.symm z1;have k5:∀ c o,c≠z->c≠TO->c≠i->c≠j->s.heap.get? c=some o->g5.get? c=some o:=fun c o c1 c2 c3 c4 q=>s5.extBut c o c2<|s4.extBut c o c4<|k3 c o c1 c3 c2 q;have i5:x.at_ g5 i (n+1):=Sr.at_keep i2 fun o q=>s5.extBut _ _ D.TOi.symm<|s4.extBut _ _ D.ij<|s3.extBut _ _ D.TOi.symm q;have j5:y.at_ g5 j (m+1):=Sr.at_keep j4 fun o q=>s5.extBut _ _ D.TOj.symm q;have lz:z < g5.objs.size:=Am z5;show wpAny _ _ (Dr (.ref z) (.ref g5.objs.size) >>= _) _ _ _;unfold Dr;have z6:IsZip (g5.push { cls:=.type "tuple",data:=.seq #[u,v] }) z TI TO .ellipsis:=Ad _ z5;refine Aa<|Aa<|Bp z6 (by simp) fun g7 z7 s7=>?_
 replace z7:IsZip g7 z TI TO (rawInt g5.objs.size):=z7
 refine Bp z7 (by simp) fun g8 z8 s8=>?_
 replace z8:IsZip g8 z TI TO (rawInt g5.objs.size):=z8
 have up:∀ c o,c≠z->g5.get? c=some o->g8.get? c=some o:=fun c o nc q=>s8.extBut c o nc<|s7.extBut c o nc<|Ad _ q;have t8:IsPair g8 g5.objs.size u v:=s8.extBut _ _ (AJ lz)<|s7.extBut _ _ (AJ lz)<|Al _ rfl;rw[sz] at z8 t8;refine Ab ⟨_,rfl,Ab ?_⟩;show R (some<|.ref g5.objs.size) _;rw[sz];exact k g8 z8 (up _ _ D.TIz<|k5 _ _ D.TIz D.TIO D.TIi D.TIj hTI) (up _ _ D.TOz o5) (Sr.at_keep i5 fun o q=>up _ o D.iz q) (Sr.at_keep j5 fun o q=>up _ o D.jz q) t8 fun c o c1 c2 c3 c4 q=>up c o c1 (k5 c o c1 c2 c3 c4 q)
def zps{TI TO i j:Addr}{m:Nat}{a:Value}{R:Option Value->Shared->Prop}(hh:A.handled=none)(D:Zp z TI TO i j)(xz:x.ad≠z/\x.ad≠TO/\x.ad≠i/\x.ad≠j)(yz:y.ad≠z/\y.ad≠TO/\y.ad≠i/\y.ad≠j)
   (hz:IsZip s.heap z TI TO .none) (hTI:IsPair s.heap TI (.ref i) (.ref j)) (hTO:IsPair s.heap TO a b) (hi:x.at_ s.heap i n) (hj:y.at_ s.heap j m) (hx:x.is s.heap xs) (hy:y.is s.heap ys) (he:xs[n]?=none\/ys[m]?=none)
   (k:∀ h',(∀ c o,c≠z->c≠TO->c≠i->c≠j->s.heap.get? c=some o->h'.get? c=some o)->R none { s with heap:=h' }):wpAny (model prog w) A (pyNext<|.ref z) R E s:=by
 have ty:s.TypeIs (.ref z) "zip":=⟨_,hz,rfl⟩
 have halt:∀ h' e,(∀ c o,c≠z->c≠TO->c≠i->c≠j->s.heap.get? c=some o->h'.get? c=some o)->(∃ o,h'.get? e=some o/\o.cls=.type "StopIteration") ->
     wpAny (model prog w) A (do if <-isInstance (.ref e) (.type "StopIteration") then pure none else throw (AC e)) R E { s with heap:=h' }:=fun h' e q ⟨o,g,c⟩ =>
   Aa (C6 (T:="StopIteration") (b:=true) ⟨o,g,c⟩ Ee<|Ab<|k h' q)
 unfold pyNext;refine Aa (BW<|AO (name:=Bf "__next__") ty F.slot_zip_next<|AG F.slot_zip_next ty F.entry_zip_next ?_<|F.args_zip_next_1 _);show wpAny _ _ (field (.ref z) 2 >>= _) _ _ _;refine Aa<|A8 hz rfl (x:=.bool false) rfl ?_;show wpAny _ _ (field (.ref z) 3 >>= _) _ _ _;refine Aa<|A8 hz rfl (x:=.ref TI) rfl<|Aa<|BA hTI rfl ?_;show wpAny _ _ (BO (.ref z) >>= _) _ _ _;unfold BO;refine Aa<|Aa<|A8 hz rfl (x:=.none) rfl<|Ab ?_;simp only[if_true];refine Aa<|Cs<|Aa<|A8 hz rfl (x:=.ref TO) rfl<|Aa<|Bp hz (by simp) fun g1 z1 s1=>?_
 replace z1:IsZip g1 z TI TO .ellipsis:=z1
 have k1:∀ c o,c≠z->s.heap.get? c=some o->g1.get? c=some o:=fun c o nc q=>s1.extBut c o nc q;have sep:∀ {g:Heap} {e:Addr} {o:Obj},IsZip g z TI TO .ellipsis->g.get? e=some o->o.cls=.type "StopIteration"->e≠z:=fun {g e o} q h c r=>by subst r;rw[q] at h;cases h;simp at c
 simp only[G1,Ho,Fq,Dv];refine Aa<|Aa<|Aa<|Ey ?_;show wpAny _ _ (A5 (.ref i) >>= _) _ _ _
 cases gx:xs[n]? with
 | none =>
   refine Aa<|Sr.stop hh (Sr.at_keep hi fun o q=>k1 _ o D.iz q) (Sr.is_keep hx fun o q=>k1 _ o xz.1 q) gx ?_;rintro g2 e s2 ⟨oe,he,ce⟩;have z2:IsZip g2 z TI TO .ellipsis:=s2 _ _ D.iz.symm z1;exact Bp z2 (by simp) fun g3 _ s3=>halt g3 e (fun c o c1 _ c3 _ q=>s3.extBut c o c1 (s2 c o c3<|k1 c o c1 q)) ⟨oe,s3.extBut _ _ (sep z2 he ce) he,ce⟩
 | some u =>
   have gy:ys[m]?=none:=he.resolve_left (by rw[gx];simp);refine Aa<|Sr.next (Sr.at_keep hi fun o q=>k1 _ o D.iz q) (Sr.is_keep hx fun o q=>k1 _ o xz.1 q) gx fun g2 i2 s2=>Ab ?_;have k2:∀ c o,c≠z->c≠i->s.heap.get? c=some o->g2.get? c=some o:=fun c o nc ni q=>s2.extBut c o ni<|k1 c o nc q;have o2:IsPair g2 TO a b:=k2 _ _ D.TOz D.TOi hTO;refine Aa<|BA o2 rfl<|Aa<|D4 o2 fun g3 o3 s3=>(Aa<|FH<|Ab ?_);have k3:∀ c o,c≠z->c≠i->c≠TO->s.heap.get? c=some o->g3.get? c=some o:=fun c o nc ni nt q=>s3.extBut c o nt<|k2 c o nc ni q;refine Aa<|Aa<|Ey ?_;show wpAny _ _ (A5 (.ref j) >>= _) _ _ _;refine Aa<|Sr.stop hh (Sr.at_keep hj fun o q=>k3 _ o D.jz D.ij.symm D.TOj.symm q) (Sr.is_keep hy fun o q=>k3 _ o yz.1 yz.2.2.1 yz.2.1 q) gy ?_;rintro g4 e s4 ⟨oe,he,ce⟩;have z4:IsZip g4 z TI TO .ellipsis:=s4 _ _ D.jz.symm<|s3.extBut _ _ D.TOz.symm<|s2.extBut _ _ D.iz.symm z1;exact Bp z4 (by simp) fun g5 _ s5=>halt g5 e (fun c o c1 c2 c3 c4 q=>s5.extBut c o c1 (s4 c o c4<|k3 c o c1 c3 c2 q)) ⟨oe,s5.extBut _ _ (sep z4 he ce) he,ce⟩
def Sr.sq(H:Hp)(xs:List V):Sr->Prop
 | .l a=>H a=some (.lst xs)\/∃ o,H a=some (.frz o<|.lst xs)
 | .t a=>H a=some (.tup xs)
def Sr.sq_ne{xs:List V}{b:Addr}(h:x.sq H xs)(hb:H b=none):x.ad≠b:=by
 cases x with
 | l a=>rcases h with h | ⟨o,h⟩ <;> exact zaF h hb
 | t a=>exact zaF (show H a=some (.tup xs) from h) hb
def Sr.sq_inj{xs ys:List V}(h:x.sq H xs)(h':x.sq H ys):xs=ys:=by
 cases x with
 | l a=>rcases h with h | ⟨o,h⟩ <;> rcases h' with h' | ⟨o',h'⟩ <;> rw[h] at h' <;> cases h' <;> rfl
 | t a =>
   have h:H a=some (.tup xs):=h;have h':H a=some (.tup ys):=h';rw[h] at h';cases h';rfl
def Sr.sq_is{xs:List V}(I:Inv X pins M H s)(h:x.sq H xs):∃ its:List Value,Vals xs its/\x.is s.heap its.toArray:=by
 cases x with
 | l a =>
   obtain⟨its,rv,p,_⟩:=I.list (show SqL X.K H a xs from .inl h);exact⟨its,rv,p.isList⟩
 | t a =>
   obtain⟨its,rv,p,_⟩:=I.tuple<|SqT.of (K:=X.K) h;exact⟨its,rv,p⟩
def Itz(x y:Sr):It :=
 ⟨fun i H=>∃ xs ys u v,x.sq H xs/\y.sq H ys/\xs[i]?=some u/\ys[i]?=some v,fun i H r H'=>∃ p u v,H p=none/\H'=upd H p (.tup [u,v])/\r=.ref p/\(∀ xs,x.sq H xs->xs[i]?=some u)/\∀ ys,y.sq H ys->ys[i]?=some v,
   fun i H=>∃ xs ys,x.sq H xs/\y.sq H ys/\(xs.length<=i\/ys.length<=i)⟩
def znn{x1}(x y:Sr){TI TO i j:Addr}(D:Zp z TI TO i j) :
   Turn P w K (.Tuple elts x1 pos) (Itz x y) [z,TI,TO,i,j] z (fun n h=>IsZip h z TI TO .none/\IsPair h TI (.ref i) (.ref j)/\(∃ a b,IsPair h TO a b)/\x.at_ h i n/\y.at_ h j n) where
 mem:=by simp
 obj:=fun n h st b hb=>by
   obtain⟨hz,hTI,⟨a,c,hTO⟩,hi,hj⟩:=st;simp only[AI,AM,or_false] at hb
   rcases hb with rfl | rfl | rfl | rfl | rfl
   . exact⟨_,hz,fun v q=>by cases q⟩
   . exact⟨_,hTI,fun v q=>by cases q⟩
   . exact⟨_,hTO,fun v q=>by cases q⟩
   . obtain⟨o,vs,g,d⟩:=Sr.at_get hi;exact⟨o,g,fun v q=>by rw[d] at q;cases q⟩
   obtain⟨o,vs,g,d⟩:=Sr.at_get hj;exact⟨o,g,fun v q=>by rw[d] at q;cases q⟩
 keep:=fun n h h' st k=>by obtain⟨hz,hTI,⟨a,c,hTO⟩,hi,hj⟩:=st;exact⟨k z (by simp) _ hz,k TI (by simp) _ hTI,⟨a,c,k TO (by simp) _ hTO⟩,Sr.at_keep hi fun o q=>k i (by simp) o q,Sr.at_keep hj fun o q=>k j (by simp) o q⟩
 item:=by
   intro X hP hw hK hc n pins s M H E I hf st hg;subst hP hw hK;obtain⟨xs,ys,u,v,hx,hy,gu,gv⟩:=hg;obtain⟨hz,hTI,⟨a,c,hTO⟩,hi,hj⟩:=st;obtain⟨its,rx,ix⟩:=Sr.sq_is I hx;obtain⟨jts,ry,iy⟩:=Sr.sq_is I hy;obtain⟨u',gu',ru⟩:=rx.get gu;obtain⟨v',gv',rv⟩:=ry.get gv;have fz:=(hf z<|by simp).1;have fTO:=(hf TO<|by simp).1;have fi:=(hf i<|by simp).1;have fj:=(hf j<|by simp).1;refine znh D ⟨Sr.sq_ne hx fz,Sr.sq_ne hx fTO,Sr.sq_ne hx fi,Sr.sq_ne hx fj⟩ ⟨Sr.sq_ne hy fz,Sr.sq_ne hy fTO,Sr.sq_ne hy fi,Sr.sq_ne hy fj⟩ hz hTI hTO hi hj ix iy (u:=u') (v:=v') (by simpa using gu') (by simpa using gv') fun h1 z1 ti1 to1 i1 j1 t1 k1=>?_;refine⟨_,rfl,wpAny_letOwnedTupleGo_zip (s:={ s with heap:=h1 }) z1 fun h2 z2 b2=>?_⟩;have up:∀ b o,b≠z->h1.get? b=some o->h2.get? b=some o:=fun b o nb q=>(b2.2 b nb).trans q;have k2:∀ b o,b ∉ [z,TI,TO,i,j]->s.heap.get? b=some o->h2.get? b=some o:=fun b o hb q=>by simp only[AI,AM,or_false,not_or] at hb;exact up b o hb.1<|k1 b o hb.1 hb.2.2.1 hb.2.2.2.1 hb.2.2.2.2 q
   have lt:∀ b∈[z,TI,TO,i,j],b < s.heap.objs.size:=fun b hb=>by
     simp only[AI,AM,or_false] at hb
     rcases hb with rfl | rfl | rfl | rfl | rfl
     . exact Am hz
     . exact Am hTI
     . exact Am hTO
     . obtain⟨o,vs,g,d⟩:=Sr.at_get hi;exact Am g
     obtain⟨o,vs,g,d⟩:=Sr.at_get hj;exact Am g
   have t2:h2.get? s.heap.objs.size=some { cls:=.type "tuple",data:=.seq #[u',v'] }:=up _ _ (AJ<|lt z<|by simp) t1;have st2:IsZip h2 z TI TO .none/\IsPair h2 TI (.ref i) (.ref j)/\(∃ a b,IsPair h2 TO a b)/\x.at_ h2 i (n+1)/\y.at_ h2 j (n+1) :=
     ⟨z2,up _ _ D.TIz ti1,⟨_,_,up _ _ D.TOz to1⟩,Sr.at_keep i1 fun o q=>up _ o D.iz q,Sr.at_keep j1 fun o q=>up _ o D.jz q⟩
   refine⟨.ref s.heap.objs.size,upd H s.heap.objs.size<|.tup [u,v],?_,rfl,⟨_,u,v,I.hok.fresh<|Af _,rfl,rfl,fun zs h=>by rw[Sr.sq_inj h hx];exact gu,fun zs h=>by rw[Sr.sq_inj h hy];exact gv⟩,st2,fun b hb=>?_⟩
   . refine Inv.turnNew (s:=s) (h':=h2) (t':=s.toks) I hf k2 (Af _) (fun b hb ob q=>?_) ⟨by show 2<=sizeLine;decide,[u',v'],.cons ru<|.cons rv .nil,⟨_,t2,rfl,rfl,_,rfl⟩⟩;simp only[AI,AM,or_false] at hb
     rcases hb with rfl | rfl | rfl | rfl | rfl
     . exact⟨_,z2⟩
     . exact⟨_,st2.2.1⟩
     . obtain⟨_,_,q⟩:=st2.2.2.1;exact⟨_,q⟩
     . obtain⟨o,vs,g,d⟩:=Sr.at_get st2.2.2.2.1;exact⟨o,g⟩
     obtain⟨o,vs,g,d⟩:=Sr.at_get st2.2.2.2.2;exact⟨o,g⟩
   rw[zaV (Ap<|lt b hb)];exact (hf b hb).1
 done:=by
   intro X hP hw hK hc n pins s M H E I hf st hg;subst hP hw hK;obtain⟨xs,ys,hx,hy,he⟩:=hg;obtain⟨hz,hTI,⟨a,c,hTO⟩,hi,hj⟩:=st;obtain⟨its,rx,ix⟩:=Sr.sq_is I hx;obtain⟨jts,ry,iy⟩:=Sr.sq_is I hy;have fz:=(hf z<|by simp).1;have fTO:=(hf TO<|by simp).1;have fi:=(hf i<|by simp).1;have fj:=(hf j<|by simp).1;have l1:=rx.length;have l2:=ry.length;exact zps (I.ok.hd hc) D ⟨Sr.sq_ne hx fz,Sr.sq_ne hx fTO,Sr.sq_ne hx fi,Sr.sq_ne hx fj⟩ ⟨Sr.sq_ne hy fz,Sr.sq_ne hy fTO,Sr.sq_ne hy fi,Sr.sq_ne hy fj⟩ hz hTI hTO hi hj ix iy (by
     rcases he with h | h
     . exact .inl (by simp;omega)
     . exact .inr (by simp;omega)) fun h' k=>⟨rfl,Inv.turnAll (t':=s.toks) I hf fun b o hb q=>by simp only[AI,AM,or_false,not_or] at hb;exact k b o hb.1 hb.2.2.1 hb.2.2.2.1 hb.2.2.2.2 q⟩
 self:=fun _ _ _ _ _ st h=>wpAny_pyIter_zip st.1 h
def seqD(s:Sto):D->Option (List D×List (Nat×List D))
 | .ref n=>(zbY s n).map fun ds=>(ds,[(n,ds)])
 | .tup ds=>some (ds,[])
 | _=>none
def pairD(a b:List D):List D:=(a.zip b).map fun p=>.tup [p.1,p.2]
def zipW(x y:D)(s:Sto):Option (Wk×Sto):=(seqD s x).bind fun (a,f)=>(seqD s y).map fun (b,g)=>(⟨pairD a b,f++g⟩,s)
def mZip(ma mb:ME):MI:=fun U st=>(ma U st).bind fun (x,s1)=>(mb U s1).bind fun (y,s2)=>zipW x y s2
def zmC{d:D}{v:V}{ds:List D}{g:List (Nat×List D)}(S:StR K H io st)(R:Rep K H io v d)(h:seqD st d=some (ds,g)):∃ x:Sr,v=.ref x.ad/\(∃ xs,x.sq H xs) /\
   ∀ H1 ka s1,Ext io ka H H1->StR K H1 (io++ka) s1->(∀ p,p∈g->s1[p.1]?=some (.lst p.2)\/s1[p.1]?=some (.fz p.2))->∃ xs,x.sq H1 xs/\Reps K H1 (io++ka) xs ds:=by
 cases d with
 | ref n =>
   obtain⟨l,e,q⟩:=zaj h;cases q;obtain⟨p,rfl,hp⟩:=R;refine⟨.l p,rfl,?_,fun H1 ka s1 X1 S1 hs=>?_⟩
   . unfold zbY at e
     split at e
     . rename_i o he;cases e;obtain⟨xs,q,_⟩:=S.ob n p _ hp he;exact⟨xs,.inl q⟩
     . rename_i o he;cases e;obtain⟨ob,xs,q,_⟩:=S.ob n p _ hp he;exact⟨xs,.inr ⟨ob,q⟩⟩
     . cases e
   . rcases hs (n,ds) Aj with q | q
     . obtain⟨xs,q',r⟩:=S1.ob n p _ (zcG hp) q;exact⟨xs,.inl q',r⟩
     obtain⟨ob,xs,q',r⟩:=S1.ob n p _ (zcG hp) q;exact⟨xs,.inr ⟨ob,q'⟩,r⟩
 | tup ts =>
   cases h;obtain⟨p,xs,rfl,hp,r⟩:=R;exact⟨.t p,rfl,⟨xs,hp⟩,fun H1 ka s1 X1 S1 _=>⟨xs,X1.sqT S p xs hp,r.ext S X1⟩⟩
 | _=>cases h
def zlG{a b:List D}{d:D}(h:(pairD a b)[i]?=some d):∃ x y,a[i]?=some x/\b[i]?=some y/\d=.tup [x,y]:=by unfold pairD at h;rw[AB] at h;obtain⟨⟨x,y⟩,e,q⟩:=zaj h;rw[List.getElem?_zip_eq_some] at e;exact⟨x,y,e.1,e.2,q.symm⟩
def boot_zip:bootBuiltins "zip"=some (.type "zip"):=by decide +kernel
def zr9{x1}{a b:Expr}(hg:Gl X "zip")(hm:X.mg "zip"=none)(ha:SE X a ma)(hb:SE X b mb)(hs:starEach [a,b] X.env=[(false,eval a X.env),(false,eval b X.env)]:=by rfl)
   (hs2:starEach [b] X.env=[(false,eval b X.env)]:=by rfl) (hpl:(backTo pos<|starEach [b] X.env).any (·.1)=false:=by rfl):SI X (.Tuple elts x1 tp) (.Call (.Name "zip" p) [a,b] [] pos) (mZip ma mb):=by
 rintro pins s M H R I ⟨U,st,io,W,st',E,S,e,k⟩;obtain⟨⟨x,s1⟩,e1,e⟩:=zae e;obtain⟨⟨y,s2⟩,e2,e⟩:=zae e;obtain⟨⟨as,f⟩,e3,e⟩:=zae e;obtain⟨⟨bs,g⟩,e4,e⟩:=zaj e;cases e;have hs1:starEach [a,b] X.env=(false,eval a X.env)::starEach [b] X.env:=by rw[hs,hs2]
 refine Call_<|zkg I hg hm boot_zip<|C4 (thn (zaa ha (zaa hb zaf hs2) hs1 pos pins s M H (fun vs H'=>∃ ka,Ext io ka H H'/\StR X.K H' (io++ka) st'/\Reps X.K H' (io++ka) vs [x,y]) I ⟨U,st,io,[x,y],st',E,S,zhs e1<|zhs e2 rfl,fun vs H1 k1 X1 S1 R1=>⟨k1,X1,S1,R1⟩⟩) ?_) hs1 hpl;rintro us t1 ⟨vs,H1,I1,r1,k1,X1,S1,R1⟩;obtain⟨v,u,rfl,Rx,Ry⟩:=R1.two;obtain⟨v',u',rfl,rv,ru⟩:=r1.two;obtain⟨xx,rfl,⟨xs,hx⟩,kx⟩:=zmC S1 Rx e3;obtain⟨yy,rfl,⟨ys,hy⟩,ky⟩:=zmC S1 Ry e4;cases rv;cases ru;obtain⟨its,vx,ix⟩:=Sr.sq_is I1 hx;obtain⟨jts,vy,iy⟩:=Sr.sq_is I1 hy;refine zmb ix iy fun h' hz hTI hTO hi hj kk=>wpAny_pyIter_zip hz ?_;refine⟨_,_,_,_,H1,rfl,I1.kept (t':=t1.toks) kk,znn xx yy<|Zp.new t1.heap.objs.size,⟨hz,hTI,⟨_,_,hTO⟩,hi,hj⟩,fun b hb=>?_,?_⟩
 . have hle:t1.heap.objs.size<=b:=by
     simp only[AI,AM,or_false] at hb
     rcases hb with rfl | rfl | rfl | rfl | rfl
     . exact BY _ 4
     . exact BY _ 2
     . exact BY _ 3
     . exact Af _
     exact BY _ 1
   exact I1.fpOk hle<|I1.hok.fresh hle
 . refine k _ H1 k1 X1 S1 ?_;have st1:∀ {s3:Sto},stays ⟨pairD as bs,f++g⟩ s3->(∀ p,p∈f->s3[p.1]?=some (.lst p.2)\/s3[p.1]?=some (.fz p.2))/\∀ p,p∈g->s3[p.1]?=some (.lst p.2)\/s3[p.1]?=some (.fz p.2):=fun {s3} h=>⟨fun p hp=>h p (Bw _ hp),fun p hp=>h p (A0 _ hp)⟩
   have len:∀ {a b:List D},(pairD a b).length=min a.length b.length:=fun {a b}=>by unfold pairD;rw[Ai,Fu]
   refine⟨fun i d H2 k2 s3 hd X2 S2 hs=>?_,fun H2 k2 s3 X2 S2 hs=>?_,fun H2 k2 s3 i hi X2 S2 hs=>?_⟩
   . obtain⟨xs2,qx,rx⟩:=kx H2 k2 s3 X2 S2 (st1 hs).1;obtain⟨ys2,qy,ry⟩:=ky H2 k2 s3 X2 S2 (st1 hs).2;obtain⟨dx,dy,g1,g2,rfl⟩:=zlG hd;obtain⟨u1,gu,ru⟩:=rx.get g1;obtain⟨v1,gv,rv⟩:=ry.get g2;refine⟨⟨xs2,ys2,u1,v1,qx,qy,gu,gv⟩,fun r H' yl=>?_⟩;obtain⟨q,u2,v2,hq,rfl,rfl,yu,yv⟩:=yl;have e5:=yu xs2 qx;have e6:=yv ys2 qy;rw[gu] at e5;rw[gv] at e6;cases e5;cases e6;obtain⟨E',S'⟩:=zfx (o:=.tup [u1,v1]) S2 hq;rw[As] at S';refine⟨E',S',⟨q,_,rfl,zbP,?_⟩⟩;have r2:=ru.ext S2 E';have r3:=rv.ext S2 E';rw[As] at r2 r3;exact Reps.cons r2<|Reps.cons r3 Reps.nil
   . obtain⟨xs2,qx,rx⟩:=kx H2 k2 s3 X2 S2 (st1 hs).1;obtain⟨ys2,qy,ry⟩:=ky H2 k2 s3 X2 S2 (st1 hs).2;refine⟨xs2,ys2,qx,qy,?_⟩;show xs2.length<=(pairD as bs).length\/ys2.length<=(pairD as bs).length;rw[len,rx.length,ry.length];omega
   obtain⟨xs2,qx,rx⟩:=kx H2 k2 s3 X2 S2 (st1 hs).1;obtain⟨ys2,qy,ry⟩:=ky H2 k2 s3 X2 S2 (st1 hs).2;refine⟨xs2,ys2,qx,qy,?_⟩;have hi:(pairD as bs).length<=i:=hi;rw[len] at hi;rw[rx.length,ry.length];omega
def Caps(X:Cx)(fs:List Str):List Nat->List Str->Prop
 | [],[]=>True
 | j::js,x::xs=>(X.N[j]?=some x/\x∈fs)/\Caps X fs js xs
 | _,_=>False
def Outs(X:Cx):List Str->Prop
 | []=>True
 | x::xs=>(X.env.kindOf x=some .cell\/X.env.kindOf x=some .free)/\Outs X xs
def Outs.get{X:Cx}:∀ {fs:List Str} {x:Str},Outs X fs->x∈fs->X.env.kindOf x=some .cell\/X.env.kindOf x=some .free
 | [],_,_,m=>nomatch m
 | y::ys,x,h,m=>by
   rcases List.mem_cons.mp m with rfl | m
   . exact h.1
   exact Outs.get h.2 m
def Caps.get{X:Cx}{fs:List Str}:∀ {fr:List Nat} {xs:List Str} {i j:Nat} {x:Str},Caps X fs fr xs->fr[i]?=some j->xs[i]?=some x->X.N[j]?=some x/\x∈fs
 | [],[],i,j,x,_,h,_=>by simp at h
 | [],_::_,i,j,x,h,_,_=>h.elim
 | _::_,[],i,j,x,h,_,_=>h.elim
 | k::ks,y::ys,0,j,x,h,h1,h2=>by simp at h1 h2;subst h1 h2;exact h.1
 | k::ks,y::ys,i+1,j,x,h,h1,h2=>Caps.get (i:=i) h.2 (by simpa using h1)<|by simpa using h2
def zdi{scope:Scope}{N':List Str}{nt:Nat}{fr:List Nat}(fs:List Str)(kind:scope.kind=.function)(nd:(scope.names.map (·.1)).Nodup)(hf:scope.names.all (fun p=>!(p.2==AN) || fs.contains p.1)=true)
   (hb:fs.all (fun x=>scope.names.contains (x,AN))=true) (len:N'.length=nt+fr.length) (cap:Caps X fs fr (N'.drop nt)) (out:Outs X fs):CompS X scope N' nt fr:=by
 refine⟨kind,nd,len,fun i j x h1 h2=>?_,fun x hx=>?_⟩
 . have h2':(N'.drop nt)[i]?=some x:=by rw[List.getElem?_drop];exact h2
   obtain⟨a,b⟩:=cap.get h1 h2';refine⟨a,?_⟩;have:=List.all_eq_true.mp hb x b;simpa using this
 . have:=List.all_eq_true.mp hf _ hx;have hm:x∈fs:=by simpa using this
   exact out.get hm
def zcW:bootBuiltins "len"=some (.builtin "len"):=by decide +kernel
def zto:bootBuiltins "abs"=some (.builtin "abs"):=by decide +kernel
def ztn:bootBuiltins "max"=some (.builtin "max"):=by decide +kernel
def ztm:bootBuiltins "min"=some (.builtin "min"):=by decide +kernel
def zeI:bootBuiltins "sorted"=some (.builtin "sorted"):=by decide +kernel
def zga:bootBuiltins "all"=some (.builtin "all"):=by decide +kernel
def ziW:bootBuiltins "int"=some (.type "int"):=by decide +kernel
def zij:bootBuiltins "bool"=some (.type "bool"):=by decide +kernel
def zhD:bootBuiltins "str"=some (.type "str"):=by decide +kernel
def zne:bootBuiltins "list"=some (.type "list"):=by decide +kernel
def zbt:bootBuiltins "tuple"=some (.type "tuple"):=by decide +kernel
def zrx:bootBuiltins "dict"=some (.type "dict"):=by decide +kernel
def mulA:G2:=orG mulD zof
def zdw:OpM X (binaryOp .Mult) mulA:=zhi zqI zn8
def zmY{K:Ae}{H:Hp}{io:List Addr}:∀ (ns:List Int),Reps K H io (ns.map V.int) (ns.map D.int)
 | []=>rfl
 | n::ns=>⟨_,_,rfl,rfl,zmY ns⟩
def znw{ns:List Int}{g:GN}{E:XK}(hO:Only H)(hS:SqL K H a (ns.map V.int))(e:g [.kl (ns.map D.int)] []=some (.bl true,st)):spM K 1 g [.ref a] H (fun v _=>v=.bl true) E:=by
 have hF:SqF K H a (ns.map V.int):=by
   rcases hS with (h | h) | h
   . rcases hO a with z | ⟨o,xs,z⟩
     . rw[z] at h;cases h
     rw[z] at h;cases h
   . exact .inl h
   exact .inr h
 refine⟨_,[],[],_,_,rfl,Reps.cons (show Rep K H [] (.ref a) (.kl<|ns.map D.int) from ⟨a,_,rfl,hF,zmY ns⟩) Reps.nil,⟨rfl,Ec,fun n b o h=>by simp at h⟩,e,fun v H' ka E' S' R'=>R'⟩
end L2.MP
namespace L2.MP
open PySem
structure Gr(st st':Sto):Prop where
 len:st.length<=st'.length
 old:∀ k,k < st.length->st'[k]?=st[k]?
structure Fr(n:Nat)(st st':Sto):Prop where
 len:st.length<=st'.length
 old:∀ k,k < st.length->k≠n->st'[k]?=st[k]?
def Gr.refl(st:Sto):Gr st st:=⟨Af _,fun _ _=>rfl⟩
def Fr.refl(n:Nat)(st:Sto):Fr n st st:=⟨Af _,fun _ _ _=>rfl⟩
def Gr.fr{st st':Sto}(h:Gr st st')(n:Nat):Fr n st st':=⟨h.len,fun k hk _=>h.old k hk⟩
variable {a b c:Sto}
def Gr.trans{a b c:Sto}(h:Gr a b)(h':Gr b c):Gr a c:=⟨AR h.len h'.len,fun k hk=>(h'.old k<|Ay hk h.len).trans (h.old k hk)⟩
variable {n:Nat}
def Fr.trans{n:Nat}{a b c:Sto}(h:Fr n a b)(h':Fr n b c):Fr n a c:=⟨AR h.len h'.len,fun k hk nk=>(h'.old k (Ay hk h.len) nk).trans (h.old k hk nk)⟩
def Gr.app(st:Sto)(l:List O):Gr st (st++l):=⟨by simp,fun k hk=>Az hk⟩
def Fr.app(n:Nat)(st:Sto)(l:List O):Fr n st (st++l):=(Gr.app st l).fr n
def Fr.set(n:Nat)(st:Sto)(o:O):Fr n st (st.set n o):=⟨by simp,fun k _ hk=>by rw[AH (fun h=>hk h.symm)]⟩
variable {α:Type}
def getElem?_lt{l:List α}{x:α}(h:l[n]?=some x):n < l.length:=(List.getElem?_eq_some_iff.mp h).1
def zbg(st:Sto)(o:O):(st++[o])[st.length]?=some o:=getElem?_len st o
variable {W:Wk}{g:MG}
def zen{W:Wk}{g:MG}{m:MS}:∀ {ds:List D} {Inv:Nat->Rho->Sto->Prop} {U:Rho} {st:Sto},Inv 0 U st->(∀ k U s,k<=ds.length->Inv k U s->walked W s=true) ->
   (∀ k d U s,ds[k]?=some d->Inv k U s->∃ U1 s1 U2 s2,g d U s=some (U1,s1)/\m U1 s1=some (.nx U2,s2)/\Inv (k+1) U2 s2)->∃ U' s',zel W g m ds U st=some (.nx U',s')/\Inv ds.length U' s'
 | [],Inv,U,st,h0,wk,step=>⟨U,st,by unfold zel;rw[if_pos (wk 0 U st (Af _) h0)],h0⟩
 | d::ds,Inv,U,st,h0,wk,step=>by obtain⟨U1,s1,U2,s2,e1,e2,h1⟩:=step 0 d U st rfl h0;obtain⟨U',s',e,h⟩:=zen (W:=W) (g:=g) (m:=m) (ds:=ds) (Inv:=fun k=>Inv (k+1)) h1 (fun k U s hk h=>wk (k+1) U s (DR hk) h) fun k d U s hd h=>step (k+1) d U s (by simpa using hd) h;refine⟨U',s',?_,h⟩;unfold zel;rw[if_pos (wk 0 U st (AY _) h0),e1];simp only[Ac,e2];exact e
variable {m:ME}
def zrt{W:Wk}{g:MG}{c:MT}{m:ME}:∀ {ds:List D} {Inv:Nat->List D->Rho->Sto->Prop} {acc:List D} {U:Rho} {st:Sto},Inv 0 acc U st->(∀ k a U s,k<=ds.length->Inv k a U s->walked W s=true) ->
   (∀ k d a U s,ds[k]?=some d->Inv k a U s->∃ U1 s1 b s2,g d U s=some (U1,s1)/\c U1 s1=some (b,s2)/\((b=true/\∃ x s3,m U1 s2=some (x,s3)/\Inv (k+1) (a++[x]) U1 s3)\/(b=false/\Inv (k+1) a U1 s2))) ->
   ∃ xs U' s',mCI W g c m ds U st=some (xs,s')/\Inv ds.length (acc++xs) U' s'
 | [],Inv,acc,U,st,h0,wk,step=>⟨[],U,st,by unfold mCI;rw[if_pos (wk 0 acc U st (Af _) h0)],by rw[As];exact h0⟩
 | d::ds,Inv,acc,U,st,h0,wk,step=>by
   obtain⟨U1,s1,b,s2,e1,e2,h1⟩:=step 0 d acc U st rfl h0;have wk':∀ k a U s,k<=ds.length->Inv (k+1) a U s->walked W s=true:=fun k a U s hk h=>wk (k+1) a U s (DR hk) h;have st':∀ k d a U s,ds[k]?=some d->Inv (k+1) a U s->∃ U1 s1 b s2,g d U s=some (U1,s1)/\c U1 s1=some (b,s2)/\((b=true/\∃ x s3,m U1 s2=some (x,s3)/\Inv (k+1+1) (a++[x]) U1 s3)\/(b=false/\Inv (k+1+1) a U1 s2)):=fun k d a U s hd h=>step (k+1) d a U s (by simpa using hd) h
   rcases h1 with ⟨rfl,x,s3,e3,h1⟩ | ⟨rfl,h1⟩
   . obtain⟨xs,U',s',e,h⟩:=zrt (W:=W) (g:=g) (c:=c) (m:=m) (ds:=ds) (Inv:=fun k=>Inv (k+1)) h1 wk' st';refine⟨x::xs,U',s',?_,by simpa using h⟩;unfold mCI;rw[if_pos (wk 0 acc U st (AY _) h0),e1];simp only[Ac,e2,if_true,e3,e,Ag]
   obtain⟨xs,U',s',e,h⟩:=zrt (W:=W) (g:=g) (c:=c) (m:=m) (ds:=ds) (Inv:=fun k=>Inv (k+1)) h1 wk' st';refine⟨xs,U',s',?_,h⟩;unfold mCI;rw[if_pos (wk 0 acc U st (AY _) h0),e1];simp only[Ac,e2,Aw,if_false,e]
def zhA{W:Wk}{g:MG}{c:MT}{m:ME}{α:Type}{f h:α->D}{R:Rho->Prop}:∀ {as:List α} {U:Rho} {st:Sto},R U->walked W st=true->(∀ a∈as,∀ U,R U->∃ U1,g (f a) U st=some (U1,st)/\c U1 st=some (true,st)/\m U1 st=some (h a,st)/\R U1) ->
   mCI W g c m (as.map f) U st=some (as.map h,st)
 | [],U,st,r,wk,_=>by unfold mCI;rw[Cz];simp only[wk,if_true,Cz]
 | a::as,U,st,r,wk,hs=>by obtain⟨U1,e1,e2,e3,r1⟩:=hs a Aj U r;have e:=zhA (W:=W) (g:=g) (c:=c) (m:=m) (f:=f) (h:=h) (R:=R) (as:=as) r1 wk fun b hb=>hs b<|Ah _ hb;rw[Ao];unfold mCI;rw[if_pos wk,e1];simp only[Ac,e2,if_true,e3,e,Ag,Ao]
def zcY{ds xs:List D}{s:Sto}(h:s[n]?=some (.lst xs)):walked ⟨ds,[(n,xs)]⟩ s=true:=by unfold walked;simp only[Bz,Gz,DO];exact zkv h
def zaH(h:n<=10000):fits n=true:=by unfold fits;exact decide_eq_true<|AR h<|by decide
end L2.MP
namespace L2.MP
@[simp] theorem zbo{α:Type}(x:α)(y:Option α):orO (some x) y=some x:=rfl
@[simp] theorem zbA{α:Type}(y:Option α):orO none y=y:=rfl
end L2.MP
namespace L2.MP.Hn
open PySem L2.MP
def zfE:MS:=mSeq (mAsg (mCon<|.int 0)<|gNm 2)<|mSeq (mIf (mTst<|mBin ltD (mVar 1)<|zal lenD<|zab (mVar 0)<|mNil) (mAsg (mBin ixA (mVar 0)<|mVar 1)<|gNm 2)<|zcf)<|mSeq (mAsg (mBin addD (mBin mulA (mCon<|.int 2)<|mBin modD (zal absC<|zab (mVar 2)<|mNil)<|mBin powB (mBin powB (mCon<|.int 10)<|mCon<|.int 60)<|mCon<|.int 15)<|zal intC<|zab (mBin ltD (mVar 2)<|mCon<|.int 0)<|mNil)<|gNm 3)<|mSeq (mAsg (mBin modD (mVar 3)<|mCon<|.int 18446744073709551557)<|gNm 4)<|mSeq (mAsg (mBin modD (mBin addD (mBin addD (mBin mulA (mVar 4)<|mCon<|.int 6364136223846793005)<|mBin mulA (mCon<|.int 97)<|mVar 1)<|mCon<|.int 3)<|mCon<|.int 18446744073709551616)<|gNm 5)<|mRet<|mLst<|zab (mBin mulA (mVar 3)<|zal intC<|zab (mBin geD (mVar 3)<|mBin mulA (mCon<|.int 2)<|mBin powB (mCon<|.int 10)<|mCon<|.int 18)<|mNil)<|zab (mVar 5)<|mNil
def zeb:GN:=fnM 6 zfE
def zdL:MS:=mSeq (mIf (mTst<|mBin gtD (mBin ixA (mVar 0)<|mCon<|.int 0)<|mCon<|.int 0) (mSeq (mAsg (mBin modD (mBin ixA (mVar 0)<|mCon<|.int 0)<|mVar 1)<|gNm 2)<|mSeq (putA (mVar 0) (mCon<|.int 0)<|mBin zpp (mBin ixA (mVar 0)<|mCon<|.int 0)<|mVar 1)<|mRet<|mVar 2)<|zcf)<|mSeq (putA (mVar 0) (mCon<|.int 1)<|mBin modD (mBin addD (mBin mulA (mBin ixA (mVar 0)<|mCon<|.int 1)<|mCon<|.int 6364136223846793005)<|mCon<|.int 1442695040888963407)<|mCon<|.int 18446744073709551616)<|mRet<|mBin zpp (mBin mulA (mBin zpp (mBin ixA (mVar 0)<|mCon<|.int 1)<|mCon<|.int 4294967296)<|mVar 1)<|mCon<|.int 4294967296
def zag:GN:=fnM 3 zdL
def zgW:MS:=mRet<|mBin ixA (mVar 1)<|zal zag<|zab (mVar 0)<|zab (zal lenD<|zab (mVar 1)<|mNil)<|mNil
def zax:GN:=fnM 2 zgW
def zbN:ME:=mBin ixA (mVar 1)<|zal zag<|zab (mVar 2)<|zab (mCon<|.int 26)<|mNil
def zb7:MS:=mSeq (mAsg (zal zag<|zab (mVar 0)<|zab (mCon<|.int 4)<|mNil)<|gNm 5) (mSeq (mAsg (zrK (mCon<|.str "")<|zab (zdR (mR1<|zal zax<|zab (mVar 0)<|zab (mLst<|zab (mCon<|.int 1)<|zab (mCon<|.int 1)<|zab (mCon<|.int 2)<|zab (mCon<|.int 3)<|zab (mCon<|.int 8)<|mNil)<|mNil) 1 [2,0] (gNm 0) zcV<|zbN)<|mNil)<|gNm 6)<|mSeq (mIf (zgw (mTst<|mBin neD (mVar 3)<|mLst<|mNil)<|mTst<|mBin eqD (mVar 5)<|mCon<|.int 1) (mAsg (mSlA (mBin addD (zal zax<|zab (mVar 0)<|zab (mVar 3)<|mNil)<|mVar 6) zcM<|zcL<|mCon<|.int 8)<|gNm 6)<|zcf)<|mSeq (mIf (zgw (mTst<|mBin neD (mVar 3)<|mLst<|mNil)<|mTst<|mBin eqD (mVar 5)<|mCon<|.int 2) (mAsg (mBin addD (mSlA (zal zax<|zab (mVar 0)<|zab (mVar 3)<|mNil) zcM<|zcL<|mNeg<|mCon<|.int 1)<|mSlA (mVar 6) zcM<|zcL<|mCon<|.int 1)<|gNm 6)<|zcf)<|mIf (zgw (mTst<|mBin ltD (zal lenD<|zab (mVar 3)<|mNil)<|mVar 1)<|mTst<|mBin zhp (mVar 6)<|mVar 3) (mExp<|mApp (mVar 3)<|zab (mVar 6)<|mNil)<|zcf)
def zer:MS:=mSeq (mAsg (mCon<|.str "abcdefghijklmnopqrstuvwxyz")<|gNm 2) (mSeq (mAsg (mLst<|mNil)<|gNm 3)<|mSeq (mFor (mR1<|mBin mulA (mCon<|.int 2)<|mVar 1) (gNm 4)<|zb7)<|mRet<|mVar 3)
def zcQ:GN:=fnM 7 zer
def zca:ME:=mTup<|zab (mVar 0)<|zab (mBin addD (mCon<|.int 1)<|zal zag<|zab (mVar 1)<|zab (zal zax<|zab (mVar 1)<|zab (mLst<|zab (mCon<|.int 1)<|zab (mCon<|.int 2)<|zab (mCon<|.int 4)<|mNil)<|mNil)<|mNil)<|mNil
def zbw:ME:=zal zax<|zab (mVar 1)<|zab (mVar 2)<|mNil
def zb8:MS:=mSeq (mAsg (mBin mulA (mBin ixA (mVar 4)<|zal zag<|zab (mVar 0)<|zab (mCon<|.int 36)<|mNil)<|zal intC<|zab (mBin gtD (zal zag<|zab (mVar 0)<|zab (mCon<|.int 4)<|mNil)<|mCon<|.int 0)<|mNil)<|gNm 8)<|mSeq (mAsg (mBin addD (mTup<|zab (mVar 8)<|mNil)<|zal zfH<|zab (zdR (mR1<|mCon<|.int 4) 1 [0,5] (gNm 0) zcV<|zbw)<|mNil)<|gNm 9)<|mSeq (mIf (zgw (mTst<|mBin neD (mVar 6)<|mLst<|mNil)<|mTst<|mBin eqD (zal zag<|zab (mVar 0)<|zab (mCon<|.int 8)<|mNil)<|mCon<|.int 0) (mAsg (zal zax<|zab (mVar 0)<|zab (mVar 6)<|mNil)<|gNm 9)<|zcf)<|mExp<|mApp (mVar 6)<|zab (mVar 9)<|mNil
def zes:MS:=mSeq (mAsg (zal zdv<|zab (zal zcQ<|zab (mVar 0)<|zab (zal zax<|zab (mVar 0)<|zab (mLst<|zab (mCon<|.int 1)<|zab (mCon<|.int 2)<|zab (mCon<|.int 2)<|zab (mCon<|.int 3)<|zab (mCon<|.int 5)<|zab (mCon<|.int 0)<|mNil)<|mNil)<|mNil)<|mNil)<|gNm 2) (mSeq (mAsg (zal zfH<|zab (zdR (mW<|mVar 2) 1 [0] (gNm 0) zcV<|zca)<|mNil)<|gNm 3)<|mSeq (mAsg (mCon<|.str "abcdefghijklmnopqrstuvwxyz0123456789")<|gNm 4)<|mSeq (mAsg (mBin addD (mBin addD (mBin addD (mLst<|zab (mCon<|.str "")<|mNil)<|mVar 2)<|mVar 2)<|mVar 2)<|gNm 5)<|mSeq (mAsg (mLst<|mNil)<|gNm 6)<|mSeq (mFor (mR1<|mBin addD (mCon<|.int 1)<|zal zag<|zab (mVar 0)<|zab (mVar 1)<|mNil) (gNm 7)<|zb8)<|mRet<|mTup<|zab (zal zax<|zab (mVar 0)<|zab (mLst<|zab (mCon<|.int 1)<|zab (mCon<|.int 2)<|zab (mCon<|.int 2)<|zab (mCon<|.int 3)<|zab (mCon<|.int 4)<|mNil)<|mNil)<|zab (mVar 3)<|zab (zal zfH<|zab (mVar 6)<|mNil)<|mNil)
def zdk:GN:=fnM 10 zes
def zgX:MS:=mSeq (mAsg (zal zax<|zab (mVar 0)<|zab (mLst<|zab (mCon<|.int 4)<|zab (mCon<|.int 4)<|zab (mCon<|.int 4)<|zab (mCon<|.int 6)<|zab (mCon<|.int 6)<|zab (mCon<|.int 6)<|zab (mCon<|.int 6)<|zab (mCon<|.int 12)<|mNil)<|mNil)<|gNm 1)<|mRet<|mTup<|zab (mBin addD (mCon<|.int 1)<|zal zag<|zab (mVar 0)<|zab (mVar 1)<|mNil)<|zab (mBin addD (mCon<|.int 1)<|zal zag<|zab (mVar 0)<|zab (mVar 1)<|mNil)<|mNil
def zdl:GN:=fnM 2 zgX
def zbG:MS:=putA (mVar 4) (mTup<|zab (zal zag<|zab (mVar 0)<|zab (mBin ixA (mVar 2)<|mCon<|.int 0)<|mNil)<|zab (zal zag<|zab (mVar 0)<|zab (mBin ixA (mVar 2)<|mCon<|.int 1)<|mNil)<|mNil)<|zal zag<|zab (mVar 0)<|zab (zal lenD<|zab (mBin ixA (mVar 1)<|mCon<|.int 2)<|mNil)<|mNil
def zb3:ME:=mBin addD (mVar 0)<|mTup<|zab (mVar 1)<|mNil
def zdm:MS:=mSeq (mAsg (ziZ true)<|gNm 4)<|mSeq (mFor (mR1<|zal zag<|zab (mVar 0)<|zab (mBin addD (mVar 3)<|mCon<|.int 1)<|mNil) (gNm 5)<|zbG)<|mRet<|zal zfH<|zab (zal zdv<|zab (zdR (zom<|mVar 4) 2 [] (gTp 2<|gC (gNm 0)<|gC (gNm 1)<|gN0) zcV<|zb3)<|mNil)<|mNil
def zbV:GN:=fnM 6 zdm
def zfF:MS:=mSeq (mPar 2 3<|zab (zal zdk<|zab (mVar 0)<|zab (mVar 1)<|mNil)<|zab (zal zdl<|zab (mVar 0)<|mNil)<|mNil)<|mRet<|mTup<|zab (mVar 2)<|zab (mVar 3)<|zab (zal zbV<|zab (mVar 0)<|zab (mVar 2)<|zab (mVar 3)<|zab (zal zax<|zab (mVar 0)<|zab (mLst<|zab (mCon<|.int 1)<|zab (mCon<|.int 1)<|zab (mCon<|.int 3)<|zab (mCon<|.int 6)<|mNil)<|mNil)<|mNil)<|mNil
def zec:GN:=fnM 4 zfF
end L2.MP.Hn
namespace L2.MP
open PySem
variable {n:Nat}{ds:List D}{mi:MI}{k:Int}{s:Sto}{x:D}
section
variable {U U1:Rho} {st s1:Sto} {m n ma mb:ME} {mm:MA} {ms mq:MS} {mt mu:MT} {g:G2} {gn:GN} {d:D} {i j:Nat} {mg:MG} {mgs:MGs} {ml mh:MO}
@[simp] theorem zaP:mVar i U st=match U[i]? with
 | some (some d)=>some (d,st)
 | _=>none:=rfl
@[simp] theorem zaS:mCon d U st=some (d,st):=rfl
@[simp] theorem zaM:mBin g ma mb U st=(ma U st).bind fun p=>(mb U p.2).bind fun q=>g p.1 q.1 q.2:=rfl
@[simp] theorem za1:mTst m U st=(m U st).bind fun p=>match p.1 with
 | .bl b=>some (b,p.2)
 | _=>none:=rfl
@[simp] theorem zaB:zcN mt U st=(mt U st).map fun p=>(!p.1,p.2):=rfl
@[simp] theorem zaz:zgw mt mu U st=(mt U st).bind fun p=>if p.1=true then mu U p.2 else some (false,p.2):=rfl
@[simp] theorem za2:mOrT mt mu U st=(mt U st).bind fun p=>if p.1=true then some (true,p.2) else mu U p.2:=rfl
@[simp] theorem zaA:zem m n U st=(mTst m U st).bind fun p=>if p.1=true then n U p.2 else some (.bl false,p.2):=rfl
theorem zaU:mOrV m n U st=(mTst m U st).bind fun p=>if p.1=true then some (.bl true,p.2) else n U p.2:=rfl
@[simp] theorem zaD:zq4 m U st=(mTst m U st).map fun p=>(.bl !p.1,p.2):=rfl
@[simp] theorem zav:zal gn mm U st=(mm U st).bind fun p=>gn p.1 p.2:=rfl
@[simp] theorem zat:zab m mm U st=(m U st).bind fun p=>(mm U p.2).bind fun q=>some (p.1::q.1,q.2):=rfl
@[simp] theorem zaK:mNil U st=some ([],st):=rfl
@[simp] theorem za6:mTup mm U st=(mm U st).bind fun p=>if fits p.1.length=true then some (.tup p.1,p.2) else none:=rfl
@[simp] theorem zaY:mLst mm U st=(mm U st).bind fun p=>if fits p.1.length=true then some (.ref p.2.length,p.2++[.lst p.1]) else none:=rfl
@[simp] theorem zaX:mRet m U st=(m U st).map fun p=>(.rt p.1,p.2):=rfl
@[simp] theorem zbc:mExp m U st=(m U st).map fun p=>(.nx U,p.2):=rfl
@[simp] theorem zaN:mAsg m mg U st=(m U st).bind fun p=>(mg p.1 U p.2).map fun q=>(.nx q.1,q.2):=rfl
@[simp] theorem zcs:gNm i d U st=some (U.set i (some d),st):=rfl
@[simp] theorem zay:zcf U st=some (.nx U,st):=rfl
@[simp] theorem za9:mNeg m U st=(m U st).bind fun p=>negD p.1 p.2:=rfl
@[simp] theorem zbZ:mIf mt ms mq U st=(mt U st).bind fun p=>if p.1=true then ms U p.2 else mq U p.2:=rfl
@[simp] theorem za5:putA ma mb m U st=orO (mAsg m (gSb setD ma mb) U st) (zrL ma mb m U st):=rfl
@[simp] theorem zcp{g3:G3}:gSb g3 ma mb d U st=(ma U st).bind fun p=>(mb U p.2).bind fun q=>(g3 p.1 q.1 d q.2).map fun s=>(U,s):=rfl
@[simp] theorem zco:gTp i mgs d U st=match d with
 | .tup ds=>if ds.length=i then mgs ds U st else none
 | _=>none:=rfl
@[simp] theorem zbb:gN0 [] U st=some (U,st):=rfl
@[simp] theorem zct:gC mg mgs (d::ds) U st=(mg d U st).bind fun p=>mgs ds p.1 p.2:=rfl
theorem ap_w:mW m U st=(m U st).bind fun p=>zmq p.1 p.2:=rfl
@[simp] theorem zb6:mR1 m U st=(m U st).bind fun p=>match p.1 with
 | .int j=>if small j=true then some (⟨run 0 j.toNat,[]⟩,p.2) else none
 | _=>none:=rfl
@[simp] theorem zaC:zcV U st=some (true,st):=rfl
theorem zaw{k:Nat}{fr:List Nat}:zdR mi k fr mg mt m U st=(mi U st).bind fun p=>(mCI p.1 mg mt m p.1.ds (rho0 U k fr) p.2).bind fun q=>if fits q.1.length=true then some (.ref q.2.length,q.2++[.lst q.1]) else none:=rfl
@[simp] theorem zaL:mFor mi mg ms U st=(mi U st).bind fun p=>zel p.1 mg ms p.1.ds U p.2:=rfl
theorem za7:mSlA m ml mh U st=(m U st).bind fun p=>(ml U p.2).bind fun q=>(mh U q.2).bind fun r=>slA p.1 q.1 r.1 r.2:=rfl
@[simp] theorem zcr:zcM U st=some (none,st):=rfl
@[simp] theorem zcq:zcL m U st=(m U st).bind fun p=>match p.1 with
 | .int i=>some (some i,p.2)
 | _=>none:=rfl
@[simp] theorem zba{T:String}:mIsi T m U st=(m U st).bind fun p=>(tyName p.2 p.1).map fun t=>(.bl (subT t T),p.2):=rfl
theorem zaE:zrK m mm U st=(m U st).bind fun p=>match p.1 with
 | .str _=>(mm U p.2).bind fun q=>zpo p.1 q.1 q.2
 | _=>none:=rfl
@[simp] theorem zbd:mApp m mm U st=(m U st).bind fun p=>match p.1 with
 | .ref n=>(zbY p.2 n).bind fun _=>(mm U p.2).bind fun q=>zdy p.1 q.1 q.2
 | _=>none:=rfl
@[simp] theorem za8:mPar i j mm U st=(mm U st).bind fun p=>match p.1 with
 | [x,y]=>some (.nx ((U.set i<|some x).set j<|some y),p.2)
 | _=>none:=rfl
theorem zap:zom m U st=(m U st).bind fun p=>zpt p.1 p.2:=rfl
@[simp] theorem za0:mZip ma mb U st=(ma U st).bind fun p=>(mb U p.2).bind fun q=>zipW p.1 q.1 q.2:=rfl
@[simp] theorem zaq:ziZ true U st=some (.ref st.length,st++[.dt []]):=rfl
@[simp] theorem zao:ziZ false U st=some (.ref st.length,st++[.dk []]):=rfl
def zan{r:Option (Fl×Sto)}(h:ms U st=some (.nx U1,s1))(k:mq U1 s1=r):mSeq ms mq U st=r:=by unfold mSeq;rw[h];exact k
def zbe(h:ms U st=some (.rt d,s)):mSeq ms mq U st=some (.rt d,s):=by unfold mSeq;rw[h];rfl
def zbv{N:Nat}(h:ms (rho N ds) st=some (.rt d,s)):fnM N ms ds st=some (d,s):=by unfold fnM;rw[h];rfl
def zc5{k:Nat}(h:k<=10000:=by decide):fits k=true:=zaH h
@[simp] theorem zcn:fits 0=true:=zc5
@[simp] theorem zcm:fits 1=true:=zc5
@[simp] theorem zb5:fits 2=true:=zc5
@[simp] theorem zcl:fits 3=true:=zc5
@[simp] theorem zck:fits 4=true:=zc5
@[simp] theorem zcj:fits 5=true:=zc5
@[simp] theorem zci:fits 6=true:=zc5
@[simp] theorem zch:fits 7=true:=zc5
@[simp] theorem zcg:fits 8=true:=zc5
def zc4(h0:0<=k)(h1:k<=1000000):small k=true:=by unfold small;simp;omega
def zs8{n:Nat}(h:st[n]?=some (.lst ds))(h0:0<=k)(hx:ds[k.toNat]?=some x):ixA (.ref n) (.int k) st=some (x,st):=by
 have hl:=getElem?_lt hx;have h1:k < ds.length:=by omega
 simp[ixA,orG,idxD,zbY,h,atI,ixN,h0,h1,zbo];exact (List.getElem?_eq_some_iff.mp hx).2
def zbs(h0:0<=k)(hx:ds[k.toNat]?=some x):ixA (.tup ds) (.int k) st=some (x,st):=by
 have hl:=getElem?_lt hx;have h1:k < ds.length:=by omega
 simp[ixA,orG,idxD,atI,ixN,h0,h1,zbo];exact (List.getElem?_eq_some_iff.mp hx).2
def zuq(h0:0<=k)(hx:ds[k.toNat]?=some x):ixA (.kl ds) (.int k) st=some (x,st):=by
 have hl:=getElem?_lt hx;have h1:k < ds.length:=by omega
 simp[ixA,orG,idxD,atI,ixN,h0,h1,zbo];exact (List.getElem?_eq_some_iff.mp hx).2
def zlY{z:Str}{c:Nat}(hz:z.length<=10000)(h0:0<=k)(hx:z.cps[k.toNat]?=some c):ixA (.str z) (.int k) st=some (.str ⟨#[c]⟩,st):=by
 have hl:k.toNat < z.cps.size:=(Array.getElem?_eq_some_iff.mp hx).1;have h1:k < z.cps.size:=by omega
 have hf:fits z.length=true:=zaH hz;simp[ixA,orG,idxD,atI,ixN,h0,h1,zbo,hf];exact (Array.getElem?_eq_some_iff.mp hx).2
def zmT{n:Nat}(h:st[n]?=some (.lst ds)):lenD [.ref n] st=some (.int ds.length,st):=by simp[lenD,zbY,h]
theorem zcO:lenD [.tup ds] st=some (.int ds.length,st):=rfl
theorem zor:lenD [.kl ds] st=some (.int ds.length,st):=rfl
def zeB{n:Nat}(h:st[n]?=some (.lst ds)):zfH [.ref n] st=some (.tup ds,st):=by simp[zfH,zbY,h]
@[simp] theorem add_int(a b:Int):addD (.int a) (.int b) st=some (.int (a+b),st):=rfl
@[simp] theorem sub_int(a b:Int):subD (.int a) (.int b) st=some (.int (a - b),st):=rfl
def mul_int{a b:Int}(h:-1000000<=a/\a<=1000000):mulA (.int a) (.int b) st=some (.int (a*b),st):=by
 have:in64 a=true:=by unfold in64;simp;omega
 simp[mulA,orG,mulD,intD,this,zbo]
def zgP{a b:List D}(ha:a≠[])(h:a.length+b.length<=10000):addD (.tup a) (.tup b) st=some (.tup (a++b),st):=by
 have:fits (a.length+b.length)=true:=zaH h
 cases a with
 | nil=>exact absurd rfl ha
 | cons x a=>simp[addD,this] at *
def zgQ{a b:Nat}{x y:List D}(ha:st[a]?=some (.lst x))(hb:st[b]?=some (.lst y))(h:x.length+y.length<=10000):addD (.ref a) (.ref b) st=some (.ref st.length,st++[.lst (x++y)]):=by have:fits (x.length+y.length)=true:=zaH h;simp[addD,ha,hb,this]
def add_str{a b:Str}(h:a.length+b.length<=10000):addD (.str a) (.str b) st=some (.str (a++b),st):=by have:fits (a.length+b.length)=true:=zaH h;simp[addD,this]
def append_at{n:Nat}(h:st[n]?=some (.lst ds))(hl:ds.length<=10000):zdy (.ref n) [x] st=some (.non,st.set n (.lst<|ds++[x])):=by have:ds.length < sizeLine:=Cj hl (by decide);simp[zdy,h,this]
end
end L2.MP
set_option linter.unusedSimpArgs false
namespace L2.MP.Hn
open PySem L2.MP
def zbU(n:Nat)(st:Sto):Prop:=∃ a b:Int,st[n]?=some (.lst [.int a,.int b])/\0<=a/\0<=b/\b < 18446744073709551616
variable {n:Nat}{st:Sto}
def zbU.lt(h:zbU n st):n < st.length:=by obtain⟨a,b,e,_⟩:=h;exact getElem?_lt e
def zbU.gr{st':Sto}(h:zbU n st)(g:Gr st st'):zbU n st':=by obtain⟨a,b,e,r⟩:=h;exact⟨a,b,by rw[g.old n (getElem?_lt e)];exact e,r⟩
def ztk{x m:Int}(h0:0<=x)(h1:x < 4294967296)(hm:0 < m):0<=x*m / 4294967296/\x*m / 4294967296 < m:=by have h2:x*m < 4294967296*m:=Int.mul_lt_mul_of_pos_right h1 hm;have h3:0<=x*m:=Int.mul_nonneg h0<|Dq hm;omega
def zbT{many:Int}(h:zbU n st)(h1:0 < many)(h2:many < 18446744073709551616):∃ (r:Int) (st':Sto),zag [.ref n,.int many] st=some (.int r,st')/\0<=r/\r < many/\zbU n st'/\Fr n st st'/\st'.length=st.length:=by
 obtain⟨a,b,e,ha,hb,hb2⟩:=h;have hn:=getElem?_lt e;have hm2:many < 340282366920938463463374607431768211456:=by omega
 by_cases hp:0 < a
 . refine⟨a % many,st.set n<|.lst [.int (a / many),.int b],?_,CO _<|by omega,CP _ h1,⟨a / many,b,by simp[hn],Int.ediv_nonneg ha<|by omega,hb,hb2⟩,Fr.set _ _ _,by simp⟩;simp[zag,zdL,fnM,mSeq,mIf,mTst,mBin,mVar,mCon,zal,zab,mNil,mRet,mAsg,gNm,zcf,ixA,orG,zbo,zbA,idxD,ztl,zbY,atI,ixN,ltD,leD,gtD,geD,cmpD,addD,subD,modD,zpp,mulA,mulD,zof,powB,intD,tt2,intC,absC,lenD,putA,gSb,setD,rho,zaY,zb5,e,hp,h1,hm2]
 . have hz:a=0:=by omega
   subst hz;have q0:0<=(b*6364136223846793005+1442695040888963407) % 18446744073709551616:=CO _ (by decide);have q1:(b*6364136223846793005+1442695040888963407) % 18446744073709551616 < 18446744073709551616:=CP _ (by decide);generalize hq:(b*6364136223846793005+1442695040888963407) % 18446744073709551616=q at q0 q1;have q2:0<=q / 4294967296:=by omega
   have q3:q / 4294967296 < 4294967296:=by omega
   obtain⟨r0,r1⟩:=ztk q2 q3 h1;refine⟨q / 4294967296*many / 4294967296,st.set n<|.lst [.int 0,.int q],?_,r0,r1,⟨0,q,by simp[hn],by omega,q0,q1⟩,Fr.set _ _ _,by simp⟩;have i1:in64 b=true:=by unfold in64;simp;omega
   have i2:in64 (q / 4294967296)=true:=by unfold in64;simp;omega
   have hs:∀ o,(List.set st n o)[n]?=some o:=fun o=>by simp[hn]
   simp[zag,zdL,fnM,mSeq,mIf,mTst,mBin,mVar,mCon,zal,zab,mNil,mRet,mAsg,gNm,zcf,ixA,orG,zbo,zbA,idxD,ztl,zbY,atI,ixN,ltD,leD,gtD,geD,cmpD,addD,subD,modD,zpp,mulA,mulD,zof,powB,intD,tt2,intC,absC,lenD,putA,gSb,setD,rho,zaY,zb5,e,hs,i1,i2,hq]
def of_ok{l:Nat}{ds:List D}(h:zbU n st)(hl:st[l]?=some (.lst ds))(hne:0 < ds.length)(hlen:ds.length < 1000000)(hln:l≠n) :
   ∃ d st',zax [.ref n,.ref l] st=some (d,st')/\d∈ds/\zbU n st'/\Fr n st st':=by
 obtain⟨r,s1,e1,r0,r1,p1,f1,_⟩:=zbT (many:=ds.length) h (by omega) (by omega);have hx:r.toNat < ds.length:=by omega
 have hl1:s1[l]?=some (.lst ds):=(f1.old l (getElem?_lt hl) hln).trans hl;refine⟨ds[r.toNat],s1,zbv ?_,BK hx,p1,f1⟩;unfold zgW;simp[rho,zaP,zaS,zaM,za1,zaB,zaz,za2,zaA,zaU,zaD,zav,zat,zaK,za6,zaY,zaX,zbc,zaN,zcs,zay,za9,zbZ,za5,zcp,zco,zbb,zct,ap_w,zb6,zaC,zaw,zaL,za7,zcr,zcq,zba,zaE,zbd,za8,zap,za0,zaq,zao,zbo,zbA,zcn,zcm,zb5,zcl,zck,zcj,zci,zch,zcg,Ac,Ag,add_int,sub_int,ltD,leD,gtD,geD,cmpD,intC,rho0,zmT hl,e1];exact zs8 hl1 r0<|Ak hx
def zho(ds:List D)(h:zbU n st)(hne:0 < ds.length)(hlen:ds.length < 1000000):∃ d st',zax [.ref n,.ref st.length] (st++[.lst ds])=some (d,st')/\d∈ds/\zbU n st'/\Fr n st st':=by obtain⟨d,s,e,hd,p,f⟩:=of_ok (l:=st.length) (h.gr<|Gr.app st [.lst ds]) (zbg st _) hne hlen<|AJ h.lt;exact⟨d,s,e,hd,p,(Fr.app n st _).trans f⟩
def zoL(h:zbU n st):∃ (w h':Int) (st':Sto),zdl [.ref n] st=some (.tup [.int w,.int h'],st')/\1<=w/\w<=12/\1<=h'/\h'<=12/\zbU n st'/\Fr n st st':=by
 obtain⟨d,s1,e1,hd,p1,f1⟩:=zho [.int 4,.int 4,.int 4,.int 6,.int 6,.int 6,.int 6,.int 12] h (by decide) (by decide);obtain⟨m,rfl,hm⟩:∃ m:Int,d=.int m/\0 < m/\m<=12:=by
   simp at hd
   rcases hd with rfl | rfl | rfl <;> exact⟨_,rfl,by decide,by decide⟩
 obtain⟨a,s2,e2,a0,a1,p2,f2,_⟩:=zbT (many:=m) p1 hm.1 (by omega);obtain⟨b,s3,e3,b0,b1,p3,f3,_⟩:=zbT (many:=m) p2 hm.1 (by omega);refine⟨1+a,1+b,s3,zbv ?_,by omega,by omega,by omega,by omega,p3,(f1.trans f2).trans f3⟩;refine zan (U1:=[some (.ref n),some (.int m)]) (s1:=s1) (by simp[rho,zaP,zaS,zaM,za1,zaB,zaz,za2,zaA,zaU,zaD,zav,zat,zaK,za6,zaY,zaX,zbc,zaN,zcs,zay,za9,zbZ,za5,zcp,zco,zbb,zct,ap_w,zb6,zaC,zaw,zaL,za7,zcr,zcq,zba,zaE,zbd,za8,zap,za0,zaq,zao,zbo,zbA,zcn,zcm,zb5,zcl,zck,zcj,zci,zch,zcg,Ac,Ag,add_int,sub_int,ltD,leD,gtD,geD,cmpD,intC,rho0,e1]) ?_;simp[rho,zaP,zaS,zaM,za1,zaB,zaz,za2,zaA,zaU,zaD,zav,zat,zaK,za6,zaY,zaX,zbc,zaN,zcs,zay,za9,zbZ,za5,zcp,zco,zbb,zct,ap_w,zb6,zaC,zaw,zaL,za7,zcr,zcq,zba,zaE,zbd,za8,zap,za0,zaq,zao,zbo,zbA,zcn,zcm,zb5,zcl,zck,zcj,zci,zch,zcg,Ac,Ag,add_int,sub_int,ltD,leD,gtD,geD,cmpD,intC,rho0,e2,e3]
def pows:∃ P Mq Q:Int,0 < Mq/\(∀ st:Sto,powB (.int 10) (.int 60) st=some (.int P,st))/\(∀ st:Sto,powB (.int P) (.int 15) st=some (.int Mq,st))/\∀ st:Sto,powB (.int 10) (.int 18) st=some (.int Q,st) :=
 ⟨10 ^ 60,(10 ^ 60) ^ 15,10 ^ 18,by decide,fun st=>rfl,fun st=>rfl,fun st=>rfl⟩
def zsv{ns:List Int}{k:Int}(h0:0<=k)(h1:k < 1000):∃ st',zeb [.kl (ns.map D.int),.int k] st=some (.ref st.length,st')/\zbU st.length st'/\Gr st st':=by
 obtain⟨P,Mq,Q,hM,p1,p2,p3⟩:=pows;have cell:∃ c:Int,mIf (mTst<|mBin ltD (mVar 1)<|zal lenD<|zab (mVar 0)<|mNil) (mAsg (mBin ixA (mVar 0)<|mVar 1)<|gNm 2) zcf [some (.kl<|ns.map D.int),some (.int k),some (.int 0),none,none,none] st =
     some (.nx [some (.kl<|ns.map D.int),some (.int k),some (.int c),none,none,none],st):=by
   by_cases hk:k < ns.length
   . have hx:k.toNat < ns.length:=by omega
     refine⟨ns[k.toNat],?_⟩;have e:ixA (.kl<|ns.map D.int) (.int k) st=some (.int ns[k.toNat],st):=zuq h0 (by rw[AB,Ak hx];rfl);simp[rho,zaP,zaS,zaM,za1,zaB,zaz,za2,zaA,zaU,zaD,zav,zat,zaK,za6,zaY,zaX,zbc,zaN,zcs,zay,za9,zbZ,za5,zcp,zco,zbb,zct,ap_w,zb6,zaC,zaw,zaL,za7,zcr,zcq,zba,zaE,zbd,za8,zap,za0,zaq,zao,zbo,zbA,zcn,zcm,zb5,zcl,zck,zcj,zci,zch,zcg,Ac,Ag,add_int,sub_int,ltD,leD,gtD,geD,cmpD,intC,rho0,zor,hk,e]
   refine⟨0,?_⟩;simp[rho,zaP,zaS,zaM,za1,zaB,zaz,za2,zaA,zaU,zaD,zav,zat,zaK,za6,zaY,zaX,zbc,zaN,zcs,zay,za9,zbZ,za5,zcp,zco,zbb,zct,ap_w,zb6,zaC,zaw,zaL,za7,zcr,zcq,zba,zaE,zbd,za8,zap,za0,zaq,zao,zbo,zbA,zcn,zcm,zb5,zcl,zck,zcj,zci,zch,zcg,Ac,Ag,add_int,sub_int,ltD,leD,gtD,geD,cmpD,intC,rho0,zor,hk]
 obtain⟨c,ec⟩:=cell;have hR:∃ R:Int,0<=R/\modD (.int<|if c < 0 then -c else c) (.int Mq) st=some (.int R,st):=⟨(if c < 0 then -c else c) % Mq,CO _<|by omega,by simp[modD,intD,hM]⟩
 obtain⟨R,hR0,eR⟩:=hR;have hN:∃ N:Int,0<=N/\2*R+(if c < 0 then 1 else 0)=N:=⟨_,by split <;> omega,rfl⟩
 obtain⟨N,hN0,eN⟩:=hN;have hb0:0<=N % 18446744073709551557:=CO _ (by decide);have hb1:N % 18446744073709551557 < 18446744073709551557:=CP _ (by decide);generalize hB:N % 18446744073709551557=B at hb0 hb1;have hx0:0<=(B*6364136223846793005+97*k+3) % 18446744073709551616:=CO _ (by decide);have hx1:(B*6364136223846793005+97*k+3) % 18446744073709551616 < 18446744073709551616:=CP _ (by decide);generalize hX:(B*6364136223846793005+97*k+3) % 18446744073709551616=X at hx0 hx1;have iB:in64 B=true:=by unfold in64;simp;omega
 have i97:in64 97=true:=by decide
 have i2:in64 2=true:=by decide
 have hY:∃ Y:Int,0<=Y/\mulA (.int N) (.int<|if 2*Q<=N then 1 else 0) st=some (.int Y,st):=by
   by_cases hq:2*Q<=N
   . refine⟨N*1,by omega,?_⟩;have:in64 1=true:=by decide
     simp[hq,mulA,orG,mulD,intD,this,zbo]
   . refine⟨N*0,by omega,?_⟩;have:in64 0=true:=by decide
     simp[hq,mulA,orG,mulD,intD,this,zbo]
 obtain⟨Y,hY0,eY⟩:=hY;refine⟨st++[.lst [.int Y,.int X]],zbv ?_,⟨Y,X,zbg _ _,hY0,hx0,hx1⟩,Gr.app _ _⟩;unfold zfE;refine zan (U1:=[some (.kl<|ns.map D.int),some (.int k),some (.int 0),none,none,none]) (s1:=st) (by simp[rho,zaP,zaS,zaM,za1,zaB,zaz,za2,zaA,zaU,zaD,zav,zat,zaK,za6,zaY,zaX,zbc,zaN,zcs,zay,za9,zbZ,za5,zcp,zco,zbb,zct,ap_w,zb6,zaC,zaw,zaL,za7,zcr,zcq,zba,zaE,zbd,za8,zap,za0,zaq,zao,zbo,zbA,zcn,zcm,zb5,zcl,zck,zcj,zci,zch,zcg,Ac,Ag,add_int,sub_int,ltD,leD,gtD,geD,cmpD,intC,rho0]) ?_;refine zan ec ?_;refine zan (U1:=[some (.kl<|ns.map D.int),some (.int k),some (.int c),some (.int N),none,none]) (s1:=st) (by
   simp[rho,zaP,zaS,zaM,za1,zaB,zaz,za2,zaA,zaU,zaD,zav,zat,zaK,za6,zaY,zaX,zbc,zaN,zcs,zay,za9,zbZ,za5,zcp,zco,zbb,zct,ap_w,zb6,zaC,zaw,zaL,za7,zcr,zcq,zba,zaE,zbd,za8,zap,za0,zaq,zao,zbo,zbA,zcn,zcm,zb5,zcl,zck,zcj,zci,zch,zcg,Ac,Ag,add_int,sub_int,ltD,leD,gtD,geD,cmpD,intC,rho0,p1,p2,absC,eR,mulA,orG,mulD,intD,i2,eN]) ?_
 refine zan (U1:=[some (.kl<|ns.map D.int),some (.int k),some (.int c),some (.int N),some (.int B),none]) (s1:=st) (by simp[rho,zaP,zaS,zaM,za1,zaB,zaz,za2,zaA,zaU,zaD,zav,zat,zaK,za6,zaY,zaX,zbc,zaN,zcs,zay,za9,zbZ,za5,zcp,zco,zbb,zct,ap_w,zb6,zaC,zaw,zaL,za7,zcr,zcq,zba,zaE,zbd,za8,zap,za0,zaq,zao,zbo,zbA,zcn,zcm,zb5,zcl,zck,zcj,zci,zch,zcg,Ac,Ag,add_int,sub_int,ltD,leD,gtD,geD,cmpD,intC,rho0,modD,intD,hB]) ?_;refine zan (U1:=[some (.kl<|ns.map D.int),some (.int k),some (.int c),some (.int N),some (.int B),some (.int X)]) (s1:=st) (by simp[rho,zaP,zaS,zaM,za1,zaB,zaz,za2,zaA,zaU,zaD,zav,zat,zaK,za6,zaY,zaX,zbc,zaN,zcs,zay,za9,zbZ,za5,zcp,zco,zbb,zct,ap_w,zb6,zaC,zaw,zaL,za7,zcr,zcq,zba,zaE,zbd,za8,zap,za0,zaq,zao,zbo,zbA,zcn,zcm,zb5,zcl,zck,zcj,zci,zch,zcg,Ac,Ag,add_int,sub_int,ltD,leD,gtD,geD,cmpD,intC,rho0,modD,mulA,orG,mulD,intD,iB,i97,hX]) ?_;have eY':mulA (.int N) (.int<|if decide (2*Q<=N)=true then 1 else 0) st=some (.int Y,st):=by simpa using eY
 have e2Q:mulA (.int 2) (.int Q) st=some (.int (2*Q),st):=mul_int (by omega);simp[rho,zaP,zaS,zaM,za1,zaB,zaz,za2,zaA,zaU,zaD,zav,zat,zaK,za6,zaY,zaX,zbc,zaN,zcs,zay,za9,zbZ,za5,zcp,zco,zbb,zct,ap_w,zb6,zaC,zaw,zaL,za7,zcr,zcq,zba,zaE,zbd,za8,zap,za0,zaq,zao,zbo,zbA,zcn,zcm,zb5,zcl,zck,zcj,zci,zch,zcg,Ac,Ag,add_int,sub_int,ltD,leD,gtD,geD,cmpD,intC,rho0,p3,e2Q,eY]
end L2.MP.Hn
namespace L2.MP
open PySem PySem.Builtin PySem.Builtin.Str
def zr6(j:Int)(n:Nat):strSliceIndices none (some j) 1 n=AV (max 0<|min (if j < 0 then j+n else j) n).toNat:=by
 unfold strSliceIndices sliceRange;have h1:(1:Int) > 0:=by decide
 simp only[h1,if_true];generalize max 0 (min (if j < 0 then j+(n:Int) else j) (n:Int))=c
 by_cases hc:0 < c
 . simp only[hc,if_true,Int.ediv_one];have e:(c - 0+1 - 1).toNat=c.toNat:=by omega
   rw[e];apply GY
   . simp
   intro i h1 h2;simp
 . simp only[hc,if_false];have e:c.toNat=0:=by omega
   simp[e]
def zhY{z:Array Nat}:∀ {k:Nat},k<=z.size->(AV k).filterMap (fun i=>z[i]?)=z.toList.take k
 | 0,_=>by simp
 | k+1,h=>by
   rw[List.range_succ,List.filterMap_append,zhY (k:=k) (by omega),List.take_succ]
   congr 1
   have hk:k < z.size:=by omega
   simp[AU hk,BU]
def zcD(z:Str)(j:Int):(Bo z none<|some j).cps.toList=z.cps.toList.take (max 0<|min (if j < 0 then j+z.length else j) z.length).toNat:=by
 unfold Bo;rw[zr6];have hk:(max 0<|min (if j < 0 then j+(z.length:Int) else j) (z.length:Int)).toNat<=z.cps.size:=by show _<=z.length;omega
 generalize (max 0<|min (if j < 0 then j+(z.length:Int) else j) (z.length:Int)).toNat=k at hk
 split
 . rename_i hc;simp at hc;rw[hc];have:z.length=z.cps.toList.length:=rfl;rw[this,Cc]
 show (((AV k).filterMap fun i=>z.cps[i]?).toArray).toList=_;rw[zhY hk]
def join_nil:∀ cs:List Nat,(Str.join ("":Str)<|cs.map fun c=>⟨#[c]⟩).cps.toList=cs
 | []=>rfl
 | [c]=>rfl
 | c::d::cs=>by
   have ih:=join_nil (d::cs);show ((⟨#[c]⟩++("":Str)++Str.join ("":Str) ((d::cs).map fun c=>⟨#[c]⟩):Str)).cps.toList=_;have e:∀ a b:Str,(a++b).cps.toList=a.cps.toList++b.cps.toList:=fun a b=>by show (a.cps++b.cps).toList=_;simp
   rw[e,e,ih];rfl
def app_list(a b:Str):(a++b).cps.toList=a.cps.toList++b.cps.toList:=by show (a.cps++b.cps).toList=_;simp
theorem len_list(a:Str):a.length=a.cps.toList.length:=rfl
end L2.MP
namespace L2.MP
open PySem
def zfJ{f:D->Option PyData}(hf:∀ x:Str,AK x=true->f (.str x)=some (.str x)):∀ {ss:List Str},(∀ x∈ss,AK x=true)->toPs f (ss.map D.str)=some (ss.map Ct)
 | [],_=>rfl
 | x::ss,h=>by rw[Ao,toPs,hf x (h x Aj),Ac,zfJ hf fun y hy=>h y (Ah _ hy)];rfl
variable {n:Nat}{st:Sto}{x:Str}
def zeO(h:AK x=true):toP (n+1) st (.str x)=some (.str x):=by rw[toP];simp[h]
variable {ss:List Str}
def zdA{k:Nat}{ss:List Str}(hk:st[k]?=some (.lst<|ss.map D.str))(h:∀ x∈ss,AK x=true):toP (n+2) st (.ref k)=some (.list<|ss.map Ct):=by rw[toP];simp only[zbY,hk,Ac];rw[zfJ (fun x hx=>zeO hx) h];rfl
variable {f:Nat}
def ne_nil{g:Nat}{ss:List Str}(hf:st[f]?=some (.lst<|ss.map D.str))(hg:st[g]?=some (.lst []))(h:∀ x∈ss,AK x=true):neD (.ref f) (.ref g) st=some (.bl (!ss.isEmpty),st):=by
 unfold neD;rw[zdA (n:=98) hf h,zdA (n:=98) (ss:=[]) hg (by simp)]
 cases ss <;> rfl
def zkU(x:Str):∀ ss:List Str,(ss.map Ct).any (fun y=>Bm y (.str x))=decide (x∈ss)
 | []=>rfl
 | y::ss=>by
   rw[Ao,CJ,zkU x ss];have:Bm (.str y) (.str x)=(y==x):=by simp[Bm]
   rw[this]
   by_cases hyx:y=x
   . simp[hyx]
   simp[hyx,BV hyx]
def zjT{x:Str}{ss:List Str}(hf:st[f]?=some (.lst<|ss.map D.str))(h:∀ x∈ss,AK x=true)(hx:AK x=true):zhp (.str x) (.ref f) st=some (.bl (!decide (x∈ss)),st):=by unfold zhp orG inD;rw[zdA (n:=48) hf h,zeO (n:=49) hx];simp only[Ac,memP,Ag,zkU,zbo];rfl
def eq_int(a b:Int)(st:Sto):eqD (.int a) (.int b) st=some (.bl (a==b),st):=by unfold eqD;rw[toP,toP];simp[Bm]
end L2.MP
namespace L2.MP.Hn
open PySem L2.MP
structure NameOk(x:Str):Prop where
 lo:1<=x.cps.toList.length
 hi:x.cps.toList.length<=8
 ab:∀ c∈x.cps.toList,97<=c/\c<=122
def NameOk.str{x:Str}(h:NameOk x):AK x=true:=by unfold AK;rw[GA];intro c hc;have:=h.ab c (by simpa using hc);simp;omega
noncomputable abbrev zbB:Str:="abcdefghijklmnopqrstuvwxyz"
def zkf:∀ k:Nat,k < 26->zbB.cps[k]?=some (97+k):=by decide +kernel
variable {n:Nat}{st:Sto}
def zrs{v:Option D}(h:zbU n st)(j:Nat)(hj:j<=1000):∃ (cs:List Nat) (st':Sto),mCI ⟨run 0 j,[]⟩ (gNm 0) zcV zbN (run 0 j) [v,some (.str zbB),some (.ref n)] st=some (cs.map fun c=>.str ⟨#[c]⟩,st')/\cs.length=j/\(∀ c∈cs,97<=c/\c<=122)/\zbU n st'/\Fr n st st':=by
 have key:=zrt (W:=⟨run 0 j,[]⟩) (g:=gNm 0) (c:=zcV) (m:=zbN) (ds:=run 0 j) (acc:=[]) (st:=st) (U:=[v,some (.str zbB),some (.ref n)])
   (Inv:=fun k a U s=>(∃ x,U=[x,some (.str zbB),some (.ref n)])/\(∃ cs:List Nat,a=cs.map (fun c=>D.str ⟨#[c]⟩)/\cs.length=k/\∀ c∈cs,97<=c/\c<=122)/\zbU n s/\Fr n st s)
   ⟨⟨v,rfl⟩,⟨[],rfl,rfl,by simp⟩,h,Fr.refl _ _⟩ (fun _ _ _ _ _ _=>rfl) (fun k d a U s hd hI=>by
     obtain⟨⟨x,rfl⟩,⟨cs,rfl,hl,hc⟩,hp,hf⟩:=hI;obtain⟨r,s1,e1,r0,r1,p1,f1,_⟩:=zbT (many:=26) hp (by decide) (by decide);have hk:r.toNat < 26:=by omega
     have ex:ixA (.str zbB) (.int r) s1=some (.str ⟨#[97+r.toNat]⟩,s1):=zlY (by decide) r0<|zkf _ hk;refine⟨[some d,some (.str zbB),some (.ref n)],s,true,s,by simp[rho,zaP,zaS,zaM,za1,zaB,zaz,za2,zaA,zaU,zaD,zav,zat,zaK,za6,zaY,zaX,zbc,zaN,zcs,zay,za9,zbZ,za5,zcp,zco,zbb,zct,ap_w,zb6,zaC,zaw,zaL,za7,zcr,zcq,zba,zaE,zbd,za8,zap,za0,zaq,zao,zbo,zbA,zcn,zcm,zb5,zcl,zck,zcj,zci,zch,zcg,Ac,Ag,add_int,sub_int,ltD,leD,gtD,geD,cmpD,intC,rho0],rfl,.inl ⟨rfl,.str ⟨#[97+r.toNat]⟩,s1,?_,⟨_,rfl⟩,⟨cs++[97+r.toNat],by simp,by simp[hl],?_⟩,p1,hf.trans f1⟩⟩
     . unfold zbN;simp[rho,zaP,zaS,zaM,za1,zaB,zaz,za2,zaA,zaU,zaD,zav,zat,zaK,za6,zaY,zaX,zbc,zaN,zcs,zay,za9,zbZ,za5,zcp,zco,zbb,zct,ap_w,zb6,zaC,zaw,zaL,za7,zcr,zcq,zba,zaE,zbd,za8,zap,za0,zaq,zao,zbo,zbA,zcn,zcm,zb5,zcl,zck,zcj,zci,zch,zcg,Ac,Ag,add_int,sub_int,ltD,leD,gtD,geD,cmpD,intC,rho0,e1,ex]
     . intro c hm
       rcases List.mem_append.mp hm with hm | hm
       . exact hc c hm
       . rw[List.mem_singleton.mp hm]
         omega)
 obtain⟨xs,U',s',e,_,⟨cs,hx,hl,hc⟩,hp,hf⟩:=key;rw[D5] at hx;subst hx;exact⟨cs,s',e,by rw[hl,zdg],hc,hp,hf⟩
def znD{z:Str}{j:Int}(hz:z.length<=10000):slA (.str z) none (some j) st=some (.str (Bo z none<|some j),st):=by have:fits z.length=true:=zaH hz;simp[slA,slD,slS,this,zbA]
def zha{l:List Nat}{k c:Nat}(h:c∈l.take k):c∈l:=C7 h
def zfu:∀ cs:List Nat,((cs.map fun c=>(⟨#[c]⟩:Str)).map (·.length)).sum=cs.length
 | []=>rfl
 | c::cs=>by have ih:=zfu cs;simp only[Ao,List.sum_cons,AA];rw[ih];show 1+_=_;omega
def joined{cs:List Nat}{l:Nat}(hl:st[l]?=some (.lst<|cs.map fun c=>.str ⟨#[c]⟩))(hc:cs.length<=1000):∃ z:Str,zpo (.str "") [.ref l] st=some (.str z,st)/\z.cps.toList=cs:=by
 refine⟨Txt.join ""<|cs.map fun c=>⟨#[c]⟩,?_,?_⟩
 . have e:cs.map (fun c=>D.str ⟨#[c]⟩)=(cs.map fun c=>(⟨#[c]⟩:Str)).map D.str:=by simp
   unfold zpo;simp only[zbY,hl,Ac];rw[e,zeR];simp only[Ac];rw[if_pos];apply decide_eq_true;have h0:(("":Str)).length=0:=by decide
   rw[h0,Nat.mul_zero,EX];rw[zfu];omega
 show (Builtin.Str.glued "" _).cps.toList=cs;rw[StrLaws.glued_eq_join];exact join_nil cs
structure NInv(n f:Nat)(many:Int)(st0:Sto)(ss:List Str)(s:Sto):Prop where
 at_:s[f]?=some (.lst (ss.map D.str))
 ok:∀ x∈ss,NameOk x
 nd:ss.Nodup
 len:(ss.length:Int)<=many
 pot:zbU n s
 fr:Fr n st0 s
variable {f:Nat}{many:Int}{st0 s:Sto}{ss:List Str}
def NInv.fr'{s':Sto}(h:NInv n f many st0 ss s)(hf:f≠n)(p:zbU n s')(g:Fr n s s'):NInv n f many st0 ss s' :=
 ⟨(g.old f (getElem?_lt h.at_) hf).trans h.at_,h.ok,h.nd,h.len,p,h.fr.trans g⟩
def NInv.app{n f:Nat}{many:Int}{st0:Sto}{ss:List Str}{s:Sto}(h:NInv n f many st0 ss s)(hf:f≠n)(l:List O):NInv n f many st0 ss (s++l):=h.fr' hf (h.pot.gr<|Gr.app _ _)<|Fr.app _ _ _
def zjS(h:NInv n f many st0 ss s)(hf:f≠n)(hne:ss≠[])(hm:many<=1000):∃ (y:Str) (s':Sto),zax [.ref n,.ref f] s=some (.str y,s')/\NameOk y/\NInv n f many st0 ss s':=by have hl:=h.len;obtain⟨d,s1,e1,hd,p1,f1⟩:=of_ok h.pot h.at_ (by rw[Ai];exact List.length_pos_iff.mpr hne) (by rw[Ai];omega) hf;obtain⟨y,hy,rfl⟩:=List.mem_map.mp hd;exact⟨y,s1,e1,h.ok y hy,h.fr' hf p1 f1⟩
def zjZ{v4 v5 v6:Option D}(h:NInv n f many st0 ss s)(hf:f≠n)(hf0:st0.length<=f)(hm:many<=1000) :
   ∃ (ss':List Str) (w5 w6:Option D) (s':Sto),zb7 [some (.ref n),some (.int many),some (.str zbB),some (.ref f),v4,v5,v6] s=some (.nx [some (.ref n),some (.int many),some (.str zbB),some (.ref f),v4,w5,w6],s')/\NInv n f many st0 ss' s'/\(0 < many->ss'≠[]):=by
 obtain⟨w,s1,e1,w0,w1,p1,f1,_⟩:=zbT (many:=4) h.pot (by decide) (by decide);have h1:=h.fr' hf p1 f1;obtain⟨d,s2,e2,hd,p2,f2⟩:=zho [.int 1,.int 1,.int 2,.int 3,.int 8] p1 (by decide) (by decide);obtain⟨j,rfl,hj1,hj8⟩:∃ j:Int,d=.int j/\1<=j/\j<=8:=by
   simp at hd
   rcases hd with rfl | rfl | rfl | rfl <;> exact⟨_,rfl,by decide,by decide⟩
 have h2:=h1.fr' hf p2 f2;obtain⟨cs,s3,e3,hl3,hc3,p3,f3⟩:=zrs (v:=none) p2 j.toNat (by omega);have h3:=h2.fr' hf p3 f3;have h4:=h3.app hf [.lst (cs.map fun c=>D.str ⟨#[c]⟩)];obtain⟨z,ez,hz⟩:=joined (zbg s3 (.lst (cs.map fun c=>D.str ⟨#[c]⟩))) (by omega);have nz:NameOk z:=⟨by rw[hz];omega,by rw[hz];omega,by rw[hz];exact hc3⟩
 have sj:small j=true:=zc4 (by omega) (by omega);have fc:fits cs.length=true:=zaH (by omega);unfold zb7;generalize hs4:s3++[O.lst (cs.map fun c=>D.str ⟨#[c]⟩)]=s4 at h4 ez
 -- the first if
 have if1:∃ (z':Str) (s5:Sto),mIf (zgw (mTst (mBin neD (mVar 3) (mLst mNil))) (mTst (mBin eqD (mVar 5) (mCon (.int 1))))) (mAsg (mSlA (mBin addD (zal zax (zab (mVar 0) (zab (mVar 3) mNil))) (mVar 6)) zcM (zcL (mCon (.int 8)))) (gNm 6)) zcf
     [some (.ref n),some (.int many),some (.str zbB),some (.ref f),v4,some (.int w),some (.str z)] s4=some (.nx [some (.ref n),some (.int many),some (.str zbB),some (.ref f),v4,some (.int w),some (.str z')],s5)/\NameOk z'/\NInv n f many st0 ss s5:=by
   have h5:=h4.app hf [.lst []];have en:=ne_nil h5.at_ (zbg s4 (.lst [])) fun x hx=>(h5.ok x hx).str
   by_cases hc:ss≠[]/\w=1
   . obtain⟨hne,rfl⟩:=hc;obtain⟨y,s6,e6,ny,h6⟩:=zjS h5 hf hne hm;have hlen:(y++z).length<=10000:=by rw[len_list,app_list,AE];have:=ny.hi;have:=nz.hi;omega
     have ea:addD (.str y) (.str z) s6=some (.str (y++z),s6):=add_str (by rw[len_list,len_list];have:=ny.hi;have:=nz.hi;omega);have es:=znD (z:=y++z) (j:=8) (st:=s6) hlen;refine⟨Bo (y++z) none (some 8),s6,?_,⟨?_,?_,?_⟩,h6⟩
     . have he:ss.isEmpty=false:=by cases ss with
         | nil=>exact absurd rfl hne
         | cons a b=>rfl
       simp[rho,zaP,zaS,zaM,za1,zaB,zaz,za2,zaA,zaU,zaD,zav,zat,zaK,za6,zaY,zaX,zbc,zaN,zcs,zay,za9,zbZ,za5,zcp,zco,zbb,zct,ap_w,zb6,zaC,zaw,zaL,za7,zcr,zcq,zba,zaE,zbd,za8,zap,za0,zaq,zao,zbo,zbA,zcn,zcm,zb5,zcl,zck,zcj,zci,zch,zcg,Ac,Ag,add_int,sub_int,ltD,leD,gtD,geD,cmpD,intC,rho0,en,he,eq_int,e6,ea,es]
     . rw[zcD,A1,app_list,AE,len_list,app_list,AE];have q:=ny.lo;simp at q ⊢;omega
     . rw[zcD,A1];simp;omega
     . intro c hc;rw[zcD,app_list] at hc
       rcases List.mem_append.mp (zha hc) with hc | hc
       . exact ny.ab c hc
       exact nz.ab c hc
   . refine⟨z,s4++[.lst []],?_,nz,h5⟩
     by_cases he:ss=[]
     . subst he;simp[rho,zaP,zaS,zaM,za1,zaB,zaz,za2,zaA,zaU,zaD,zav,zat,zaK,za6,zaY,zaX,zbc,zaN,zcs,zay,za9,zbZ,za5,zcp,zco,zbb,zct,ap_w,zb6,zaC,zaw,zaL,za7,zcr,zcq,zba,zaE,zbd,za8,zap,za0,zaq,zao,zbo,zbA,zcn,zcm,zb5,zcl,zck,zcj,zci,zch,zcg,Ac,Ag,add_int,sub_int,ltD,leD,gtD,geD,cmpD,intC,rho0,en]
     . have he':ss.isEmpty=false:=by cases ss with
         | nil=>exact absurd rfl he
         | cons a b=>rfl
       have hw:¬ w=1:=fun q=>hc ⟨he,q⟩;have hw':(w==1)=false:=by simp[hw]
       simp[rho,zaP,zaS,zaM,za1,zaB,zaz,za2,zaA,zaU,zaD,zav,zat,zaK,za6,zaY,zaX,zbc,zaN,zcs,zay,za9,zbZ,za5,zcp,zco,zbb,zct,ap_w,zb6,zaC,zaw,zaL,za7,zcr,zcq,zba,zaE,zbd,za8,zap,za0,zaq,zao,zbo,zbA,zcn,zcm,zb5,zcl,zck,zcj,zci,zch,zcg,Ac,Ag,add_int,sub_int,ltD,leD,gtD,geD,cmpD,intC,rho0,en,he',eq_int,hw']
 obtain⟨z5,s5,i5,nz5,h5⟩:=if1
 -- the second if
 have if2:∃ (z':Str) (s6:Sto),mIf (zgw (mTst (mBin neD (mVar 3) (mLst mNil))) (mTst (mBin eqD (mVar 5) (mCon (.int 2))))) (mAsg (mBin addD (mSlA (zal zax (zab (mVar 0) (zab (mVar 3) mNil))) zcM (zcL (mNeg (mCon (.int 1))))) (mSlA (mVar 6) zcM (zcL (mCon (.int 1))))) (gNm 6)) zcf
     [some (.ref n),some (.int many),some (.str zbB),some (.ref f),v4,some (.int w),some (.str z5)] s5=some (.nx [some (.ref n),some (.int many),some (.str zbB),some (.ref f),v4,some (.int w),some (.str z')],s6)/\NameOk z'/\NInv n f many st0 ss s6:=by
   have h6:=h5.app hf [.lst []];have en:=ne_nil h6.at_ (zbg s5 (.lst [])) fun x hx=>(h6.ok x hx).str
   by_cases hc:ss≠[]/\w=2
   . obtain⟨hne,rfl⟩:=hc;obtain⟨y,s7,e7,ny,h7⟩:=zjS h6 hf hne hm;have e8:=znD (z:=y) (j:=-1) (st:=s7) (by rw[len_list];have:=ny.hi;omega);have e9:=znD (z:=z5) (j:=1) (st:=s7) (by rw[len_list];have:=nz5.hi;omega);have l8:(Bo y none (some (-1))).cps.toList.length<=7:=by
       rw[zcD,A1,len_list];have q:=ny.hi;simp at q ⊢;omega
     have l9:(Bo z5 none (some 1)).cps.toList.length=1:=by rw[zcD,A1,len_list];have q:=nz5.lo;simp at q ⊢;omega
     have ea:addD (.str (Bo y none (some (-1)))) (.str (Bo z5 none (some 1))) s7=some (.str (Bo y none (some (-1))++Bo z5 none (some 1)),s7):=add_str (by rw[len_list,len_list];omega);refine⟨Bo y none (some (-1))++Bo z5 none (some 1),s7,?_,⟨?_,?_,?_⟩,h7⟩
     . have he:ss.isEmpty=false:=by cases ss with
         | nil=>exact absurd rfl hne
         | cons a b=>rfl
       simp[rho,zaP,zaS,zaM,za1,zaB,zaz,za2,zaA,zaU,zaD,zav,zat,zaK,za6,zaY,zaX,zbc,zaN,zcs,zay,za9,zbZ,za5,zcp,zco,zbb,zct,ap_w,zb6,zaC,zaw,zaL,za7,zcr,zcq,zba,zaE,zbd,za8,zap,za0,zaq,zao,zbo,zbA,zcn,zcm,zb5,zcl,zck,zcj,zci,zch,zcg,Ac,Ag,add_int,sub_int,ltD,leD,gtD,geD,cmpD,intC,rho0,en,he,eq_int,e7,ea,e8,e9,negD]
     . rw[app_list,AE];omega
     . rw[app_list,AE];omega
     . intro c hc;rw[app_list] at hc
       rcases List.mem_append.mp hc with hc | hc
       . rw[zcD] at hc;exact ny.ab c (zha hc)
       rw[zcD] at hc;exact nz5.ab c (zha hc)
   . refine⟨z5,s5++[.lst []],?_,nz5,h6⟩
     by_cases he:ss=[]
     . subst he;simp[rho,zaP,zaS,zaM,za1,zaB,zaz,za2,zaA,zaU,zaD,zav,zat,zaK,za6,zaY,zaX,zbc,zaN,zcs,zay,za9,zbZ,za5,zcp,zco,zbb,zct,ap_w,zb6,zaC,zaw,zaL,za7,zcr,zcq,zba,zaE,zbd,za8,zap,za0,zaq,zao,zbo,zbA,zcn,zcm,zb5,zcl,zck,zcj,zci,zch,zcg,Ac,Ag,add_int,sub_int,ltD,leD,gtD,geD,cmpD,intC,rho0,en]
     . have he':ss.isEmpty=false:=by cases ss with
         | nil=>exact absurd rfl he
         | cons a b=>rfl
       have hw:¬ w=2:=fun q=>hc ⟨he,q⟩;have hw':(w==2)=false:=by simp[hw]
       simp[rho,zaP,zaS,zaM,za1,zaB,zaz,za2,zaA,zaU,zaD,zav,zat,zaK,za6,zaY,zaX,zbc,zaN,zcs,zay,za9,zbZ,za5,zcp,zco,zbb,zct,ap_w,zb6,zaC,zaw,zaL,za7,zcr,zcq,zba,zaE,zbd,za8,zap,za0,zaq,zao,zbo,zbA,zcn,zcm,zb5,zcl,zck,zcj,zci,zch,zcg,Ac,Ag,add_int,sub_int,ltD,leD,gtD,geD,cmpD,intC,rho0,en,he',eq_int,hw']
 obtain⟨z6,s6,i6,nz6,h6⟩:=if2;have stp1:mAsg (zal zag (zab (mVar 0) (zab (mCon (.int 4)) mNil))) (gNm 5) [some (.ref n),some (.int many),some (.str zbB),some (.ref f),v4,v5,v6] s=some (.nx [some (.ref n),some (.int many),some (.str zbB),some (.ref f),v4,some (.int w),v6],s1):=by simp[rho,zaP,zaS,zaM,za1,zaB,zaz,za2,zaA,zaU,zaD,zav,zat,zaK,za6,zaY,zaX,zbc,zaN,zcs,zay,za9,zbZ,za5,zcp,zco,zbb,zct,ap_w,zb6,zaC,zaw,zaL,za7,zcr,zcq,zba,zaE,zbd,za8,zap,za0,zaq,zao,zbo,zbA,zcn,zcm,zb5,zcl,zck,zcj,zci,zch,zcg,Ac,Ag,add_int,sub_int,ltD,leD,gtD,geD,cmpD,intC,rho0,e1]
 have stp2:mAsg (zrK (mCon (.str "")) (zab (zdR (mR1 (zal zax (zab (mVar 0) (zab (mLst (zab (mCon (.int 1)) (zab (mCon (.int 1)) (zab (mCon (.int 2)) (zab (mCon (.int 3)) (zab (mCon (.int 8)) mNil)))))) mNil)))) 1 [2,0] (gNm 0) zcV zbN) mNil)) (gNm 6)
     [some (.ref n),some (.int many),some (.str zbB),some (.ref f),v4,some (.int w),v6] s1=some (.nx [some (.ref n),some (.int many),some (.str zbB),some (.ref f),v4,some (.int w),some (.str z)],s4):=by
   simp[rho,zaP,zaS,zaM,za1,zaB,zaz,za2,zaA,zaU,zaD,zav,zat,zaK,za6,zaY,zaX,zbc,zaN,zcs,zay,za9,zbZ,za5,zcp,zco,zbb,zct,ap_w,zb6,zaC,zaw,zaL,za7,zcr,zcq,zba,zaE,zbd,za8,zap,za0,zaq,zao,zbo,zbA,zcn,zcm,zb5,zcl,zck,zcj,zci,zch,zcg,Ac,Ag,add_int,sub_int,ltD,leD,gtD,geD,cmpD,intC,rho0,e2,sj,e3,fc,hs4,ez]
 have last:∃ (ss':List Str) (s7:Sto),mIf (zgw (mTst (mBin ltD (zal lenD (zab (mVar 3) mNil)) (mVar 1))) (mTst (mBin zhp (mVar 6) (mVar 3)))) (mExp (mApp (mVar 3) (zab (mVar 6) mNil))) zcf
     [some (.ref n),some (.int many),some (.str zbB),some (.ref f),v4,some (.int w),some (.str z6)] s6=some (.nx [some (.ref n),some (.int many),some (.str zbB),some (.ref f),v4,some (.int w),some (.str z6)],s7)/\NInv n f many st0 ss' s7/\(0 < many->ss'≠[]):=by
   have el:=zmT h6.at_;have ei:=zjT h6.at_ (fun x hx=>(h6.ok x hx).str) nz6.str
   by_cases hlt:(ss.length:Int) < many
   . by_cases hin:z6∈ss
     . exact⟨ss,s6,by simp[rho,zaP,zaS,zaM,za1,zaB,zaz,za2,zaA,zaU,zaD,zav,zat,zaK,za6,zaY,zaX,zbc,zaN,zcs,zay,za9,zbZ,za5,zcp,zco,zbb,zct,ap_w,zb6,zaC,zaw,zaL,za7,zcr,zcq,zba,zaE,zbd,za8,zap,za0,zaq,zao,zbo,zbA,zcn,zcm,zb5,zcl,zck,zcj,zci,zch,zcg,Ac,Ag,add_int,sub_int,ltD,leD,gtD,geD,cmpD,intC,rho0,el,ei,hlt,hin],h6,fun _ z=>by subst z;cases hin⟩
     . have hfl:=getElem?_lt h6.at_;have ea:=append_at (x:=.str z6) h6.at_ (by rw[Ai];omega);refine⟨ss++[z6],s6.set f (.lst (ss.map D.str++[.str z6])),by simp[rho,zaP,zaS,zaM,za1,zaB,zaz,za2,zaA,zaU,zaD,zav,zat,zaK,za6,zaY,zaX,zbc,zaN,zcs,zay,za9,zbZ,za5,zcp,zco,zbb,zct,ap_w,zb6,zaC,zaw,zaL,za7,zcr,zcq,zba,zaE,zbd,za8,zap,za0,zaq,zao,zbo,zbA,zcn,zcm,zb5,zcl,zck,zcj,zci,zch,zcg,Ac,Ag,add_int,sub_int,ltD,leD,gtD,geD,cmpD,intC,rho0,el,ei,hlt,hin,ea,zbY,h6.at_],?_,fun _ z=>by simp at z⟩;refine⟨by simp[hfl],fun x hx=>?_,?_,by simp;omega,?_,?_⟩
       . rcases List.mem_append.mp hx with hx | hx
         . exact h6.ok x hx
         rw[List.mem_singleton.mp hx];exact nz6
       . rw[EE];refine⟨h6.nd,by simp,fun a ha b hb=>?_⟩;rw[List.mem_singleton.mp hb];rintro rfl;exact hin ha
       . obtain⟨a,b,e,r⟩:=h6.pot;exact⟨a,b,by rw[AH hf];exact e,r⟩
       exact⟨by have:=h6.fr.len;simpa using this,fun k hk nk=>by rw[AH (by omega)];exact h6.fr.old k hk nk⟩
   exact⟨ss,s6,by simp[rho,zaP,zaS,zaM,za1,zaB,zaz,za2,zaA,zaU,zaD,zav,zat,zaK,za6,zaY,zaX,zbc,zaN,zcs,zay,za9,zbZ,za5,zcp,zco,zbb,zct,ap_w,zb6,zaC,zaw,zaL,za7,zcr,zcq,zba,zaE,zbd,za8,zap,za0,zaq,zao,zbo,zbA,zcn,zcm,zb5,zcl,zck,zcj,zci,zch,zcg,Ac,Ag,add_int,sub_int,ltD,leD,gtD,geD,cmpD,intC,rho0,el,hlt],h6,fun hp z=>by subst z;exact hlt (by simpa using hp)⟩
 obtain⟨ss',s7,e7,h7,h8⟩:=last;refine⟨ss',some (.int w),some (.str z6),s7,?_,h7,h8⟩;exact zan stp1 (zan stp2 (zan i5 (zan i6 e7)))
def zoe(h:zbU n st)(h0:0<=many)(h1:many<=100):∃ (ss:List Str) (st':Sto),zcQ [.ref n,.int many] st=some (.ref st.length,st')/\st'[st.length]?=some (.lst<|ss.map D.str)/\(∀ x∈ss,NameOk x)/\ss.Nodup/\(ss.length:Int)<=many/\zbU n st'/\Fr n st st'/\(0 < many->ss≠[]):=by
 have hf:st.length≠n:=AJ h.lt;have key:=zen (W:=⟨run 0 (2*many).toNat,[]⟩) (g:=gNm 4) (m:=zb7) (ds:=run 0 (2*many).toNat) (U:=[some (.ref n),some (.int many),some (.str zbB),some (.ref st.length),none,none,none]) (st:=st++[.lst []])
   (Inv:=fun k U s=>∃ (ss:List Str) (a b c:Option D),U=[some (.ref n),some (.int many),some (.str zbB),some (.ref st.length),a,b,c]/\NInv n st.length many st ss s/\(0 < k->0 < many->ss≠[]))
   ⟨[],none,none,none,rfl,⟨zbg st _,by simp,by simp,by simpa using h0,h.gr<|Gr.app _ _,Fr.app _ _ _⟩,fun z=>absurd z (AX _)⟩ (fun _ _ _ _ _=>rfl) (fun k d U s hd hI=>by obtain⟨ss,a,b,c,rfl,hN,_⟩:=hI;obtain⟨ss',w5,w6,s',e,hN',hE⟩:=zjZ (v4:=some d) (v5:=b) (v6:=c) hN hf (Af _) (by omega);exact⟨_,s,_,s',rfl,e,ss',some d,w5,w6,rfl,hN',fun _=>hE⟩)
 obtain⟨U',s',e,ss,a,b,c,rfl,hN,hE⟩:=key;refine⟨ss,s',zbv ?_,hN.at_,hN.ok,hN.nd,hN.len,hN.pot,hN.fr,fun hp=>hE (by rw[zdg];omega) hp⟩;unfold zer;refine zan (U1:=[some (.ref n),some (.int many),some (.str zbB),none,none,none,none]) (s1:=st) (by simp[rho,zaP,zaS,zaM,za1,zaB,zaz,za2,zaA,zaU,zaD,zav,zat,zaK,za6,zaY,zaX,zbc,zaN,zcs,zay,za9,zbZ,za5,zcp,zco,zbb,zct,ap_w,zb6,zaC,zaw,zaL,za7,zcr,zcq,zba,zaE,zbd,za8,zap,za0,zaq,zao,zbo,zbA,zcn,zcm,zb5,zcl,zck,zcj,zci,zch,zcg,Ac,Ag,add_int,sub_int,ltD,leD,gtD,geD,cmpD,intC,rho0]) ?_;refine zan (U1:=[some (.ref n),some (.int many),some (.str zbB),some (.ref st.length),none,none,none]) (s1:=st++[.lst []]) (by simp[rho,zaP,zaS,zaM,za1,zaB,zaz,za2,zaA,zaU,zaD,zav,zat,zaK,za6,zaY,zaX,zbc,zaN,zcs,zay,za9,zbZ,za5,zcp,zco,zbb,zct,ap_w,zb6,zaC,zaw,zaL,za7,zcr,zcq,zba,zaE,zbd,za8,zap,za0,zaq,zao,zbo,zbA,zcn,zcm,zb5,zcl,zck,zcj,zci,zch,zcg,Ac,Ag,add_int,sub_int,ltD,leD,gtD,geD,cmpD,intC,rho0]) ?_;have sm:small (2*many)=true:=zc4 (by omega) (by omega);have em:mulA (.int 2) (.int many) (st++[.lst []])=some (.int (2*many),st++[.lst []]):=mul_int (by omega);refine zan (U1:=[some (.ref n),some (.int many),some (.str zbB),some (.ref st.length),a,b,c]) (s1:=s') (by simp[rho,zaP,zaS,zaM,za1,zaB,zaz,za2,zaA,zaU,zaD,zav,zat,zaK,za6,zaY,zaX,zbc,zaN,zcs,zay,za9,zbZ,za5,zcp,zco,zbb,zct,ap_w,zb6,zaC,zaw,zaL,za7,zcr,zcq,zba,zaE,zbd,za8,zap,za0,zaq,zao,zbo,zbA,zcn,zcm,zb5,zcl,zck,zcj,zci,zch,zcg,Ac,Ag,add_int,sub_int,ltD,leD,gtD,geD,cmpD,intC,rho0,em,sm,e]) ?_;simp[rho,zaP,zaS,zaM,za1,zaB,zaz,za2,zaA,zaU,zaD,zav,zat,zaK,za6,zaY,zaX,zbc,zaN,zcs,zay,za9,zbZ,za5,zcp,zco,zbb,zct,ap_w,zb6,zaC,zaw,zaL,za7,zcr,zcq,zba,zaE,zbd,za8,zap,za0,zaq,zao,zbo,zbA,zcn,zcm,zb5,zcl,zck,zcj,zci,zch,zcg,Ac,Ag,add_int,sub_int,ltD,leD,gtD,geD,cmpD,intC,rho0]
def zod(h:zbU n st)(h0:0<=many)(h1:many<=100):∃ (ss:List Str) (st':Sto),zcQ [.ref n,.int many] st=some (.ref st.length,st')/\st'[st.length]?=some (.lst<|ss.map D.str)/\(∀ x∈ss,NameOk x)/\ss.Nodup/\(ss.length:Int)<=many/\zbU n st'/\Fr n st st':=by obtain⟨ss,s,a,b,c,d,e,f,g,_⟩:=zoe h h0 h1;exact⟨ss,s,a,b,c,d,e,f,g⟩
end L2.MP.Hn
namespace L2.MP
open PySem
def zbK(p:Str×Int):D:=.tup [.str p.1,.int p.2]
def zfo(k:List Str):D:=.tup<|k.map D.str
def zk5{n:Nat}{st:Sto}{k:Nat}:∀ {ks:List (List Str)},st[k]?=some (.lst<|ks.map zfo)->(∀ q∈ks,∀ x∈q,AK x=true)->toP (n+3) st (.ref k)=some (.list<|ks.map fun q=>.tuple (q.map Ct)):=by
 intro ks hk h;rw[toP];simp only[zbY,hk,Ac];have:∀ l:List (List Str),(∀ q∈l,∀ x∈q,AK x=true)->toPs (toP (n+2) st) (l.map zfo)=some (l.map fun q=>.tuple (q.map Ct)):=by
   intro l
   induction l with
   | nil=>intro _;rfl
   | cons q l ih =>
     intro hl;rw[Ao,toPs];have e:toP (n+2) st (zfo q)=some (.tuple<|q.map Ct):=by unfold zfo;rw[toP,zfJ (fun x hx=>zeO hx) (hl q Aj)];rfl
     rw[e,Ac,ih fun r hr=>hl r (Ah _ hr)];rfl
 rw[this ks h];rfl
def zqY{st:Sto}{f g:Nat}{ks:List (List Str)}(hf:st[f]?=some (.lst<|ks.map zfo))(hg:st[g]?=some (.lst []))(h:∀ q∈ks,∀ x∈q,AK x=true):neD (.ref f) (.ref g) st=some (.bl (!ks.isEmpty),st):=by
 unfold neD;rw[zk5 (n:=97) hf h,zdA (n:=98) (ss:=[]) hg (by simp)]
 cases ks <;> rfl
end L2.MP
namespace L2.MP.Hn
open PySem L2.MP
structure FaceOk(x:Str):Prop where
 len:x.cps.toList.length<=1
 ab:∀ c∈x.cps.toList,(97<=c/\c<=122)\/(48<=c/\c<=57)
variable {x:Str}
def FaceOk.str(h:FaceOk x):AK x=true:=by unfold AK;rw[GA];intro c hc;have:=h.ab c (by simpa using hc);simp;omega
def zgb(ns:List Str)(x:Str):Prop:=x=""\/x∈ns
def ziY(ns:List Str)(k:List Str):Prop:=∃ f a b c d,k=[f,a,b,c,d]/\FaceOk f/\zgb ns a/\zgb ns b/\zgb ns c/\zgb ns d
def zoU:AK ("":Str)=true:=by decide +kernel
variable {ns:List Str}
def zgb.str{ns:List Str}{x:Str}(hn:∀ y∈ns,NameOk y)(h:zgb ns x):AK x=true:=by
 rcases h with rfl | h
 . exact zoU
 exact (hn x h).str
def ziY.str{ns:List Str}{k:List Str}(hn:∀ y∈ns,NameOk y)(h:ziY ns k):∀ x∈k,AK x=true:=by
 obtain⟨f,a,b,c,d,rfl,hf,ha,hb,hc,hd⟩:=h;intro x hx;simp at hx
 rcases hx with rfl | rfl | rfl | rfl | rfl
 . exact hf.str
 . exact ha.str hn
 . exact hb.str hn
 . exact hc.str hn
 exact hd.str hn
variable {n l:Nat}{st:Sto}{ss:List Str}{v:Option D}
def zk8(h:zbU n st)(hl:st[l]?=some (.lst<|ss.map D.str))(hln:l≠n):∃ (vs:List (Str×Int)) (st':Sto),
   mCI ⟨ss.map D.str,[(l,ss.map D.str)]⟩ (gNm 0) zcV zca (ss.map D.str) [v,some (.ref n)] st=some (vs.map zbK,st')/\vs.map (·.1)=ss/\(∀ p∈vs,1<=p.2/\p.2<=4)/\zbU n st'/\Fr n st st':=by
 have key:=zrt (W:=⟨ss.map D.str,[(l,ss.map D.str)]⟩) (g:=gNm 0) (c:=zcV) (m:=zca) (ds:=ss.map D.str) (acc:=[]) (st:=st) (U:=[v,some (.ref n)])
   (Inv:=fun k a U s=>(∃ x,U=[x,some (.ref n)])/\(∃ vs:List (Str×Int),a=vs.map zbK/\vs.map (·.1)=ss.take k/\∀ p∈vs,1<=p.2/\p.2<=4)/\zbU n s/\Fr n st s)
   ⟨⟨v,rfl⟩,⟨[],rfl,by simp,by simp⟩,h,Fr.refl _ _⟩ (fun k a U s _ hI=>zcY ((hI.2.2.2.old l (getElem?_lt hl) hln).trans hl)) (fun k d a U s hd hI=>by
     obtain⟨⟨x,rfl⟩,⟨vs,rfl,hm,hv⟩,hp,hf⟩:=hI;rw[AB] at hd;obtain⟨y,hy,rfl⟩:=zaj hd;obtain⟨d,s1,e1,hd,p1,f1⟩:=zho [.int 1,.int 2,.int 4] hp (by decide) (by decide);obtain⟨m,rfl,hm1,hm4⟩:∃ m:Int,d=.int m/\1<=m/\m<=4:=by
       simp at hd
       rcases hd with rfl | rfl | rfl <;> exact⟨_,rfl,by decide,by decide⟩
     obtain⟨r,s2,e2,r0,r1,p2,f2,_⟩:=zbT (many:=m) p1 (by omega) (by omega);refine⟨[some (.str y),some (.ref n)],s,true,s,rfl,rfl,.inl ⟨rfl,zbK (y,1+r),s2,?_,⟨_,rfl⟩,⟨vs++[(y,1+r)],by simp,?_,?_⟩,p2,hf.trans<|f1.trans f2⟩⟩
     . unfold zca zbK;simp[rho,zaP,zaS,zaM,za1,zaB,zaz,za2,zaA,zaU,zaD,zav,zat,zaK,za6,zaY,zaX,zbc,zaN,zcs,zay,za9,zbZ,za5,zcp,zco,zbb,zct,ap_w,zb6,zaC,zaw,zaL,za7,zcr,zcq,zba,zaE,zbd,za8,zap,za0,zaq,zao,zbo,zbA,zcn,zcm,zb5,zcl,zck,zcj,zci,zch,zcg,Ac,Ag,add_int,sub_int,ltD,leD,gtD,geD,cmpD,intC,rho0,e1,e2]
     . rw[Fv,hm,EF,hy];rfl
     . intro p hp
       rcases List.mem_append.mp hp with hp | hp
       . exact hv p hp
       rw[List.mem_singleton.mp hp];exact⟨by show 1<=1+r;omega,by show 1+r<=4;omega⟩)
 obtain⟨xs,U',s',e,_,⟨vs,hx,hm,hv⟩,hp,hf⟩:=key;rw[D5] at hx;subst hx;refine⟨vs,s',e,?_,hv,hp,hf⟩;rw[hm,Ai,Cc]
variable {sd:List Str}
def znF(h:zbU n st)(hl:st[l]?=some (.lst<|sd.map D.str))(hln:l≠n)(h0:0 < sd.length)(h1:sd.length < 1000):∃ (xs:List Str) (st':Sto),
   mCI ⟨run 0 4,[]⟩ (gNm 0) zcV zbw (run 0 4) [v,some (.ref n),some (.ref l)] st=some (xs.map D.str,st')/\xs.length=4/\(∀ x∈xs,x∈sd)/\zbU n st'/\Fr n st st':=by
 have key:=zrt (W:=⟨run 0 4,[]⟩) (g:=gNm 0) (c:=zcV) (m:=zbw) (ds:=run 0 4) (acc:=[]) (st:=st) (U:=[v,some (.ref n),some (.ref l)])
   (Inv:=fun k a U s=>(∃ x,U=[x,some (.ref n),some (.ref l)])/\(∃ xs:List Str,a=xs.map D.str/\xs.length=k/\∀ x∈xs,x∈sd)/\zbU n s/\Fr n st s)
   ⟨⟨v,rfl⟩,⟨[],rfl,rfl,by simp⟩,h,Fr.refl _ _⟩ (fun _ _ _ _ _ _=>rfl) (fun k d a U s hd hI=>by
     obtain⟨⟨x,rfl⟩,⟨xs,rfl,hlen,hx⟩,hp,hf⟩:=hI;obtain⟨d1,s1,e1,hd1,p1,f1⟩:=of_ok hp ((hf.old l (getElem?_lt hl) hln).trans hl) (by simpa using h0) (by rw[Ai];omega) hln;obtain⟨y,hy,rfl⟩:=List.mem_map.mp hd1;refine⟨[some d,some (.ref n),some (.ref l)],s,true,s,rfl,rfl,.inl ⟨rfl,.str y,s1,?_,⟨_,rfl⟩,⟨xs++[y],by simp,by simp[hlen],?_⟩,p1,hf.trans f1⟩⟩
     . unfold zbw;simp[rho,zaP,zaS,zaM,za1,zaB,zaz,za2,zaA,zaU,zaD,zav,zat,zaK,za6,zaY,zaX,zbc,zaN,zcs,zay,za9,zbZ,za5,zcp,zco,zbb,zct,ap_w,zb6,zaC,zaw,zaL,za7,zcr,zcq,zba,zaE,zbd,za8,zap,za0,zaq,zao,zbo,zbA,zcn,zcm,zb5,zcl,zck,zcj,zci,zch,zcg,Ac,Ag,add_int,sub_int,ltD,leD,gtD,geD,cmpD,intC,rho0,e1]
     . intro z hz
       rcases List.mem_append.mp hz with hz | hz
       . exact hx z hz
       rw[List.mem_singleton.mp hz];exact hy)
 obtain⟨ys,U',s',e,_,⟨xs,hx,hm,hv⟩,hp,hf⟩:=key;rw[D5] at hx;subst hx;exact⟨xs,s',e,by rw[hm,zdg],hv,hp,hf⟩
noncomputable abbrev signs:Str:="abcdefghijklmnopqrstuvwxyz0123456789"
def signs_at:∀ k:Nat,k < 36->∃ c,signs.cps[k]?=some c/\((97<=c/\c<=122)\/(48<=c/\c<=57)):=by
 have:∀ k:Nat,k < 36->(match signs.cps[k]? with | some c=>decide ((97<=c/\c<=122)\/(48<=c/\c<=57)) | none=>false)=true:=by decide +kernel
 intro k hk;have h:=this k hk
 cases e:signs.cps[k]? with
 | none=>rw[e] at h;cases h
 | some c=>rw[e] at h;exact⟨c,rfl,of_decide_eq_true h⟩
def zoO{z:Str}{b:Bool}(hz:z.length<=100):mulA (.str z) (.int<|if b=true then 1 else 0) st=some (.str (if b=true then z else DW),st):=by
 have hs:sizeLine=16777216:=by decide
 cases b with
 | true =>
   have e:repS z 1=z:=by simp[repS]
   simp[mulA,orG,mulD,zof,intD,zbA,e,hs];omega
 | false =>
   have e:repS z 0=DW:=by simp[repS]
   have e2:Str.empty.length=0:=by decide
   simp[mulA,orG,mulD,zof,intD,zbA,e,hs,e2]
structure KInv(n f l:Nat)(ns sd:List Str)(st0:Sto)(ks:List (List Str))(s:Sto):Prop where
 at_:s[f]?=some (.lst (ks.map zfo))
 sd_:s[l]?=some (.lst (sd.map D.str))
 ok:∀ k∈ks,ziY ns k
 pot:zbU n s
 fr:Fr n st0 s
variable {f:Nat}{st0 s:Sto}{ks:List (List Str)}
def KInv.fr'{s':Sto}(h:KInv n f l ns sd st0 ks s)(hf:f≠n)(hl:l≠n)(p:zbU n s')(g:Fr n s s'):KInv n f l ns sd st0 ks s' :=
 ⟨(g.old f (getElem?_lt h.at_) hf).trans h.at_,(g.old l (getElem?_lt h.sd_) hl).trans h.sd_,h.ok,p,h.fr.trans g⟩
def KInv.app{n f l:Nat}{ns sd:List Str}{st0:Sto}{ks:List (List Str)}{s:Sto}(h:KInv n f l ns sd st0 ks s)(hf:f≠n)(hl:l≠n)(o:List O):KInv n f l ns sd st0 ks (s++o):=h.fr' hf hl (h.pot.gr<|Gr.app _ _)<|Fr.app _ _ _
noncomputable abbrev hrho (n:Nat) (most:Int) (v2 v3:Option D) (l f:Nat) (v7 v8 v9:Option D):Rho:=[some (.ref n),some (.int most),v2,v3,some (.str signs),some (.ref l),some (.ref f),v7,v8,v9]
def len4{xs:List Str}(h:xs.length=4):∃ a b c d,xs=[a,b,c,d]:=by
 match xs,h with
 | [a,b,c,d],_=>exact⟨a,b,c,d,rfl⟩
variable {most:Int}
def zku{ns sd:List Str}{v2 v3 v7 v8 v9:Option D}(h:KInv n f l ns sd st0 ks s)(hf:f≠n)(hl:l≠n)(hfl:f≠l)(hf0:st0.length<=f)(hsd:∀ x∈sd,zgb ns x)(hns:∀ x∈ns,NameOk x)
   (h0:0 < sd.length) (h1:sd.length < 1000) (hk:ks.length<=1000):∃ (k:List Str) (w8 w9:Option D) (s':Sto),zb8 (hrho n most v2 v3 l f v7 v8 v9) s=some (.nx (hrho n most v2 v3 l f v7 w8 w9),s')/\KInv n f l ns sd st0 (ks++[k]) s':=by
 obtain⟨r,s1,e1,r0,r1,p1,f1,_⟩:=zbT (many:=36) h.pot (by decide) (by decide);obtain⟨c,hc,hcc⟩:=signs_at r.toNat (by omega);have ei:ixA (.str signs) (.int r) s1=some (.str ⟨#[c]⟩,s1):=zlY (by decide) r0 hc;obtain⟨q,s2,e2,q0,q1,p2,f2,_⟩:=zbT (many:=4) p1 (by decide) (by decide);have h2:=h.fr' hf hl p2<|f1.trans f2;obtain⟨face,ef,hface⟩:∃ face:Str,mulA (.str ⟨#[c]⟩) (.int<|if 0 < q then 1 else 0) s2=some (.str face,s2)/\FaceOk face:=by
   have e:=zoO (z:=⟨#[c]⟩) (b:=decide (0 < q)) (st:=s2) (by show 1<=100;decide);refine⟨_,by simpa using e,?_⟩
   by_cases hq:0 < q
   . rw[if_pos (by simpa using hq)];exact⟨by simp,fun x hx=>by simp at hx;rw[hx];exact hcc⟩
   rw[if_neg (by simpa using hq)];exact⟨by decide,fun x hx=>by rw[show Str.empty.cps.toList=[] from by decide] at hx;cases hx⟩
 obtain⟨xs,s3,e3,hx4,hxs,p3,f3⟩:=znF (v:=none) p2 h2.sd_ hl h0 h1;have h3:=h2.fr' hf hl p3 f3;have h4:=h3.app hf hl [.lst (xs.map D.str)];obtain⟨a,b,c',d,rfl⟩:=len4 hx4;have ka:ziY ns [face,a,b,c',d]:=⟨face,a,b,c',d,rfl,hface,hsd a<|hxs a<|by simp,hsd b<|hxs b<|by simp,hsd c'<|hxs c'<|by simp,hsd d<|hxs d<|by simp⟩
 have et:=zeB<|zbg s3<|.lst<|[a,b,c',d].map D.str;have stp1:mAsg (mBin mulA (mBin ixA (mVar 4)<|zal zag<|zab (mVar 0)<|zab (mCon<|.int 36)<|mNil)<|zal intC<|zab (mBin gtD (zal zag<|zab (mVar 0)<|zab (mCon<|.int 4)<|mNil)<|mCon<|.int 0)<|mNil) (gNm 8) (hrho n most v2 v3 l f v7 v8 v9) s=some (.nx (hrho n most v2 v3 l f v7 (some<|.str face) v9),s2):=by simp[hrho,rho,zaP,zaS,zaM,za1,zaB,zaz,za2,zaA,zaU,zaD,zav,zat,zaK,za6,zaY,zaX,zbc,zaN,zcs,zay,za9,zbZ,za5,zcp,zco,zbb,zct,ap_w,zb6,zaC,zaw,zaL,za7,zcr,zcq,zba,zaE,zbd,za8,zap,za0,zaq,zao,zbo,zbA,zcn,zcm,zb5,zcl,zck,zcj,zci,zch,zcg,Ac,Ag,add_int,sub_int,ltD,leD,gtD,geD,cmpD,intC,rho0,e1,ei,e2,ef]
 have sm:small 4=true:=zc4 (by decide) (by decide);have ead:addD (.tup [.str face]) (.tup [.str a,.str b,.str c',.str d]) (s3++[.lst [.str a,.str b,.str c',.str d]])=some (.tup [.str face,.str a,.str b,.str c',.str d],s3++[.lst [.str a,.str b,.str c',.str d]]):=zgP (by simp) (by simp);have e3':mCI ⟨run 0<|Int.toNat 4,[]⟩ (gNm 0) zcV zbw (run 0<|Int.toNat 4) [none,some (.ref n),some (.ref l)] s2=some ([.str a,.str b,.str c',.str d],s3):=e3;have et':zfH [.ref s3.length] (s3++[.lst [.str a,.str b,.str c',.str d]])=some (.tup [.str a,.str b,.str c',.str d],s3++[.lst [.str a,.str b,.str c',.str d]]):=et;have stp2:mAsg (mBin addD (mTup<|zab (mVar 8)<|mNil)<|zal zfH<|zab (zdR (mR1<|mCon<|.int 4) 1 [0,5] (gNm 0) zcV<|zbw)<|mNil) (gNm 9) (hrho n most v2 v3 l f v7 (some<|.str face) v9) s2=some (.nx (hrho n most v2 v3 l f v7 (some<|.str face)<|some<|zfo [face,a,b,c',d]),s3++[.lst ([a,b,c',d].map D.str)]):=by simp[hrho,rho,zaP,zaS,zaM,za1,zaB,zaz,za2,zaA,zaU,zaD,zav,zat,zaK,za6,zaY,zaX,zbc,zaN,zcs,zay,za9,zbZ,za5,zcp,zco,zbb,zct,ap_w,zb6,zaC,zaw,zaL,za7,zcr,zcq,zba,zaE,zbd,za8,zap,za0,zaq,zao,zbo,zbA,zcn,zcm,zb5,zcl,zck,zcj,zci,zch,zcg,Ac,Ag,add_int,sub_int,ltD,leD,gtD,geD,cmpD,intC,rho0,sm,zfo] at e3' et' ead ⊢;simp[e3',rho,zaP,zaS,zaM,za1,zaB,zaz,za2,zaA,zaU,zaD,zav,zat,zaK,za6,zaY,zaX,zbc,zaN,zcs,zay,za9,zbZ,za5,zcp,zco,zbb,zct,ap_w,zb6,zaC,zaw,zaL,za7,zcr,zcq,zba,zaE,zbd,za8,zap,za0,zaq,zao,zbo,zbA,zcn,zcm,zb5,zcl,zck,zcj,zci,zch,zcg,Ac,Ag,add_int,sub_int,ltD,leD,gtD,geD,cmpD,intC,rho0,et',ead]
 generalize hs4:s3++[O.lst ([a,b,c',d].map D.str)]=s4 at h4 stp2;have if3:∃ (k:List Str) (s6:Sto),mIf (zgw (mTst<|mBin neD (mVar 6)<|mLst<|mNil)<|mTst<|mBin eqD (zal zag<|zab (mVar 0)<|zab (mCon<|.int 8)<|mNil)<|mCon<|.int 0) (mAsg (zal zax<|zab (mVar 0)<|zab (mVar 6)<|mNil)<|gNm 9) zcf
     (hrho n most v2 v3 l f v7 (some<|.str face)<|some<|zfo [face,a,b,c',d]) s4=some (.nx (hrho n most v2 v3 l f v7 (some<|.str face)<|some<|zfo k),s6)/\ziY ns k/\KInv n f l ns sd st0 ks s6:=by
   have h5:=h4.app hf hl [.lst []];have en:=zqY h5.at_ (zbg s4<|.lst []) fun q hq=>(h5.ok q hq).str hns
   by_cases he:ks=[]
   . subst he;exact⟨[face,a,b,c',d],s4++[.lst []],by simp[hrho,rho,zaP,zaS,zaM,za1,zaB,zaz,za2,zaA,zaU,zaD,zav,zat,zaK,za6,zaY,zaX,zbc,zaN,zcs,zay,za9,zbZ,za5,zcp,zco,zbb,zct,ap_w,zb6,zaC,zaw,zaL,za7,zcr,zcq,zba,zaE,zbd,za8,zap,za0,zaq,zao,zbo,zbA,zcn,zcm,zb5,zcl,zck,zcj,zci,zch,zcg,Ac,Ag,add_int,sub_int,ltD,leD,gtD,geD,cmpD,intC,rho0,en],ka,h5⟩
   . have he':ks.isEmpty=false:=by cases ks with
       | nil=>exact absurd rfl he
       | cons a b=>rfl
     obtain⟨u,s6,e6,u0,u1,p6,f6,_⟩:=zbT (many:=8) h5.pot (by decide) (by decide);have h6:=h5.fr' hf hl p6 f6
     by_cases hu:u=0
     . subst hu;obtain⟨d7,s7,e7,hd7,p7,f7⟩:=of_ok h6.pot h6.at_ (by rw[Ai];exact List.length_pos_iff.mpr he) (by rw[Ai];omega) hf;obtain⟨k,hk7,rfl⟩:=List.mem_map.mp hd7;exact⟨k,s7,by simp[hrho,rho,zaP,zaS,zaM,za1,zaB,zaz,za2,zaA,zaU,zaD,zav,zat,zaK,za6,zaY,zaX,zbc,zaN,zcs,zay,za9,zbZ,za5,zcp,zco,zbb,zct,ap_w,zb6,zaC,zaw,zaL,za7,zcr,zcq,zba,zaE,zbd,za8,zap,za0,zaq,zao,zbo,zbA,zcn,zcm,zb5,zcl,zck,zcj,zci,zch,zcg,Ac,Ag,add_int,sub_int,ltD,leD,gtD,geD,cmpD,intC,rho0,en,he',e6,eq_int,e7],h6.ok k hk7,h6.fr' hf hl p7 f7⟩
     . have hu':(u==0)=false:=by simp[hu]
       exact⟨[face,a,b,c',d],s6,by simp[hrho,rho,zaP,zaS,zaM,za1,zaB,zaz,za2,zaA,zaU,zaD,zav,zat,zaK,za6,zaY,zaX,zbc,zaN,zcs,zay,za9,zbZ,za5,zcp,zco,zbb,zct,ap_w,zb6,zaC,zaw,zaL,za7,zcr,zcq,zba,zaE,zbd,za8,zap,za0,zaq,zao,zbo,zbA,zcn,zcm,zb5,zcl,zck,zcj,zci,zch,zcg,Ac,Ag,add_int,sub_int,ltD,leD,gtD,geD,cmpD,intC,rho0,en,he',e6,eq_int,hu'],ka,h6⟩
 obtain⟨k,s6,e6,kk,h6⟩:=if3;have ea:=append_at (x:=zfo k) h6.at_ (by rw[Ai];omega);have hlt:=getElem?_lt h6.at_;have stp4:mExp (mApp (mVar 6)<|zab (mVar 9)<|mNil) (hrho n most v2 v3 l f v7 (some<|.str face)<|some<|zfo k) s6=some (.nx (hrho n most v2 v3 l f v7 (some<|.str face)<|some<|zfo k),s6.set f (.lst<|ks.map zfo++[zfo k])):=by simp[hrho,rho,zaP,zaS,zaM,za1,zaB,zaz,za2,zaA,zaU,zaD,zav,zat,zaK,za6,zaY,zaX,zbc,zaN,zcs,zay,za9,zbZ,za5,zcp,zco,zbb,zct,ap_w,zb6,zaC,zaw,zaL,za7,zcr,zcq,zba,zaE,zbd,za8,zap,za0,zaq,zao,zbo,zbA,zcn,zcm,zb5,zcl,zck,zcj,zci,zch,zcg,Ac,Ag,add_int,sub_int,ltD,leD,gtD,geD,cmpD,intC,rho0,zbY,h6.at_,ea]
 refine⟨k,some<|.str face,some<|zfo k,s6.set f<|.lst<|ks.map zfo++[zfo k],?_,?_⟩
 . unfold zb8;exact zan stp1<|zan stp2<|zan e6 stp4
 . refine⟨by simp[hlt],by rw[AH hfl];exact h6.sd_,fun x hx=>?_,?_,⟨by have:=h6.fr.len;simpa using this,fun j hj nj=>by rw[AH (by omega)];exact h6.fr.old j hj nj⟩⟩
   . rcases List.mem_append.mp hx with hx | hx
     . exact h6.ok x hx
     rw[List.mem_singleton.mp hx];exact kk
   obtain⟨a,b,e,r⟩:=h6.pot;exact⟨a,b,by rw[AH hf];exact e,r⟩
structure House where
 e:Int
 sticks:List (Str×Int)
 kinds:List (List Str)
def House.d(h:House):D:=.tup [.int h.e,.tup (h.sticks.map zbK),.tup (h.kinds.map zfo)]
structure House.Ok(h:House)(most:Int):Prop where
 e0:1<=h.e
 e1:h.e<=4
 names:∀ p∈h.sticks,NameOk p.1
 srt:(h.sticks.map (·.1)).Pairwise fun a b=>sle a b=true
 nd:(h.sticks.map (·.1)).Nodup
 str:∀ p∈h.sticks,1<=p.2/\p.2<=4
 few:h.sticks.length<=5
 kind:∀ k∈h.kinds,ziY (h.sticks.map (·.1)) k
 k0:0 < h.kinds.length
 k1:(h.kinds.length:Int)<=most
def zfL(hl:st[l]?=some (.lst<|ss.map D.str))(h:ss.length < 64):zdv [.ref l] st=some (.ref st.length,st++[.lst ((zbz ss).map D.str)]):=by simp[zdv,orN,zdB,zbY,hl,zeR,h,zbo]
def zoE(h:zbU n st)(h0:1<=most)(h1:most<=500):∃ (ho:House) (st':Sto),zdk [.ref n,.int most] st=some (ho.d,st')/\ho.Ok most/\zbU n st'/\Fr n st st':=by
 obtain⟨d,s1,e1,hd,p1,f1⟩:=zho [.int 1,.int 2,.int 2,.int 3,.int 5,.int 0] h (by decide) (by decide);obtain⟨m,rfl,hm0,hm5⟩:∃ m:Int,d=.int m/\0<=m/\m<=5:=by
   simp at hd
   rcases hd with rfl | rfl | rfl | rfl | rfl <;> exact⟨_,rfl,by decide,by decide⟩
 obtain⟨ss,s2,e2,at2,ok2,nd2,len2,p2,f2⟩:=zod p1 hm0 (by omega);have es:=zfL at2 (by omega);have hperm:(zbz ss).Perm ss:=Bg _ _;have hsrt:(zbz ss).Pairwise fun a b=>sle a b=true:=Bd (fun a b c h1 h2=>zdP a b c h1 h2) (fun a b=>zeD a b) ss;have oks:∀ x∈zbz ss,NameOk x:=fun x hx=>ok2 x (hperm.mem_iff.mp hx);have nds:(zbz ss).Nodup:=hperm.nodup_iff.mpr nd2;have lens:(zbz ss).length<=5:=by rw[hperm.length_eq];omega
 generalize zbz ss=ns at es hsrt oks nds lens;generalize hs3:s2++[O.lst (ns.map D.str)]=s3 at es;have g3:Gr s2 s3:=by rw[<-hs3];exact Gr.app _ _
 have p3:=p2.gr g3;have at3:s3[s2.length]?=some (.lst (ns.map D.str)):=by rw[<-hs3];exact zbg _ _
 have n2:s2.length≠n:=AJ p2.lt;obtain⟨vs,s4,e4,hv1,hv2,p4,f4⟩:=zk8 (v:=none) p3 at3 n2;have at4:s4[s2.length]?=some (.lst (ns.map D.str)):=(f4.old _ (getElem?_lt at3) n2).trans at3;have hvl:vs.length=ns.length:=by rw[<-hv1,Ai]
 have fv:fits (vs.map zbK).length=true:=zaH (by rw[Ai];omega);have et:=zeB (zbg s4 (.lst (vs.map zbK)));generalize hs5:s4++[O.lst (vs.map zbK)]=s5 at et;have g5:Gr s4 s5:=by rw[<-hs5];exact Gr.app _ _
 have p5:=p4.gr g5;have at5:s5[s2.length]?=some (.lst (ns.map D.str)):=(g5.old _ (getElem?_lt at4)).trans at4
 -- the sides
 have a1:=zgQ (st:=s5++[.lst [.str ""]]) (zbg s5 _) (((Gr.app s5 [.lst [.str ""]]).old _ (getElem?_lt at5)).trans at5) (by simp;omega);generalize hs6:s5++[O.lst [.str ""]]=s6 at a1;have g6:Gr s5 s6:=by rw[<-hs6];exact Gr.app _ _
 have at6:s6[s2.length]?=some (.lst (ns.map D.str)):=(g6.old _ (getElem?_lt at5)).trans at5;have a2:=zgQ (st:=s6++[.lst ([.str ""]++ns.map D.str)]) (zbg s6 _) (((Gr.app s6 [.lst ([.str ""]++ns.map D.str)]).old _ (getElem?_lt at6)).trans at6) (by simp;omega);generalize hs7:s6++[O.lst ([.str ""]++ns.map D.str)]=s7 at a1 a2;have g7:Gr s6 s7:=by rw[<-hs7];exact Gr.app _ _
 have at7:s7[s2.length]?=some (.lst (ns.map D.str)):=(g7.old _ (getElem?_lt at6)).trans at6;have a3:=zgQ (st:=s7++[.lst ([.str ""]++ns.map D.str++ns.map D.str)]) (zbg s7 _) (((Gr.app s7 [.lst ([.str ""]++ns.map D.str++ns.map D.str)]).old _ (getElem?_lt at7)).trans at7) (by simp;omega);generalize hs8:s7++[O.lst ([.str ""]++ns.map D.str++ns.map D.str)]=s8 at a2 a3;have g8:Gr s7 s8:=by rw[<-hs8];exact Gr.app _ _
 obtain⟨sd,hsd⟩:∃ sd:List Str,sd=(("":Str)::ns)++ns++ns:=⟨_,rfl⟩
 have hsd':[D.str ""]++ns.map D.str++ns.map D.str++ns.map D.str=sd.map D.str:=by rw[hsd];simp
 rw[hsd'] at a3;generalize hs9:s8++[O.lst (sd.map D.str)]=s9 at a3;have at9:s9[s8.length]?=some (.lst (sd.map D.str)):=by rw[<-hs9];exact zbg _ _
 have g9:Gr s8 s9:=by rw[<-hs9];exact Gr.app _ _
 have p9:zbU n s9:=((((p5.gr g6).gr g7).gr g8)).gr g9;have n8:s8.length≠n:=AJ (((p5.gr g6).gr g7).gr g8).lt;have g59:Gr s5 s9:=((g6.trans g7).trans g8).trans g9
 -- the loop
 have p10:=p9.gr (Gr.app s9 [.lst []]);obtain⟨r,s11,e11,r0,r1,p11,f11,_⟩:=zbT (many:=most) p10 (by omega) (by omega);have n9:s9.length≠n:=AJ p9.lt;have l9:s8.length < s9.length:=getElem?_lt at9;have at11:s11[s9.length]?=some (.lst []):=(f11.old _ (by simp) n9).trans (zbg s9 _);have sd11:s11[s8.length]?=some (.lst (sd.map D.str)):=(f11.old _ (by simp;omega) n8).trans (((Gr.app s9 [.lst []]).old _ l9).trans at9);have hsdk:∀ x∈sd,zgb ns x:=fun x hx=>by
   rw[hsd] at hx;simp at hx
   rcases hx with rfl | hx
   . exact .inl rfl
   exact .inr hx
 have sdl:sd.length=1+3*ns.length:=by rw[hsd];simp;omega
 have key:=zen (W:=⟨run 0 (1+r).toNat,[]⟩) (g:=gNm 7) (m:=zb8) (ds:=run 0 (1+r).toNat) (U:=hrho n most (some (.ref s2.length)) (some (.tup (vs.map zbK))) s8.length s9.length none none none) (st:=s11)
   (Inv:=fun k U s=>∃ (ks:List (List Str)) (a b c:Option D),U=hrho n most (some (.ref s2.length)) (some (.tup (vs.map zbK))) s8.length s9.length a b c/\ks.length=k/\KInv n s9.length s8.length ns sd s9 ks s)
   ⟨[],none,none,none,rfl,rfl,⟨at11,sd11,by simp,p11,(Fr.app n s9 _).trans f11⟩⟩ (fun _ _ _ _ _=>rfl) (fun k d U s hd hI=>by obtain⟨ks,a,b,c,rfl,hk,hN⟩:=hI;have hkl:k < (run 0 (1+r).toNat).length:=getElem?_lt hd;rw[zdg] at hkl;obtain⟨kd,w8,w9,s',e,hN'⟩:=zku (most:=most) (v2:=some (.ref s2.length)) (v3:=some (.tup (vs.map zbK))) (v7:=some d) (v8:=b) (v9:=c) hN n9 n8 (AJ l9) (Af _) hsdk oks (by omega) (by omega) (by omega);exact⟨_,s,_,s',rfl,e,ks++[kd],some d,w8,w9,rfl,by simp[hk],hN'⟩)
 obtain⟨U',s12,e12,ks,a,b,c,rfl,hkl,hN⟩:=key;rw[zdg] at hkl;obtain⟨d13,s13,e13,hd13,p13,f13⟩:=zho [.int 1,.int 2,.int 2,.int 3,.int 4] hN.pot (by decide) (by decide);obtain⟨en,rfl,en1,en4⟩:∃ m:Int,d13=.int m/\1<=m/\m<=4:=by
   simp at hd13
   rcases hd13 with rfl | rfl | rfl | rfl <;> exact⟨_,rfl,by decide,by decide⟩
 have at13:s13[s9.length]?=some (.lst (ks.map zfo)):=(f13.old _ (getElem?_lt hN.at_) n9).trans hN.at_;have et13:=zeB at13;refine⟨⟨en,vs,ks⟩,s13,zbv ?_,?_,p13,?_⟩
 . unfold zes House.d;refine zan (U1:=[some (.ref n),some (.int most),some (.ref s2.length),none,none,none,none,none,none,none]) (s1:=s3) (by simp[rho,zaP,zaS,zaM,za1,zaB,zaz,za2,zaA,zaU,zaD,zav,zat,zaK,za6,zaY,zaX,zbc,zaN,zcs,zay,za9,zbZ,za5,zcp,zco,zbb,zct,ap_w,zb6,zaC,zaw,zaL,za7,zcr,zcq,zba,zaE,zbd,za8,zap,za0,zaq,zao,zbo,zbA,zcn,zcm,zb5,zcl,zck,zcj,zci,zch,zcg,Ac,Ag,add_int,sub_int,ltD,leD,gtD,geD,cmpD,intC,rho0,e1,e2,es]) ?_;refine zan (U1:=[some (.ref n),some (.int most),some (.ref s2.length),some (.tup (vs.map zbK)),none,none,none,none,none,none]) (s1:=s5) (by
     have fv':=fv;simp only[Ai] at fv';simp[rho,zaP,zaS,zaM,za1,zaB,zaz,za2,zaA,zaU,zaD,zav,zat,zaK,za6,zaY,zaX,zbc,zaN,zcs,zay,za9,zbZ,za5,zcp,zco,zbb,zct,ap_w,zb6,zaC,zaw,zaL,za7,zcr,zcq,zba,zaE,zbd,za8,zap,za0,zaq,zao,zbo,zbA,zcn,zcm,zb5,zcl,zck,zcj,zci,zch,zcg,Ac,Ag,add_int,sub_int,ltD,leD,gtD,geD,cmpD,intC,rho0,zmq,zbY,at3,e4,fv',hs5,et]) ?_
   refine zan (U1:=[some (.ref n),some (.int most),some (.ref s2.length),some (.tup (vs.map zbK)),some (.str signs),none,none,none,none,none]) (s1:=s5) (by simp[rho,zaP,zaS,zaM,za1,zaB,zaz,za2,zaA,zaU,zaD,zav,zat,zaK,za6,zaY,zaX,zbc,zaN,zcs,zay,za9,zbZ,za5,zcp,zco,zbb,zct,ap_w,zb6,zaC,zaw,zaL,za7,zcr,zcq,zba,zaE,zbd,za8,zap,za0,zaq,zao,zbo,zbA,zcn,zcm,zb5,zcl,zck,zcj,zci,zch,zcg,Ac,Ag,add_int,sub_int,ltD,leD,gtD,geD,cmpD,intC,rho0]) ?_;refine zan (U1:=[some (.ref n),some (.int most),some (.ref s2.length),some (.tup (vs.map zbK)),some (.str signs),some (.ref s8.length),none,none,none,none]) (s1:=s9) (by
     simp[rho,zaP,zaS,zaM,za1,zaB,zaz,za2,zaA,zaU,zaD,zav,zat,zaK,za6,zaY,zaX,zbc,zaN,zcs,zay,za9,zbZ,za5,zcp,zco,zbb,zct,ap_w,zb6,zaC,zaw,zaL,za7,zcr,zcq,zba,zaE,zbd,za8,zap,za0,zaq,zao,zbo,zbA,zcn,zcm,zb5,zcl,zck,zcj,zci,zch,zcg,Ac,Ag,add_int,sub_int,ltD,leD,gtD,geD,cmpD,intC,rho0,hs6,a1,a2,a3]) ?_
   refine zan (U1:=[some (.ref n),some (.int most),some (.ref s2.length),some (.tup (vs.map zbK)),some (.str signs),some (.ref s8.length),some (.ref s9.length),none,none,none]) (s1:=s9++[.lst []]) (by simp[rho,zaP,zaS,zaM,za1,zaB,zaz,za2,zaA,zaU,zaD,zav,zat,zaK,za6,zaY,zaX,zbc,zaN,zcs,zay,za9,zbZ,za5,zcp,zco,zbb,zct,ap_w,zb6,zaC,zaw,zaL,za7,zcr,zcq,zba,zaE,zbd,za8,zap,za0,zaq,zao,zbo,zbA,zcn,zcm,zb5,zcl,zck,zcj,zci,zch,zcg,Ac,Ag,add_int,sub_int,ltD,leD,gtD,geD,cmpD,intC,rho0]) ?_;have sm:small (1+r)=true:=zc4 (by omega) (by omega);refine zan (U1:=hrho n most (some (.ref s2.length)) (some (.tup (vs.map zbK))) s8.length s9.length a b c) (s1:=s12) (by simp[rho,zaP,zaS,zaM,za1,zaB,zaz,za2,zaA,zaU,zaD,zav,zat,zaK,za6,zaY,zaX,zbc,zaN,zcs,zay,za9,zbZ,za5,zcp,zco,zbb,zct,ap_w,zb6,zaC,zaw,zaL,za7,zcr,zcq,zba,zaE,zbd,za8,zap,za0,zaq,zao,zbo,zbA,zcn,zcm,zb5,zcl,zck,zcj,zci,zch,zcg,Ac,Ag,add_int,sub_int,ltD,leD,gtD,geD,cmpD,intC,rho0,e11,sm];exact e12) ?_;simp[hrho,rho,zaP,zaS,zaM,za1,zaB,zaz,za2,zaA,zaU,zaD,zav,zat,zaK,za6,zaY,zaX,zbc,zaN,zcs,zay,za9,zbZ,za5,zcp,zco,zbb,zct,ap_w,zb6,zaC,zaw,zaL,za7,zcr,zcq,zba,zaE,zbd,za8,zap,za0,zaq,zao,zbo,zbA,zcn,zcm,zb5,zcl,zck,zcj,zci,zch,zcg,Ac,Ag,add_int,sub_int,ltD,leD,gtD,geD,cmpD,intC,rho0,e13,et13]
 . refine⟨en1,en4,fun p hp=>oks p.1 (by rw[<-hv1];exact List.mem_map_of_mem hp),by rw[hv1];exact hsrt,by rw[hv1];exact nds,hv2,by show vs.length<=5;omega,fun k hk=>by rw[hv1];exact hN.ok k hk,by show 0 < ks.length;omega,by show (ks.length:Int)<=most;omega⟩
 have fr1:Fr n st s3:=(f1.trans f2).trans (g3.fr n);have fr2:Fr n st s9:=(fr1.trans f4).trans ((g5.trans g59).fr n);exact (fr2.trans hN.fr).trans f13
end L2.MP.Hn
namespace L2.MP
open PySem
def zgB:∀ t:List Int,intsOf (t.map D.int)=some t
 | []=>rfl
 | x::t=>by rw[Ao,intsOf,zgB t];rfl
def zeW:∀ {rows:List (List Int)},(∀ r∈rows,r≠[])->rowsOf (rows.map tupD)=some rows
 | [],_=>rfl
 | r::rows,h=>by
   have hr:rowOf (tupD r)=some r:=by
     unfold rowOf tupD;simp only[zgB,Ac];have:r.isEmpty=false:=by
       cases r with
       | nil=>exact absurd rfl<|h [] Aj
       | cons a b=>rfl
     simp[this]
   rw[Ao,rowsOf,hr,Ac,zeW fun q hq=>h q (Ah _ hq)];rfl
variable {st:Sto}
def zjk{l:Nat}{rows:List (List Int)}(hl:st[l]?=some (.lst<|rows.map tupD))(h:∀ r∈rows,r≠[])(h64:rows.length < 64):zdv [.ref l] st=some (.ref st.length,st++[.lst ((zfO rows).map tupD)]):=by
 match rows,hl,h,h64 with
 | [],hl,h,h64=>simp[zdv,orN,zdB,zbY,hl,strsOf,zbz,zfO,zbo]
 | [r],hl,h,h64 =>
   have e:strsOf [tupD r]=none:=rfl;simp[zdv,orN,zdB,zeT,zbY,hl,e,zfO,zbo,zbA]
 | r::q::rows,hl,h,h64 =>
   have e:strsOf (tupD r::tupD q::rows.map tupD)=none:=rfl;have e2:=zeW h;simp only[Ao] at e2;simp at h64;have h2:rows.length+1+1 < 64:=by omega
   simp[zdv,orN,zdB,zeT,zfM,zbY,hl,e,e2,zbo,zbA,h2]
def zjl(rows:List (List Int)):(zfO rows).Perm rows:=Bg _ _
def zld(rows:List (List Int)):(zfO rows).Pairwise fun a b=>tle a b=true:=Bd (fun a b c=>zcv a b c) zc3 rows
noncomputable abbrev Tl:=Int×Int×Int
def kvOf(t:Tl):List Key×D:=([DU t.1,DU t.2.1],.int t.2.2)
def rowT(t:Tl):List Int:=[t.1,t.2.1,t.2.2]
def zcT(a b:Tl):Bool:=decide (a.1=b.1)&&decide (a.2.1=b.2.1)
def putT(l:List Tl)(t:Tl):List Tl:=if l.any (fun u=>zcT u t)=true then l.map (fun u=>if zcT u t=true then t else u) else l++[t]
def zov(u t:Tl):decide ((kvOf u).1=(kvOf t).1)=zcT u t:=by
 unfold kvOf zcT
 by_cases h1:u.1=t.1 <;> by_cases h2:u.2.1=t.2.1 <;> simp[h1,h2]
def zqm(l:List Tl)(t:Tl):putD (l.map kvOf) (kvOf t).1 (kvOf t).2=(putT l t).map kvOf:=by
 unfold putD putT;have e:((l.map kvOf).any fun kv=>decide (kv.1=(kvOf t).1))=l.any fun u=>zcT u t:=by
   rw[List.any_map]
   congr 1
   funext u
   exact zov u t
 rw[e]
 split
 . rw[A9,A9];apply CC;intro u _;show (if (kvOf u).1=(kvOf t).1 then _ else _)=kvOf (if zcT u t=true then t else u)
   by_cases h:zcT u t=true
   . have h':(kvOf u).1=(kvOf t).1:=of_decide_eq_true<|(zov u t).trans h;rw[if_pos h',if_pos h,h']
   have h':¬ (kvOf u).1=(kvOf t).1:=fun z=>h<|(zov u t).symm.trans<|decide_eq_true z;rw[if_neg h',if_neg h]
 rw[Fv];rfl
def PlNd(l:List Tl):Prop:=l.Pairwise fun a b=>zcT a b=false
def zd1(a b:Tl):zcT a b=zcT b a:=by
 unfold zcT
 by_cases h1:a.1=b.1 <;> by_cases h2:a.2.1=b.2.1 <;> simp[h1,h2,eq_comm]
variable {l:List Tl}{t:Tl}
def zql(h:PlNd l):PlNd (putT l t):=by
 unfold putT
 split
 . unfold PlNd at *;rw[GO];refine h.imp fun {a b} hab=>?_;have eqp:∀ {a b c:Tl},zcT a b=true->zcT a c=zcT b c:=fun {a b c} q=>by
     unfold zcT at *;simp at q;rw[q.1,q.2]
   by_cases ha:zcT a t=true
   . by_cases hb:zcT b t=true
     . have h1:zcT a b=zcT t b:=eqp ha;rw[zd1] at hb;rw[h1,hb] at hab;cases hab
     rw[if_pos ha,if_neg hb,zd1];simpa using hb
   . by_cases hb:zcT b t=true
     . rw[if_neg ha,if_pos hb];simpa using ha
     rw[if_neg ha,if_neg hb];exact hab
 . rename_i hn;unfold PlNd at *;rw[List.pairwise_append];refine⟨h,List.pairwise_singleton _ _,fun a ha b hb=>?_⟩;rw[List.mem_singleton.mp hb]
   cases e:zcT a t with
   | false=>rfl
   | true=>exact absurd (List.any_eq_true.mpr ⟨a,ha,e⟩) hn
def znW{P:Tl->Prop}{l:List Tl}{t:Tl}(h:∀ u∈l,P u)(ht:P t):∀ u∈putT l t,P u:=by
 unfold putT
 split
 . intro u hu;obtain⟨v,hv,rfl⟩:=List.mem_map.mp hu
   split
   . exact ht
   exact h v hv
 . intro u hu
   rcases List.mem_append.mp hu with hu | hu
   . exact h u hu
   rw[List.mem_singleton.mp hu];exact ht
def znV(l:List Tl)(t:Tl):(putT l t).length<=l.length+1:=by
 unfold putT
 split
 . rw[Ai];omega
 simp
def zro{t:Nat}{x y k:Int}(h:st[t]?=some (.dt<|l.map kvOf))(hl:l.length<=1000):dput st t (.tup [.int x,.int y]) (.int k)=some (st.set t<|.dt<|(putT l (x,y,k)).map kvOf):=by have h1:(l.map kvOf).length < sizeLine:=Cj (by rw[Ai];exact hl) (by decide);have e:=zqm l (x,y,k);have e1:keysOf [.int x,.int y]=some (kvOf (x,y,k)).1:=rfl;have e2:D.int k=(kvOf (x,y,k)).2:=rfl;unfold dput;simp only[h,e1,Ac];rw[e2,e,if_pos (decide_eq_true h1)]
end L2.MP
namespace L2.MP.Hn
open PySem L2.MP
def zmo(w h kn:Int)(t:Tl):Prop:=0<=t.1/\t.1 < w/\0<=t.2.1/\t.2.1 < h/\0<=t.2.2/\t.2.2 < kn
structure StandOk(w h kn:Int)(ts:List Tl):Prop where
 ok:∀ t∈ts,zmo w h kn t
 nd:PlNd ts
 srt:(ts.map rowT).Pairwise fun a b=>tle a b=true
def zet(ts:List Tl):D:=.tup<|ts.map fun t=>tupD (rowT t)
def zlc(l:List Tl):∃ l':List Tl,l'.Perm l/\l'.map rowT=zfO (l.map rowT):=by
 have hp:=zjl<|l.map rowT;have:∀ (rs:List (List Int)) (l:List Tl),rs.Perm (l.map rowT)->∃ l':List Tl,l'.Perm l/\l'.map rowT=rs:=by
   intro rs l h;refine⟨rs.map fun r=>(r.getD 0 0,r.getD 1 0,r.getD 2 0),?_,?_⟩
   . have:=h.map fun r:List Int=>((r.getD 0 0,r.getD 1 0,r.getD 2 0):Tl)
     rw[A9] at this;have e:(fun r:List Int=>((r.getD 0 0,r.getD 1 0,r.getD 2 0):Tl)) ∘ rowT=id:=by funext t;rfl
     rw[e,Eh] at this;exact this
   . rw[A9]
     conv=>rhs;rw[<-Eh rs]
     apply CC;intro r hr;obtain⟨t,_,rfl⟩:=List.mem_map.mp<|h.mem_iff.mp hr;rfl
 exact this _ l hp
variable {w h kn:Int}{l:List Tl}
def zns{l:List Tl}(hl:∀ t∈l,zmo w h kn t)(nd:PlNd l):∃ ts:List Tl,ts.Perm l/\ts.map rowT=zfO (l.map rowT)/\StandOk w h kn ts:=by obtain⟨ts,hp,e⟩:=zlc l;refine⟨ts,hp,e,fun t ht=>hl t (hp.mem_iff.mp ht),?_,by rw[e];exact zld _⟩;exact (hp.pairwise_iff (fun {a b} q=>by rw[zd1];exact q)).mpr nd
structure SInv(n t:Nat)(w h kn:Int)(st0:Sto)(l:List Tl)(s:Sto):Prop where
 at_:s[t]?=some (.dt (l.map kvOf))
 ok:∀ u∈l,zmo w h kn u
 nd:PlNd l
 pot:zbU n s
 fr:Fr n st0 s
variable {n t:Nat}{st0 s:Sto}
def SInv.fr'{s':Sto}(q:SInv n t w h kn st0 l s)(ht:t≠n)(p:zbU n s')(g:Fr n s s'):SInv n t w h kn st0 l s':=⟨(g.old t (getElem?_lt q.at_) ht).trans q.at_,q.ok,q.nd,p,q.fr.trans g⟩
noncomputable abbrev srho (n:Nat) (hd:D) (w h most:Int) (t:Nat) (v:Option D):Rho:=[some (.ref n),some hd,some (.tup [.int w,.int h]),some (.int most),some (.ref t),v]
variable {most:Int}{a b:D}{ks:List D}
def zjh{v:Option D}(q:SInv n t w h ks.length st0 l s)(ht:t≠n)(ht0:st0.length<=t)(hw:0 < w)(hw2:w<=1000)(hh:0 < h)(hh2:h<=1000)(hk:0 < ks.length)(hk2:ks.length < 100000)(hl:l.length<=1000) :
   ∃ (l':List Tl) (s':Sto),zbG (srho n (.tup [a,b,.tup ks]) w h most t v) s=some (.nx (srho n (.tup [a,b,.tup ks]) w h most t v),s')/\SInv n t w h ks.length st0 l' s'/\l'.length<=l.length+1:=by
 obtain⟨k,s1,e1,k0,k1,p1,f1,_⟩:=zbT (many:=ks.length) q.pot (by omega) (by omega);obtain⟨x,s2,e2,x0,x1,p2,f2,_⟩:=zbT (many:=w) p1 hw (by omega);obtain⟨y,s3,e3,y0,y1,p3,f3,_⟩:=zbT (many:=h) p2 hh (by omega);have q3:=q.fr' ht p3<|(f1.trans f2).trans f3;have ed:=zro (x:=x) (y:=y) (k:=k) q3.at_ hl;have hlt:=getElem?_lt q3.at_;have ei2:∀ s:Sto,ixA (.tup [a,b,.tup ks]) (.int 2) s=some (.tup ks,s):=fun s=>zbs (by decide) rfl;have ew:∀ s:Sto,ixA (.tup [.int w,.int h]) (.int 0) s=some (.int w,s):=fun s=>zbs (by decide) rfl;have eh:∀ s:Sto,ixA (.tup [.int w,.int h]) (.int 1) s=some (.int h,s):=fun s=>zbs (by decide) rfl;refine⟨putT l (x,y,k),s3.set t<|.dt<|(putT l (x,y,k)).map kvOf,?_,⟨by simp[hlt],znW q3.ok ⟨x0,x1,y0,y1,k0,k1⟩,zql q3.nd,?_,⟨by have:=q3.fr.len;simpa using this,fun j hj nj=>by rw[AH (by omega)];exact q3.fr.old j hj nj⟩⟩,znV _ _⟩
 . unfold zbG;rw[za5];have c1:mAsg (zal zag<|zab (mVar 0)<|zab (zal lenD<|zab (mBin ixA (mVar 1)<|mCon<|.int 2)<|mNil)<|mNil) (gSb setD (mVar 4)<|mTup<|zab (zal zag<|zab (mVar 0)<|zab (mBin ixA (mVar 2)<|mCon<|.int 0)<|mNil)<|zab (zal zag<|zab (mVar 0)<|zab (mBin ixA (mVar 2)<|mCon<|.int 1)<|mNil)<|mNil) (srho n (.tup [a,b,.tup ks]) w h most t v) s=none:=by
     simp[srho,rho,zaP,zaS,zaM,za1,zaB,zaz,za2,zaA,zaU,zaD,zav,zat,zaK,za6,zaY,zaX,zbc,zaN,zcs,zay,za9,zbZ,za5,zcp,zco,zbb,zct,ap_w,zb6,zaC,zaw,zaL,za7,zcr,zcq,zba,zaE,zbd,za8,zap,za0,zaq,zao,zbo,zbA,zcn,zcm,zb5,zcl,zck,zcj,zci,zch,zcg,Ac,Ag,add_int,sub_int,ltD,leD,gtD,geD,cmpD,intC,rho0,ei2,ew,eh,zcO,e1,e2,e3,setD]
   rw[c1,zbA];unfold zrL;simp[srho,rho,zaP,zaS,zaM,za1,zaB,zaz,za2,zaA,zaU,zaD,zav,zat,zaK,za6,zaY,zaX,zbc,zaN,zcs,zay,za9,zbZ,za5,zcp,zco,zbb,zct,ap_w,zb6,zaC,zaw,zaL,za7,zcr,zcq,zba,zaE,zbd,za8,zap,za0,zaq,zao,zbo,zbA,zcn,zcm,zb5,zcl,zck,zcj,zci,zch,zcg,Ac,Ag,add_int,sub_int,ltD,leD,gtD,geD,cmpD,intC,rho0,ei2,ew,eh,zcO,e1,e2,e3,ed]
 obtain⟨c,d,e,r⟩:=q3.pot;exact⟨c,d,by rw[AH ht];exact e,r⟩
variable {st:Sto}
def ziw(hp:zbU n st)(hw:0 < w)(hw2:w<=1000)(hh:0 < h)(hh2:h<=1000)(hk:0 < ks.length)(hk2:ks.length < 100000)(hm:0<=most)(hm2:most < 60) :
   ∃ (ts:List Tl) (st':Sto),zbV [.ref n,.tup [a,b,.tup ks],.tup [.int w,.int h],.int most] st=some (zet ts,st')/\StandOk w h ks.length ts/\(ts.length:Int)<=most/\zbU n st'/\Fr n st st':=by
 have ht:st.length≠n:=AJ hp.lt;have p0:=hp.gr<|Gr.app st [.dt []];obtain⟨r,s1,e1,r0,r1,p1,f1,_⟩:=zbT (many:=most+1) p0 (by omega) (by omega);have at1:s1[st.length]?=some (.dt<|([]:List Tl).map kvOf):=(f1.old _ (by simp) ht).trans<|zbg st _;have key:=zen (W:=⟨run 0 r.toNat,[]⟩) (g:=gNm 5) (m:=zbG) (ds:=run 0 r.toNat) (U:=srho n (.tup [a,b,.tup ks]) w h most st.length none) (st:=s1)
   (Inv:=fun k U s=>∃ (l:List Tl) (v:Option D),U=srho n (.tup [a,b,.tup ks]) w h most st.length v/\l.length<=k/\SInv n st.length w h ks.length st l s)
   ⟨[],none,rfl,Af _,⟨at1,by simp,DB,p1,(Fr.app _ _ _).trans f1⟩⟩ (fun _ _ _ _ _=>rfl) (fun k d U s hd hI=>by obtain⟨l,v,rfl,hl,q⟩:=hI;have hkl:k < (run 0 r.toNat).length:=getElem?_lt hd;rw[zdg] at hkl;obtain⟨l',s',e,q',hl'⟩:=zjh (most:=most) (a:=a) (b:=b) (v:=some d) q ht (Af _) hw hw2 hh hh2 hk hk2 (by omega);exact⟨_,s,_,s',rfl,e,l',some d,rfl,by omega,q'⟩)
 obtain⟨U',s2,e2,l,v,rfl,hl,q⟩:=key;rw[zdg] at hl;have hlt:=getElem?_lt q.at_;have ewk:zpt (.ref st.length) s2=some (⟨zd7<|l.map kvOf,[]⟩,s2.set st.length (.ft<|l.map kvOf)):=by unfold zpt;simp only[q.at_]
 generalize hs3:s2.set st.length (.ft<|l.map kvOf)=s3 at ewk;have fr3:Fr n st s3:=by rw[<-hs3];exact⟨by have:=q.fr.len;simpa using this,fun j hj nj=>by rw[AH (by omega)];exact q.fr.old j hj nj⟩
 have p3:zbU n s3:=by obtain⟨c,d,e,r⟩:=q.pot;exact⟨c,d,by rw[<-hs3,AH ht];exact e,r⟩
 have eit:zd7 (l.map kvOf)=l.map fun t=>D.tup [.tup [.int t.1,.int t.2.1],.int t.2.2]:=by unfold zd7;rw[A9];rfl
 have ec:mCI ⟨zd7<|l.map kvOf,[]⟩ (gTp 2<|gC (gNm 0)<|gC (gNm 1)<|gN0) zcV zb3 (zd7<|l.map kvOf) [none,none] s3=some (l.map fun t=>tupD (rowT t),s3):=by rw[eit];refine zhA (R:=fun U=>∃ x y,U=[x,y]) ⟨none,none,rfl⟩ rfl fun t ht U hU=>?_;obtain⟨x,y,rfl⟩:=hU;refine⟨[some (.tup [.int t.1,.int t.2.1]),some (.int t.2.2)],by simp[rho,zaP,zaS,zaM,za1,zaB,zaz,za2,zaA,zaU,zaD,zav,zat,zaK,za6,zaY,zaX,zbc,zaN,zcs,zay,za9,zbZ,za5,zcp,zco,zbb,zct,ap_w,zb6,zaC,zaw,zaL,za7,zcr,zcq,zba,zaE,zbd,za8,zap,za0,zaq,zao,zbo,zbA,zcn,zcm,zb5,zcl,zck,zcj,zci,zch,zcg,Ac,Ag,add_int,sub_int,ltD,leD,gtD,geD,cmpD,intC,rho0],rfl,?_,⟨_,_,rfl⟩⟩;unfold zb3;have ea:addD (.tup [.int t.1,.int t.2.1]) (.tup [.int t.2.2]) s3=some (.tup [.int t.1,.int t.2.1,.int t.2.2],s3):=zgP (by simp) (by simp);simp[rho,zaP,zaS,zaM,za1,zaB,zaz,za2,zaA,zaU,zaD,zav,zat,zaK,za6,zaY,zaX,zbc,zaN,zcs,zay,za9,zbZ,za5,zcp,zco,zbb,zct,ap_w,zb6,zaC,zaw,zaL,za7,zcr,zcq,zba,zaE,zbd,za8,zap,za0,zaq,zao,zbo,zbA,zcn,zcm,zb5,zcl,zck,zcj,zci,zch,zcg,Ac,Ag,add_int,sub_int,ltD,leD,gtD,geD,cmpD,intC,rho0,ea,tupD,rowT]
 have fl:fits l.length=true:=zaH (by omega);have es:=zjk (st:=s3++[.lst ((l.map rowT).map tupD)]) (rows:=l.map rowT) (zbg s3 _) (fun r hr=>by obtain⟨t,_,rfl⟩:=List.mem_map.mp hr;simp[rowT]) (by rw[Ai];omega);obtain⟨ts,hperm,hts,hok⟩:=zns q.ok q.nd;have es':zdv [.ref s3.length] (s3++[.lst (l.map fun t=>tupD (rowT t))])=some (.ref (s3++[O.lst (l.map fun t=>tupD (rowT t))]).length,(s3++[.lst (l.map fun t=>tupD (rowT t))])++[.lst (ts.map fun t=>tupD (rowT t))]):=by have q:=es;rw[<-hts] at q;simp only[A9] at q;exact q
 generalize hs4:s3++[O.lst (l.map fun t=>tupD (rowT t))]=s4 at es';have g4:Gr s3 s4:=by rw[<-hs4];exact Gr.app _ _
 have et:=zeB<|zbg s4<|.lst<|ts.map fun t=>tupD (rowT t);refine⟨ts,s4++[.lst (ts.map fun t=>tupD (rowT t))],zbv ?_,hok,by rw[hperm.length_eq];omega,(p3.gr g4).gr<|Gr.app _ _,(fr3.trans<|g4.fr n).trans<|Fr.app _ _ _⟩;unfold zdm zet;refine zan (U1:=srho n (.tup [a,b,.tup ks]) w h most st.length none) (s1:=st++[.dt []]) (by simp[srho,rho,zaP,zaS,zaM,za1,zaB,zaz,za2,zaA,zaU,zaD,zav,zat,zaK,za6,zaY,zaX,zbc,zaN,zcs,zay,za9,zbZ,za5,zcp,zco,zbb,zct,ap_w,zb6,zaC,zaw,zaL,za7,zcr,zcq,zba,zaE,zbd,za8,zap,za0,zaq,zao,zbo,zbA,zcn,zcm,zb5,zcl,zck,zcj,zci,zch,zcg,Ac,Ag,add_int,sub_int,ltD,leD,gtD,geD,cmpD,intC,rho0]) ?_;have sr:small r=true:=zc4 (by omega) (by omega);refine zan (U1:=srho n (.tup [a,b,.tup ks]) w h most st.length v) (s1:=s2) (by simp[srho,rho,zaP,zaS,zaM,za1,zaB,zaz,za2,zaA,zaU,zaD,zav,zat,zaK,za6,zaY,zaX,zbc,zaN,zcs,zay,za9,zbZ,za5,zcp,zco,zbb,zct,ap_w,zb6,zaC,zaw,zaL,za7,zcr,zcq,zba,zaE,zbd,za8,zap,za0,zaq,zao,zbo,zbA,zcn,zcm,zb5,zcl,zck,zcj,zci,zch,zcg,Ac,Ag,add_int,sub_int,ltD,leD,gtD,geD,cmpD,intC,rho0,e1,sr];exact e2) ?_;simp[srho,rho,zaP,zaS,zaM,za1,zaB,zaz,za2,zaA,zaU,zaD,zav,zat,zaK,za6,zaY,zaX,zbc,zaN,zcs,zay,za9,zbZ,za5,zcp,zco,zbb,zct,ap_w,zb6,zaC,zaw,zaL,za7,zcr,zcq,zba,zaE,zbd,za8,zap,za0,zaq,zao,zbo,zbA,zcn,zcm,zb5,zcl,zck,zcj,zci,zch,zcg,Ac,Ag,add_int,sub_int,ltD,leD,gtD,geD,cmpD,intC,rho0,ewk,ec,fl,hs4,es',et]
structure Bed where
 ho:House
 w:Int
 h:Int
 ts:List Tl
def Bed.d(b:Bed):D:=.tup [b.ho.d,.tup [.int b.w,.int b.h],zet b.ts]
structure Bed.Ok(b:Bed)(most:Int):Prop where
 ho:b.ho.Ok most
 w0:1<=b.w
 w1:b.w<=12
 h0:1<=b.h
 h1:b.h<=12
 ts:StandOk b.w b.h b.ho.kinds.length b.ts
 len:b.ts.length<=6
def ztp(hp:zbU n st)(h0:1<=most)(h1:most<=500):∃ (b:Bed) (st':Sto),zec [.ref n,.int most] st=some (b.d,st')/\b.Ok most/\zbU n st'/\Fr n st st':=by
 obtain⟨ho,s1,e1,hok,p1,f1⟩:=zoE hp h0 h1;obtain⟨w,h,s2,e2,w0,w1,hh0,hh1,p2,f2⟩:=zoL p1;obtain⟨d,s3,e3,hd,p3,f3⟩:=zho [.int 1,.int 1,.int 3,.int 6] p2 (by decide) (by decide);obtain⟨m,rfl,hm1,hm6⟩:∃ m:Int,d=.int m/\1<=m/\m<=6:=by
   simp at hd
   rcases hd with rfl | rfl | rfl <;> exact⟨_,rfl,by decide,by decide⟩
 have k0:=hok.k0;have k1:=hok.k1;obtain⟨ts,s4,e4,t4,l4,p4,f4⟩:=ziw (w:=w) (h:=h) (most:=m) (a:=.int ho.e) (b:=.tup (ho.sticks.map zbK)) (ks:=ho.kinds.map zfo) p3 (by omega) (by omega) (by omega) (by omega) (by simpa using k0) (by rw[Ai];omega) (by omega) (by omega);rw[Ai] at t4;refine⟨⟨ho,w,h,ts⟩,s4,zbv ?_,⟨hok,w0,w1,hh0,hh1,t4,by show ts.length<=6;omega⟩,p4,((f1.trans f2).trans f3).trans f4⟩;unfold zfF Bed.d;refine zan (U1:=[some (.ref n),some (.int most),some ho.d,some (.tup [.int w,.int h])]) (s1:=s2) (by simp[rho,zaP,zaS,zaM,za1,zaB,zaz,za2,zaA,zaU,zaD,zav,zat,zaK,za6,zaY,zaX,zbc,zaN,zcs,zay,za9,zbZ,za5,zcp,zco,zbb,zct,ap_w,zb6,zaC,zaw,zaL,za7,zcr,zcq,zba,zaE,zbd,za8,zap,za0,zaq,zao,zbo,zbA,zcn,zcm,zb5,zcl,zck,zcj,zci,zch,zcg,Ac,Ag,add_int,sub_int,ltD,leD,gtD,geD,cmpD,intC,rho0,e1,e2]) ?_;have e4':zbV [.ref n,ho.d,.tup [.int w,.int h],.int m] s3=some (zet ts,s4):=e4;simp[rho,zaP,zaS,zaM,za1,zaB,zaz,za2,zaA,zaU,zaD,zav,zat,zaK,za6,zaY,zaX,zbc,zaN,zcs,zay,za9,zbZ,za5,zcp,zco,zbb,zct,ap_w,zb6,zaC,zaw,zaL,za7,zcr,zcq,zba,zaE,zbd,za8,zap,za0,zaq,zao,zbo,zbA,zcn,zcm,zb5,zcl,zck,zcj,zci,zch,zcg,Ac,Ag,add_int,sub_int,ltD,leD,gtD,geD,cmpD,intC,rho0,e3,e4']
end L2.MP.Hn
namespace L2.MP
open PySem PySem.Spec PyProof.Rows
end L2.MP
namespace L2.MP
open PySem
end L2.MP
namespace L2.MP.Hn
open PySem L2.MP
end L2.MP.Hn
namespace L2.MP
open PySem PySem.Spec PyProof.Rows
variable {prog:Program}{w:World}{A:Around}{E:Value->Shared->Prop}{s:Shared}{h:Heap}{xs:Array Value}
def Sr.is_get{x:Sr}(q:x.is h xs):∃ o,h.get? x.ad=some o:=by
 cases x with
 | l a=>obtain⟨o,g,_⟩:=q;exact⟨o,g⟩
 | t a=>obtain⟨o,g,_⟩:=q;exact⟨o,g⟩
variable {X:Cx}{K:Ae}{H:Hp}{io:List Addr}{m:ME}{st st':Sto}
variable {ma mb mc:ME}{a b c:Expr}{pos:Pos}{g g':G2}{M:L2.St}{Q:VK}
def zdb(g g':G2)(ma mb mc:ME):ME:=fun U st=>(ma U st).bind fun (x,s1)=>(mb U s1).bind fun (y,s2)=>(g x y s2).bind fun (z,s3)=>match z with
 | .bl q=>if q=true then (mc U s3).bind fun (w,s4)=>g' y w s4 else some (.bl false,s3)
 | _=>none
def ziR(h:tE K (zdb g g' ma mb mc) M H Q):zpC (r2M K g) (r2M K g') (tE K ma) (tE K mb) (tE K mc) M H Q:=by
 obtain⟨U,st,io,d,st',E,S,e,k⟩:=h;obtain⟨⟨x,s1⟩,e1,e⟩:=zae e;obtain⟨⟨y,s2⟩,e2,e⟩:=zae e;obtain⟨⟨z,s3⟩,e3,e⟩:=zae e;refine⟨U,st,io,x,s1,E,S,e1,fun v1 H1 k1 X1 S1 R1=>?_⟩;refine⟨U,s1,io++k1,y,s2,E.ext S X1,S1,e2,fun v2 H2 k2 X2 S2 R2=>?_⟩;refine⟨x,y,s2,(io++k1)++k2,z,s3,R1.ext S1 X2,R2,S2,e3,fun v3 H3 k3 X3 S3 R3=>?_⟩;have k':=((k.on S1 X1).on S2 X2).on S3 X3;dsimp only at e
 split at e
 . rename_i q;refine⟨q,R3,?_⟩
   cases q with
   | true =>
     rw[if_pos rfl] at e ⊢;obtain⟨⟨w,s4⟩,e4,e5⟩:=zae e;refine⟨U,s3,((io++k1)++k2)++k3,w,s4,((E.ext S X1).ext S1 X2).ext S2 X3,S3,e4,fun v4 H4 k4 X4 S4 R4=>?_⟩;exact⟨y,w,s4,(((io++k1)++k2)++k3)++k4,d,st',(R2.ext S2 X3).ext S3 X4,R4,S4,e5,k'.on S4 X4⟩
   | false =>
     rw[if_neg Bn] at e ⊢;cases e;exact Bh.now k' S3 rfl
 . cases e
def zfQ{op op':CmpOp}(ho:OpM X (compareOp op) g)(ho':OpM X (compareOp op') g')(ha:SE X a ma)(hb:SE X b mb)(hc:SE X c mc)(hm:lastMarks [op,op'] [b,c]=false:=by with_unfolding_all rfl) :
   SE X (.Compare a [op,op'] [b,c] pos) (zdb g g' ma mb mc):=PE.imp (zn7 ho ho' ha hb hc hm) fun _ _ _ h=>ziR h
variable {e:Expr}{p2:Pos}
section
variable {mk:ME} {se:Expr} {te:TE} {ts:TO}
def tRev(K:Ae)(te:TE)(ts:TO):TE:=fun M H Q=>te M H fun x H1=>ts M H1 fun k H2=>k=some (-1)/\∃ a xs,x=.ref a/\SqL K H2 a xs/\∀ p,H2 p=none->Q (.ref p) (upd H2 p<|.lst xs.reverse)
def zhH{x:V}{u:Value}:∀ {xs:List V} {us:List Value},Vals xs us->RelV x u->Vals (xs++[x]) (us++[u])
 | [],_,.nil,r=>.cons r .nil
 | y::xs,_,.cons z t,r=>.cons z<|zhH t r
def zg4:∀ {xs:List V} {us:List Value},Vals xs us->Vals xs.reverse us.reverse
 | [],_,.nil=>.nil
 | x::xs,_,.cons r t=>by rw[DC,DC];exact zhH (zg4 t) r
def zsC(he:PE X e te)(hs:PO X (some se) ts):PE X (.Subscript e (.Slice none none (some se) p2) pos) (tRev X.K te ts):=by intro pins s M H Q I h;refine DY<|thn (he pins s M H _ I h) ?_;rintro v s1 ⟨x,H1,I1,r1,q1⟩;refine FC ?_;rw[DM];refine Ab<|Ab ?_;refine thn (hs pins s1 M H1 _ I1 q1) ?_;rintro vs s3 ⟨k,H3,I3,pk,hk,a,xs,hx,hq,q3⟩;subst hk;subst hx;cases r1;have I4:Inv X pins M H3 { s3 with heap:=s3.heap.push { cls:=.type "slice",data:=.fields #[.none,.none,vs] } }:=I3.kept (t':=s3.toks) fun b ob q=>Ad _ q;obtain⟨its,r,ht,hz⟩:=I4.list hq;have hlen:=r.length;show wpAny (model X.prog X.w) X.A (subscriptTail e (.Slice none none (some se) p2) (.ref a)<|.ref s3.heap.objs.size) (EP X pins M Q) X.xe { s3 with heap:=s3.heap.push { cls:=.type "slice",data:=.fields #[.none,.none,vs] } };refine F7 (ops:=[.ref a,.ref s3.heap.objs.size]) ht.isList.typeIs slot_list_getitem.lookup ?_ (by with_unfolding_all rfl);refine EU ht.isList (Dm ..) .none .none pk (by simp) ?_ (by rw[Aq] <;> omega);rw[PySem.W.krv_pick];refine⟨.ref (s3.heap.push { cls:=.type "slice",data:=.fields #[.none,.none,vs] }).objs.size,_,I4.laid (t':=s3.toks) (o:=.lst xs.reverse) (fun b ob q=>Ad _ q) (Af _) ?_,rfl,q3 _<|I4.hok.fresh<|Af _⟩;exact⟨by rw[CD];exact hz,_,0,zg4 r,Al _ rfl⟩
def mRev(m mk:ME):ME:=fun U st=>(m U st).bind fun (x,s1)=>(mk U s1).bind fun (k,s2)=>match x,k with
 | .ref n,.int i=>if (decide (i=-1))=true then (zbY s2 n).map fun ds=>(.ref s2.length,s2++[.lst ds.reverse]) else none
 | _,_=>none
def zhV:∀ {xs:List V} {ds:List D} {x:V} {d:D},Reps K H io xs ds->Rep K H io x d->Reps K H io (xs++[x]) (ds++[d])
 | _,[],x,d,h,r=>by
   cases (show _=[] from h)
   exact⟨x,[],rfl,r,rfl⟩
 | _,e::ds,x,d,h,r=>by obtain⟨y,ys,rfl,h1,h2⟩:=h;exact⟨y,ys++[x],rfl,h1,zhV h2 r⟩
def zhf:∀ {ds:List D} {xs:List V},Reps K H io xs ds->Reps K H io xs.reverse ds.reverse
 | [],xs,h=>by
   cases (show xs=[] from h)
   exact rfl
 | d::ds,xs,h=>by obtain⟨y,ys,rfl,h1,h2⟩:=h;rw[DC,DC];exact zhV (zhf h2) h1
def zsd(he:SE X e m)(hk:SE X se mk):SE X (.Subscript e (.Slice none none (some se) p2) pos) (mRev m mk) :=
 PE.imp (zsC he<|zhW hk) <| by
   rintro M H Q ⟨U,st,io,d,st',E,S,e,k⟩;obtain⟨⟨x,s1⟩,e1,e⟩:=zae e;obtain⟨⟨y,s2⟩,e2,e⟩:=zae e;refine⟨U,st,io,x,s1,E,S,e1,fun v1 H1 k1 X1 S1 R1=>?_⟩;refine⟨U,s1,io++k1,y,s2,E.ext S X1,S1,e2,fun v2 H2 k2 X2 S2 R2=>?_⟩;dsimp only at e
   split at e
   . rename_i n i;obtain⟨hi,e⟩:=zau e;obtain⟨ds,e3,e⟩:=zaj e;cases e;obtain⟨p,rfl,hp⟩:=R1.ext S1 X2;obtain⟨ys,hx,r1⟩:=zbq S2 hp e3
     cases (of_decide_eq_true hi)
     refine⟨_,R2,rfl,p,ys,rfl,hx,fun l hl=>?_⟩;exact ((k.on S1 X1).on S2 X2).lst S2 (zhf r1) hl
   . cases e
end
def zhu:typeLookup (.type "list") "keys"=pure none:=by rw[D6,C1];kernel_rfl
def zdq:entryFor table "dict.update.loop"=some Builtin.«dict.update.loop»:=entryFor_of_fast<|by kernel_rfl
def zbD:plainId "dict.update.loop"=true:=by decide +kernel
section
variable {a:Addr}
def zic{Q:Option Value->Shared->Prop}{k:Nat}{sl:Array (Option Value)}(hx:s.heap.get? a=some { cls:=.type "list",dict:=none,data:=.seq xs k,slots:=sl })(hA:A.handled=none)
   (h:∀ h' tk,(∀ b u,s.heap.get? b=some u->h'.get? b=some u)->Q none { s with heap:=h',toks:=tk }):wpAny (model prog w) A (getAttr? (.ref a) "keys") Q E s:=by
 obtain⟨hp,g,d,tk,os⟩:=s;have hT:∀ tk',(⟨hp,g,d,tk',os⟩:Shared).TypeIs (.ref a) "list":=fun _=>⟨_,hx,rfl⟩
 have f1:=GB;have f3:=F.slot_list_getattribute.lookup;have f4:=F.slot_list_getattribute.bind<|.ref a;have f5:=am_list_getattr_none;unfold getAttr? getAttrBy? getAttrBy
 repeat (any_goals (first | assumption | exact hT _ | ((with_reducible show wpAny _ _ (call (HB "list.__getattribute__") _ _) _ _ _);refine G9 F.slot_list_getattribute (hT _) am_entry_list_getattribute (F.args_list_getattribute_2 _ _) (meets_getattribute_miss_list a xs k sl _ _ zhu<|by decide +kernel) ⟨hx,hA,fun h' tk' e hx'=>?_⟩) | wp_step))
 obtain⟨t',u',he⟩:=hx'.there;show wpAny _ _ (getattributeRaised _ _ _ _ _ _ _) _ _ _;unfold getattributeRaised
 repeat (any_goals (first | assumption | wp_step))
 exact h _ _ hx'.keeps
def zgR(prog:Program)(w:World)(h:Heap)(v:Value)(kv:Key×Value):Prop:=∃ p kx,v=.ref p/\IsTup h p #[kx,kv.2]/\(zbm prog w).is kv.1 kx=true
def zgR.keep{h':Heap}{v:Value}{kv:Key×Value}(q:zgR prog w h v kv)(k:∀ b o,v=.ref b->h.get? b=some o->h'.get? b=some o):zgR prog w h' v kv:=by obtain⟨p,kx,rfl,⟨o,g,c⟩,i⟩:=q;exact⟨p,kx,rfl,⟨o,k p o rfl g,c⟩,i⟩
def zeY{p:Addr}{Q:List Value->Shared->Prop}(ht:IsTup s.heap p xs)(h:Q xs.toList s):wpAny (model prog w) A (FJ<|.ref p) Q E s:=by
 obtain⟨hp,g,d,tk,os⟩:=s;obtain⟨o,g0,c,n,dd⟩:=ht;have hT:(⟨hp,g,d,tk,os⟩:Shared).TypeIs (.ref p) "tuple":=⟨_,g0,c⟩
 unfold FJ seqItems?
 repeat (any_goals (first | assumption | wp_step))
 rw[dd];exact Ab<|Ab h
end
variable {its:List Value}{kvs:List (Key×Value)}
section
variable {a:Addr}
def zjg{K:Type}[DecidableEq K](kvs:List (K×Value))(k:K)(v:Value):(stored kvs k v).length<=kvs.length+1:=by
 unfold stored
 split <;> simp
def ze5{K:Type}[DecidableEq K]:∀ (more kvs:List (K×Value)),(merged kvs more).length<=kvs.length+more.length
 | [],kvs=>by show kvs.length<=kvs.length+0;omega
 | p::r,kvs=>by have h1:=ze5 r<|stored kvs p.1 p.2;have h2:=zjg kvs p.1 p.2;show (merged (stored kvs p.1 p.2) r).length<=_;rw[AA];omega
def zuD{R:Result->Shared->Prop}{D I l:Addr}{h0:Heap}(hh:A.in1.handled=none)(hl:its.length=kvs.length)(hz:kvs.length<=sizeLine)(hDI:D≠I)(hlD:l≠D)(hlI:l≠I) :
   ∀ (k i:Nat) (s:Shared),kvs.length - i=k->i<=kvs.length->s.heap.IsListIter I l i->s.heap.IsList l its.toArray->s.heap.DictOf (zbm prog w) D (merged []<|kvs.take i) ->
   (∀ (j:Nat) (v:Value) (kv:Key×Value),its[j]?=some v->kvs[j]?=some kv->zgR prog w s.heap v kv/\v≠.ref D/\v≠.ref I)->(∀ b o,b≠D->b≠I->h0.get? b=some o->s.heap.get? b=some o) ->
   (∀ h' tk,h'.DictOf (zbm prog w) D (merged [] kvs)->(∀ b o,b≠D->b≠I->h0.get? b=some o->h'.get? b=some o)->R (.ok<|.ret .none) { s with heap:=h',toks:=tk }) ->
   codeAny (model prog w) A (.builtin "dict.update.loop" ⟨[.ref D,.ref I,rawInt i,.none],[]⟩) R s:=by
 intro k
 induction k with
 | zero =>
   intro i s hk hi hit hlist hd hp h0k hR;have hin:i=kvs.length:=by omega
   subst hin;refine Bs zdq ?_;rw[Bi zbD _];show wpAny _ A.in1 (pyNext (.ref I) >>= _) _ _ s;refine Aa<|DV hh hit hlist (by simp[hl]) fun h' hx=>?_;show wpAny _ A.in1 (EY D [] >>= fun _=>ret .none) _ _ _;refine Aa<|Ab<|Ab ?_;rw[Cc] at hd;refine hR h' s.toks ?_ fun b o h1 h2 e=>hx b o h2 (h0k b o h1 h2 e);obtain⟨o,es,ep,ho,r⟩:=hd;exact⟨o,es,ep,hx D o hDI ho,r⟩
 | succ k ih =>
   intro i s hk hi hit hlist hd hp h0k hR;have hlt:i < kvs.length:=by omega
   have hlt':i < its.length:=by omega
   refine Bs zdq ?_;rw[Bi zbD _];show wpAny _ A.in1 (pyNext (.ref I) >>= _) _ _ s;have hv:its[i]?=some its[i]:=Ak hlt';have hkv:kvs[i]?=some kvs[i]:=Ak hlt;refine Aa<|DG (x:=its[i]) hit hlist (by simp[hlt']) fun h' hit' hx=>?_;obtain⟨pa,nD,nI⟩:=hp i _ _ hv hkv;have pa':zgR prog w h' its[i] kvs[i]:=pa.keep fun b o e g=>hx.extBut b o (fun z=>nI (by rw[e,z])) g;obtain⟨p,kx,ep,tp,ik⟩:=pa';have hd':h'.DictOf (zbm prog w) D (merged []<|kvs.take i):=by obtain⟨o,es,ep,ho,r⟩:=hd;exact⟨o,es,ep,hx.extBut D o hDI ho,r⟩
   have hlen:(merged []<|kvs.take i).length<=sizeLine:=by have:=ze5 (kvs.take i) [];rw[A1,BH] at this;omega
   rw[ep];refine Aa<|AS<|Aa<|wpAny_tryCatch<|zeY (s:={ s with heap:=h' }) tp ?_;refine AS<|Gi (s:={ s with heap:=h' }) ik hd' (fun h2 hd2 hs2=>?_) hlen;have hI2:∀ b o,b≠D->h'.get? b=some o->h2.get? b=some o:=fun b o hb e=>hs2.extBut b o hb e;have e1:stored (merged []<|kvs.take i) kvs[i].1 kvs[i].2=merged [] (kvs.take<|i+1):=(merged_take_succ [] kvs i _ hkv).symm;refine Ab ⟨BX zbD _,?_⟩;refine ih (i+1) { s with heap:=h2,toks:=s.toks+1 } (by omega) (by omega) ?_ ?_ (by rw[<-e1];exact hd2) (fun j v kv h1 h2'=>?_) (fun b o b1 b2 e=>hI2 b o b1 (hx.extBut b o b2<|h0k b o b1 b2 e)) fun h3 tk3 d3 k3=>hR h3 tk3 d3 k3
   . exact Gy hit' fun u e=>hI2 I u (BV hDI) e
   . exact FU (FU hlist fun u e=>hx.extBut l u hlI e) fun u e=>hI2 l u hlD e
   obtain⟨q,q1,q2⟩:=hp j v kv h1 h2';exact⟨(q.keep fun b o e g=>hx.extBut b o (fun z=>q2 (by rw[e,z])) g).keep fun b o e g=>hI2 b o (fun z=>q1 (by rw[e,z])) g,q1,q2⟩
def zgM{l:Addr}{Q:Value->Shared->Prop}(hh:A.handled=none)(hpl:PlainL s.heap l its.toArray)(hl:its.length=kvs.length)(hz:kvs.length<=sizeLine)
   (hp:∀ (j:Nat) (v:Value) (kv:Key×Value),its[j]?=some v->kvs[j]?=some kv->zgR prog w s.heap v kv)
   (h:∀ h' tk,h'.DictOf (zbm prog w) s.heap.objs.size (merged [] kvs)->(∀ b o,s.heap.get? b=some o->h'.get? b=some o)->Q (.ref s.heap.objs.size) { s with heap:=h',toks:=tk }) :
   wpAny (model prog w) A (call (.type "dict") [.ref l]) Q E s:=by
 refine callType_codes (Q₁:=fun obj s₁=>obj=.ref s.heap.objs.size/\s₁={ s with heap:=s.heap.push { cls:=.type "dict",data:=.dict #[] } }) F.kt_called_dict (F.kt_typeCall_dict_1 _) F.entry_dict_init (kt_code_dict_new _ ⟨rfl,rfl⟩) ?_;rintro obj s₁ ⟨rfl,rfl⟩;have hnew:(s.heap.push { cls:=.type "dict",data:=.dict #[] }).DictOf (zbm prog w) s.heap.objs.size []:=Fp s.heap;have k1:∀ b o,s.heap.get? b=some o->(s.heap.push { cls:=.type "dict",data:=.dict #[] }).get? b=some o:=fun b o e=>Ad _ e;have hpl1:=hpl.keeps k1;obtain⟨⟨cl,di,da,sl⟩,n,g1,c1,c2,c3⟩:=id hpl1;simp only at c1 c2 c3;subst c1 c2 c3;have hlt:∀ b o,s.heap.get? b=some o->b < s.heap.objs.size:=fun b o e=>Am e;have hll:l < s.heap.objs.size:=by obtain⟨o,_,g,_⟩:=hpl;exact hlt l o g
 refine⟨hnew.typeIs,F.args_dict_init_2 _ _,?_⟩;unfold Builtin.«dict.__init__»;refine Aa ?_;unfold EZ;refine Aa<|C0 hnew.typeIs ?_;show wpAny _ _ (pure (s.heap.objs.size,[AC l])) _ _ _;refine Ab ?_;show wpAny _ _ (CH "dict.__init__" s.heap.objs.size (.ref l) [] .none) _ _ _;unfold CH;refine Aa (BZ (show Shared.TypeIs { s with heap:=s.heap.push { cls:=.type "dict",data:=.dict #[] } } (.ref l) "list" from ⟨_,g1,rfl⟩) ?_);rw[if_pos (by decide)];refine Aa<|zic g1 hh fun h2 tk2 k2=>?_;have hpl2:=hpl1.keeps k2;have hd2:h2.DictOf (zbm prog w) s.heap.objs.size []:=by obtain⟨o,es,ep,ho,r⟩:=hnew;exact⟨o,es,ep,k2 _ o ho,r⟩
 have hsz:s.heap.objs.size < h2.objs.size:=by obtain⟨o,es,ep,ho,r⟩:=hd2;exact Am ho
 simp only[El,if_true];refine Aa<|Cs ?_;refine Aa<|Sr.iter (x:=.l l) (s:={ s with heap:=h2,toks:=tk2 }) (xs:=its.toArray) hpl2.isList ?_;have k3:∀ b o,h2.get? b=some o->(h2.push<|Sr.ob<|.l l).get? b=some o:=fun b o e=>Ad _ e;refine Ab ⟨BX zbD _,?_⟩;have n1:s.heap.objs.size≠h2.objs.size:=Ap hsz;have n2:l≠s.heap.objs.size:=Ap hll;have n3:l≠h2.objs.size:=Ap<|CA hll hsz;show codeAny (model prog w) A.in1 (.builtin "dict.update.loop" ⟨[.ref s.heap.objs.size,.ref h2.objs.size,rawInt (0:Nat),.none],[]⟩) _ { s with heap:=h2.push (Sr.ob<|.l l),toks:=tk2 };refine zuD (A:=A.in1) (h0:=s.heap) (l:=l) (its:=its) (kvs:=kvs) (D:=s.heap.objs.size) (I:=h2.objs.size) hh hl hz n1 n2 n3 kvs.length 0 { s with heap:=h2.push (Sr.ob<|.l l),toks:=tk2 } rfl (AY _) ?_ (hpl2.keeps k3).isList ?_ (fun j v kv e1 e2=>?_) (fun b o _ _ e=>k3 b o (k2 b o<|k1 b o e)) fun h' tk d' k'=>?_
 . exact Sr.at_new (x:=.l l)<|Al _ rfl
 . obtain⟨o,es,ep,ho,r⟩:=hd2;exact⟨o,es,ep,k3 _ o ho,r⟩
 . have q:=hp j v kv e1 e2;have nn:∀ b,v=.ref b->b < s.heap.objs.size:=fun b e=>by
     obtain⟨p,kx,rfl,⟨o,g,_⟩,_⟩:=q;cases e;exact hlt _ o g
   refine⟨q.keep fun b o _ g=>k3 b o (k2 b o<|k1 b o g),fun e=>?_,fun e=>?_⟩
   . exact absurd (nn _ e)<|AX _
   exact absurd (nn _ e)<|Nat.not_lt_of_lt hsz
 exact⟨rfl,h h' tk d' fun b o e=>k' b o (Ap<|hlt b o e) (Ap<|CA (hlt b o e) hsz) e⟩
end
def prOf:D->Option (Key×D)
 | .tup [k,v]=>(keyOf k).map fun q=>(q,v)
 | _=>none
def zpk:List D->Option (List<|Key×D)
 | []=>some []
 | d::r=>(prOf d).bind fun t=>(zpk r).map fun ts=>t::ts
def zfn(kvs more:List (Key×D)):List (Key×D):=more.foldl (fun acc kv=>putD acc kv.1 kv.2) kvs
section
variable {pins:List (Addr×Obj)}
def zj4:∀ {more:List (Key×V)} {mds:List (Key×D)} {kvs:List (Key×V)} {kds:List (Key×D)},KR Key K H io more mds->KR Key K H io kvs kds->KR Key K H io (zfm kvs more) (zfn kds mds):=by
 intro more mds kvs kds r;unfold KR at r
 induction r generalizing kvs kds with
 | nil=>intro q;exact q
 | @cons p q ps qs h t ih =>
   intro r0;have e:KR Key K H io (putK kvs p.1 p.2) (putD kds q.1 q.2):=by rw[<-h.1];exact KR.put r0 p.1 h.2
   exact ih e
def znZ(I:Inv X pins M H s):∀ {ys:List V} {ds:List D} {kds:List (Key×D)} {its:List Value},Reps X.K H io ys ds->zpk ds=some kds->Vals ys its ->
   ∃ (kvV:List (Key×V)) (kvs:List (Key×Value)),KR Key X.K H io kvV kds/\KV kvV kvs/\its.length=kvs.length/\kvs.length=kds.length/\∀ (j:Nat) (v:Value) (kv:Key×Value),its[j]?=some v->kvs[j]?=some kv->zgR X.prog X.w s.heap v kv
 | _,[],kds,_,h,e,r=>by
   cases e
   cases (show _=[] from h)
   cases r;exact⟨[],[],.nil,.nil,rfl,rfl,fun j v kv h=>by simp at h⟩
 | _,d::ds,kds,_,h,e,r=>by
   obtain⟨y,ys,rfl,h1,h2⟩:=h;obtain⟨t,e1,e⟩:=zae e;obtain⟨ts,e2,e⟩:=zaj e;subst e
   cases r with
   | @cons _ u _ us ru rus =>
     obtain⟨kvV,kvs,a1,a2,a3,a4,a5⟩:=znZ I h2 e2 rus;unfold prOf at e1
     split at e1
     . rename_i k v;obtain⟨q,eq1,e1⟩:=zaj e1;subst e1;obtain⟨p,vs,rfl,hp,rs⟩:=h1;obtain⟨v1,w1,rfl,q1,rs⟩:=rs;obtain⟨v2,w2,rfl,q2,rs⟩:=rs
       cases (show w2=[] from rs)
       have ek:=zeG q1 eq1;subst ek;cases ru;obtain⟨ia,va,ht,_⟩:=I.tuple<|SqT.of (K:=X.K) hp
       cases va with
       | cons r1 t1 =>
         cases t1 with
         | cons r2 t2 =>
           cases t2;rename_i u1 u2;refine⟨(q,v2)::kvV,(q,u2)::kvs,.cons ⟨rfl,q2⟩ a1,.cons ⟨rfl,r2⟩ a2,by rw[AA,AA,a3],by rw[AA,AA,a4],fun j v kv e1 e2=>?_⟩
           cases j with
           | zero =>
             cases e1;cases e2;exact⟨p,u1,rfl,ht,zpn r1⟩
           | succ j=>exact a5 j v kv e1 e2
     . cases e1
def zrP:GN
 | [.ref n],st=>(zbY st n).bind fun ds=>(zpk ds).bind fun kds=>if fits kds.length=true then some (.ref st.length,st++[.dk (zfn [] kds)]) else none
 | _,_=>none
def zkP(hc:X.calm=true):zed X (.type "dict") zrP:=by
 rintro pins s M H xs us Q I r ⟨ds,st,io,d,st',R,S,e,k⟩;unfold zrP at e
 split at e
 . rename_i n;obtain⟨zs,e0,e⟩:=zae e;obtain⟨kds,e1,e⟩:=zae e;obtain⟨hf,e⟩:=zau e;cases e;obtain⟨v,rfl,p,rfl,hp⟩:=R.one;obtain⟨u,rfl,ru⟩:=r.one;cases ru;obtain⟨ys,hx,r1⟩:=zbq S hp e0;obtain⟨its,rv,pl,hz⟩:=I.list hx;obtain⟨kvV,kvs,a1,a2,a3,a4,a5⟩:=znZ I r1 e1 rv;have hzk:kvs.length<=sizeLine:=by
     rw[a4];exact of_decide_eq_true hf
   refine zgM (I.ok.hd hc) pl a3 hzk a5 fun h' tk d' kk=>?_;have hlV:kvV.length=kvs.length:=BF a2;have hm:(zfm [] kvV).length<=sizeLine:=by have:=zdh kvV [];rw[BH] at this;omega
   have hd:(s.heap.objs.size==sysModules)=false:=beq_eq_false_iff_ne.mpr<|BV<|Ap I.big;refine⟨.ref s.heap.objs.size,_,I.laid (a:=s.heap.objs.size) (o:=.dK (zfm [] kvV)) (t':=tk) kk (Af _)<|zoX hm hd (a2.merge .nil) d',rfl,?_⟩;obtain⟨E',S'⟩:=zjY (o:=.dK (zfm [] kvV)) (ob:=.dk (zfn [] kds)) S (I.hok.fresh<|Af _) fun H' T e=>⟨_,e,zj4 (KR.mono T a1) .nil⟩
   exact k _ _ [s.heap.objs.size] E' S' ⟨s.heap.objs.size,rfl,by rw[<-S.len];exact getElem?_len io _⟩
 . cases e
end
def Itw(n:Nat)(f:Nat->Option V):It:=⟨fun i _=>i < n,fun i H v H'=>H'=H/\f i=some v,fun i _=>n<=i⟩
def zkk:List String:=["enumerate","zip","dict_itemiterator","dict_reverseitemiterator","odict_iterator","itertools.zip_longest","itertools.pairwise"]
variable {P:Program}{tg:Expr}
def zi6(it:Addr)(n:Nat)(f:Nat->Option V){R:Nat->Value->Prop}{T:Nat->Heap->Prop}(W:∀ A:Around,A.handled=none->Walks P w A it [it] [it] n R T)
   (hr:∀ i v,R i v->∃ x,f i=some x/\RelV x v) (hob:∀ i h,T i h->∃ o nm vs,h.get? it=some o/\o.cls=.type nm/\o.data=.fields vs/\zkk.contains nm=false)
   (hself:∀ (A:Around) (i:Nat) (s:Shared) (Q:Value->Shared->Prop) (E:Value->Shared->Prop),T i s.heap->Q (.ref it) s->wpAny (model P w) A (pyIter<|.ref it) Q E s) :
   Turn P w K tg (Itw n f) [it] it (fun i h=>i<=n/\T i h) where
 mem:=by simp
 obj:=fun i h st b hb=>by
   have e:b=it:=by simpa using hb
   subst e;obtain⟨o,nm,vs,e,c,d,_⟩:=hob i h st.2;exact⟨o,e,fun v z=>by rw[d] at z;cases z⟩
 keep:=fun i h h' st k=>⟨st.1,(W {} rfl).frame i h h' st.2 k⟩
 item:=by intro X hP hw hK hc i pins s M H E I hf st hg;subst hP hw hK;obtain⟨f0,f1,f2,f3,f4,f5⟩:=hf it (by simp);refine (W X.A<|I.ok.hd hc).item i s _ _ hg st.2 fun v h' tk hv st' kk=>?_;obtain⟨x,hx,rx⟩:=hr i v hv;have I1:Inv X pins M H { s with heap:=h',toks:=tk }:=I.turned (fun b o hb e=>kk b o (by simpa using hb) e) f0 f1 f3 f4 f5;obtain⟨o,nm,vs,e,c,d,hn⟩:=hob (i+1) h' st';exact⟨_,rfl,zrN (s:={ s with heap:=h',toks:=tk }) e c d hn ⟨x,H,I1,rx,⟨rfl,hx⟩,⟨hg,st'⟩,fun b hb=>(hf b hb).1⟩⟩
 done:=by intro X hP hw hK hc i pins s M H E I hf st hg;subst hP hw hK;obtain⟨f0,f1,f2,f3,f4,f5⟩:=hf it (by simp);have e:i=n:=Nat.le_antisymm st.1 hg;subst e;exact (W X.A<|I.ok.hd hc).done s _ _ st.2 fun h' tk kk=>⟨rfl,I.turned (fun b o hb e=>kk b o (by simpa using hb) e) f0 f1 f3 f4 f5⟩
 self:=fun A i s Q E st h=>hself A i s Q E st.2 h
def zs9{H:Hp}{io:List Addr}{ds:List D}{n:Nat}{f:Nat->Option V}(hn:n=ds.length)(hf:∀ i d,ds[i]?=some d->∃ v,f i=some v/\∀ H io,Rep K H io v d):ItOk K H io ⟨ds,[]⟩ (Itw n f) where
 go:=fun i d H1 k1 s hd X1 S1 hs=>by have hi:i < ds.length:=(List.getElem?_eq_some_iff.mp hd).1;refine⟨by show i < n;omega,fun x H' y=>?_⟩;obtain⟨rfl,y⟩:=y;obtain⟨v,hv,rv⟩:=hf i d hd;rw[hv] at y;cases y;exact⟨Ext.refl,S1,rv _ _⟩
 stop:=fun H1 k1 s X1 S1 hs=>by show n<=ds.length;omega
 stop':=fun H1 k1 s i hi X1 S1 hs=>by show n<=i;have hi:ds.length<=i:=hi;omega
variable {l:Expr}{es:List Expr}{mm:MA}{mt:MT}{ms:MS}{body:List Stmt}{z:Str}
def signs(z:Str):List D:=z.cps.toList.map fun c=>D.str ⟨#[c]⟩
def zpi(z:Str)(i:Nat):Option V:=z.cps[i]?.map fun c=>V.str ⟨#[c]⟩
def zk0(hh:A.handled=none)(I:Addr)(x:Str)(t:Tok):Walks P w A I [I] [I] x.cps.size (SignAt x) (fun i h=>h.IsStrIter I (strIterType x) x t i):=by
 unfold strIterType
 cases x.cps.all (· < 128)
 . exact Walks.strWide hh I x t
 exact Walks.strAscii hh I x t
def zno(it:Addr)(x:Str)(t:Tok):Turn P w K tg (Itw x.cps.size<|zpi x) [it] it (fun i h=>i<=x.cps.size/\h.IsStrIter it (strIterType x) x t i) :=
 zi6 it x.cps.size (zpi x) (fun A hA=>zk0 hA it x t) (fun i v ⟨c,u,hc,hv⟩=>⟨.str ⟨#[c]⟩,by unfold zpi;rw[hc];rfl,u,hv⟩)
   (fun i h ⟨o,e,c,d⟩=>⟨o,_,_,e,c,d,by unfold strIterType;split <;> decide⟩) fun A i s Q E st h=>by
     unfold strIterType at st
     split at st
     . exact wpAny_pyIter_striter_ascii st h
     exact wpAny_pyIter_striter_wide st h
def iStr(tl:TE):TI:=fun M H R=>tl M H fun x H1=>∃ z,x=.str z/\R (Itw z.cps.size<|zpi z) H1
def zsx{tl:TE}(hl:PE X l tl):PI X tg l (iStr tl):=by
 intro pins s M H R I h;refine thn (hl pins s M H _ I h) ?_;rintro v s1 ⟨x,H1,I1,r1,q1⟩;obtain⟨z,e,q⟩:=q1;subst e;obtain⟨t,rfl⟩:=r1;refine wpAny_pyIter_strU ?_;refine⟨s1.heap.objs.size,[s1.heap.objs.size],_,_,H1,rfl,I1.kept (t':=s1.toks) fun b o e=>Ad _ e,zno _ z t,⟨AY _,_,Al _ rfl,rfl,rfl⟩,fun b hb=>?_,q⟩;have e:b=s1.heap.objs.size:=by simpa using hb
 subst e;exact I1.fpOk (Af _)<|I1.hok.fresh<|Af _
def signs_get{i:Nat}{d:D}(h:(signs z)[i]?=some d):∃ v,zpi z i=some v/\∀ H io,Rep K H io v d:=by unfold signs at h;rw[AB] at h;obtain⟨c,hc,e⟩:=zaj h;subst e;refine⟨.str ⟨#[c]⟩,?_,fun H io=>rfl⟩;unfold zpi;rw[AD] at hc;rw[hc];rfl
def zhR(z:Str):z.cps.size=(signs z).length:=by unfold signs;rw[Ai,Au]
def mWS(m:ME):MI:=fun U st=>(m U st).bind fun (d,s)=>match d with
 | .str z=>some (⟨signs z,[]⟩,s)
 | _=>none
def zsb(hl:SE X l m):SI X tg l (mWS m):=PI.imp (zsx hl) <| by
 rintro M H R ⟨U,st,io,W,st',E,S,e,k⟩;obtain⟨⟨d,s1⟩,e1,e⟩:=zae e;dsimp only at e
 split at e
 . rename_i z;cases e;refine⟨U,st,io,_,_,E,S,e1,fun v H1 k1 X1 S1 R1=>?_⟩;exact⟨z,R1,k _ H1 k1 X1 S1<|zs9 (zhR z) fun i d h=>signs_get h⟩
 . cases e
def mWA(m:ME):MI:=fun U st=>(m U st).bind fun (d,s)=>orO (zmq d s)<|match d with | .str z=>some (⟨signs z,[]⟩,s) | _=>none
def zbQ(hl:SE X l m):SI X tg l (mWA m):=by
 rintro pins s M H R I ⟨U,st,io,W,st',E,S,e0,k⟩;obtain⟨⟨d,s1⟩,e1,e0⟩:=zae e0
 rcases zcu e0 with e0 | e0
 . exact zmB hl pins s M H R I ⟨U,st,io,W,st',E,S,by unfold mW;rw[e1];exact e0,k⟩
 exact zsb hl pins s M H R I ⟨U,st,io,W,st',E,S,by unfold mWS;rw[e1];exact e0,k⟩
def zop:GN
 | [.str z],st=>if fits z.cps.size=true then some (.ref st.length,st++[.lst (signs z)]) else none
 | _,_=>none
def zjq{acc:Array Value}(h:ItemsOf (SignAt z) acc z.cps.size):Vals (z.cps.toList.map fun c=>V.str ⟨#[c]⟩) acc.toList:=by
 have aux:∀ (l:List Nat) (vs:List Value),vs.length=l.length->(∀ (j:Nat) (v:Value),vs[j]?=some v->∃ (c:Nat) (u:Tok),l[j]?=some c/\v=Fk ⟨#[c]⟩ u)->Vals (l.map fun c=>V.str ⟨#[c]⟩) vs:=by
   intro l
   induction l with
   | nil=>intro vs hl _;cases (B4 hl);exact .nil
   | cons c l ih =>
     intro vs hl hv
     cases vs with
     | nil=>simp at hl
     | cons v vs =>
       obtain⟨c',u,hc,rfl⟩:=hv 0 v rfl
       cases (show c=c' by simpa using hc)
       exact .cons ⟨u,rfl⟩<|ih vs (by simpa using hl) fun j v h=>by simpa using hv (j+1) v (by simpa using h)
 refine aux _ _ (by rw[Au,h.1,Au]) fun j v hj=>?_;obtain⟨c,u,hc,hv⟩:=h.2 j v (by rw[<-AD];exact hj);exact⟨c,u,by rw[AD];exact hc,hv⟩
def zjr(z:Str):Reps K H io (z.cps.toList.map fun c=>V.str ⟨#[c]⟩) (signs z):=by
 unfold signs;generalize z.cps.toList=l
 induction l with
 | nil=>exact rfl
 | cons c l ih=>exact Reps.cons rfl ih
def ziS(hc:X.calm=true):zed X (.type "list") zop:=by
 rintro pins s M H xs us Q I r ⟨ds,st,io,d,st',R,S,e,k⟩;unfold zop at e
 split at e
 . rename_i z;obtain⟨hf,e⟩:=zau e;cases e;obtain⟨v,rfl,rfl⟩:=R.one;obtain⟨u,rfl,ru⟩:=r.one;obtain⟨t,rfl⟩:=ru;have hz:z.cps.size<=sizeLine:=of_decide_eq_true hf;refine call_list_str (hn:=hz) (I.ok.hd hc) z t fun h' tk acc c' hk hat hacc=>?_;refine⟨.ref s.heap.objs.size,upd H s.heap.objs.size<|.lst<|z.cps.toList.map fun c=>V.str ⟨#[c]⟩,I.laid (t':=tk) (fun b o q=>hk b o q) (Af _) ⟨by rw[Ai,Au];exact hz,acc.toList,c',zjq hacc,by simpa using hat⟩,rfl,?_⟩;exact k.lst S (zjr z)<|I.hok.fresh<|Af _
 . cases e
def zs3:GN:=orN zs2 zop
def zkO(hc:X.calm=true):zed X (.type "list") zs3:=zfd zkN<|ziS hc
def zpl(g:D->List D->Sto->Option (D×Sto))(m:ME)(mm:MA):ME:=fun U st=>(m U st).bind fun (x,s1)=>match x with
 | .str _=>(mm U s1).bind fun (xs,s2)=>g x xs s2
 | _=>none
def zj3{g:D->List D->Sto->Option (D×Sto)}(h:tE K (zpl g m mm) M H Q):tBM K "str" (mtM K g) (tE K m) (tA K mm) M H Q:=by
 obtain⟨U,st,io,d,st',E,S,e,k⟩:=h;obtain⟨⟨x,s1⟩,e1,e⟩:=zae e
 cases x with
 | str z =>
   obtain⟨⟨xs,s2⟩,e2,e⟩:=zae e;refine⟨U,st,io,_,s1,E,S,e1,fun v1 H1 k1 X1 S1 R1=>⟨by cases (show v1=.str z from R1);rfl,U,s1,io++k1,xs,s2,E.ext S X1,S1,e2,fun vs H2 k2 X2 S2 R2=>?_⟩⟩;exact⟨_,xs,s2,(io++k1)++k2,d,st',R1.ext S1 X2,R2,S2,e,(k.on S1 X1).on S2 X2⟩
 | _=>cases e
def zqb{name:Str}{id:String}{g:D->List D->Sto->Option (D×Sto)}{o:Expr}{apos cpos:Pos}(slot:Slot "str" name id)(hty:typeOf (.builtin id)=pure (.type "method_descriptor"))(hm:MtR X id (mtM X.K g))(ho:SE X o m)(ha:SA X (e::es) mm)
   (hbase:attributeBase o name X.env (eval o X.env)=eval o X.env:=by rfl)
   (hfew:((backTo cpos<|starEach (e::es) X.env).all (fun x=>!x.1)&&(backToKw cpos<|keywordEach [] X.env).all (fun x=>x.1.isSome)
    &&decide ((e::es).length+([]:List Keyword).length+(if ([]:List Keyword).isEmpty then 0 else 1) < 30))=true:=by rfl)
   (hline:(apos.endLine==cpos.line)=true:=by rfl) (hs:starEach (e::es) X.env=(false,eval e X.env)::starEach es X.env:=by rfl) (hplain:(backTo cpos<|starEach es X.env).any (·.1)=false:=by rfl) :
   SE X (.Call (.Attribute o name apos) (e::es) [] cpos) (zpl g m mm) :=
 PE.imp (zsI DI slot hty hm ho ha hbase hfew hline hs hplain) fun M H Q h=>zj3 h
def slK:D->Option Int->Option Int->Sto->Option (D×Sto):=fun x lo hi st=>match x with
 | .kl ds=>some (.ref st.length,st++[.lst (cutD ds lo hi)])
 | _=>none
def slB:D->Option Int->Option Int->Sto->Option (D×Sto):=fun x lo hi st=>orO (slA x lo hi st)<|slK x lo hi st
def mSlB(m:ME)(l h:MO):ME:=fun U st=>(m U st).bind fun (x,s1)=>(l U s1).bind fun (lo,s2)=>(h U s2).bind fun (hi,s3)=>slB x lo hi s3
def zlo{lo hi:Option Expr}{ml mh:MO}(he:SE X e m)(hl:SO X lo ml)(hu:SO X hi mh):SE X (.Subscript e (.Slice lo hi none p2) pos) (mSlB m ml mh):=by
 rintro pins s M H Q I ⟨U,st,io,d,st',E,S,e0,k⟩;obtain⟨⟨x,s1⟩,e1,e0⟩:=zae e0;obtain⟨⟨lo',s2⟩,e2,e0⟩:=zae e0;obtain⟨⟨hi',s3⟩,e3,e0⟩:=zae e0
 rcases zcu e0 with e0 | e0
 . exact zeE he hl hu pins s M H Q I ⟨U,st,io,d,st',E,S,by simp only[mSlA,e1,e2,e3,Ac];exact e0,k⟩
 . refine zfU zmA he hl hu pins s M H Q I ?_;refine⟨U,st,io,x,s1,E,S,e1,fun v1 H1 k1 X1 S1 R1=>⟨U,s1,io++k1,lo',s2,E.ext S X1,S1,e2,fun H2 k2 X2 S2=>⟨U,s2,(io++k1)++k2,hi',s3,(E.ext S X1).ext S1 X2,S2,e3,fun H3 k3 X3 S3=>?_⟩⟩⟩;have R3:=(R1.ext S1 X2).ext S2 X3;have k':=((k.on S1 X1).on S2 X2).on S3 X3
   cases x with
   | kl ds =>
     cases e0;obtain⟨p,xs,rfl,hx,r⟩:=R3;exact⟨p,xs,rfl,hx.sq,fun q hq=>k'.lst S3 (zkF r _ _) hq⟩
   | _=>cases e0
def zjU:G2
 | .str i,.str j,st=>some (.bl (!(!(BC j i 0 j.length 1).isEmpty)),st)
 | _,_,_=>none
def zjH:OpM X (compareOp .NotIn) zjU:=by
 rintro pins s M H x y v u Q I rx ry ⟨dx,dy,st,io,d,st',Rx,Ry,S,e,k⟩
 cases dx with
 | str i =>
   cases dy with
   | str j=>cases e;exact zhj pins s M H x y v u Q I rx ry ⟨i,j,Rx,Ry,k.now S rfl⟩
   | _=>cases e
 | _=>cases e
def zjV:G2:=orG zhp zjU
def zlt(hu:X.A.units+100 < cLine)(ha:SE X a ma)(hb:SE X b mb)(hm:behindInMarks .NotIn b=false:=by rfl):SB X (.Compare a [.NotIn] [b] pos) (mTst<|mBin zjV ma mb) :=
 zqf (zhS hu ha hb hm) (zbR zjH ha hb hm)
end L2.MP
namespace PySem.F
end PySem.F
namespace PySem
open Builtin
end PySem
namespace L2.MP
open PySem PySem.Spec PyProof.Rows
variable {X:Cx}{K:Ae}{H:Hp}{io:List Addr}{m mk:ME}{st st':Sto}{e se:Expr}{te:TE}{ts:TO}{p2 pos:Pos}
def revT(z:Str):Str:=⟨z.cps.toList.reverse.toArray⟩
def znP(z:Str):(revT z).length=z.length:=by show (z.cps.toList.reverse.toArray).size=z.cps.size;simp
def picked_rev(z:Str)(t:Tok):slicePicked z none none (some (-1,t))=(AV z.length).reverse:=by
 unfold slicePicked Em;have h:¬ ((Option.map (fun x:Int×Tok=>x.1)<|some (-1,t)).getD 1 > 0):=by show ¬ ((-1:Int) > 0);decide
 simp only[h,if_false,Fw];show sliceRange ((z.length:Int) - 1) (-1) (-1)=_;rw[PySem.W.krv_sliceRange,GP]
def ztO(te:TE)(ts:TO):TE:=fun M H Q=>te M H fun x H1=>ts M H1 fun k H2=>k=some (-1)/\∃ z,x=.str z/\z.length<=sizeLine/\Q (.str<|revT z) H2
def zqz(he:PE X e te)(hs:PO X (some se) ts):PE X (.Subscript e (.Slice none none (some se) p2) pos) (ztO te ts):=by
 intro pins s M H Q I h;refine DY<|thn (he pins s M H _ I h) ?_;rintro v s1 ⟨x,H1,I1,r1,q1⟩;refine FC ?_;rw[DM];refine Ab<|Ab ?_;refine thn (hs pins s1 M H1 _ I1 q1) ?_;rintro vs s3 ⟨k,H3,I3,pk,hk,z,hx,hz,q3⟩;subst hk;subst hx;obtain⟨t,rfl⟩:=r1;have I4:Inv X pins M H3 { s3 with heap:=s3.heap.push { cls:=.type "slice",data:=.fields #[.none,.none,vs] } }:=I3.kept (t':=s3.toks) fun b ob q=>Ad _ q
 cases pk with
 | int i ti =>
   show wpAny (model X.prog X.w) X.A (subscriptTail e (.Slice none none (some se) p2) (.str z t)<|.ref s3.heap.objs.size) (EP X pins M Q) X.xe _;refine F7 (ops:=[.str z t,.ref s3.heap.objs.size]) (EK _ _ _) slot_str_getitem.lookup ?_ (by with_unfolding_all rfl);refine B6 (l:=none) (u:=none) (st:=some (-1,ti)) ?_ rfl ?_
   . exact Dm ..
   . unfold sliceMade;rw[if_neg (by intro h;rw[An] at h;exact absurd h.1 (by show ¬ (((-1:Int)==1)=true);decide))];have e1:(⟨((slicePicked z none none<|some (-1,ti)).filterMap (z.cps[·]?)).toArray⟩:Str)=revT z:=by
       rw[picked_rev,FL];unfold revT
       congr 2
       exact congrArg List.reverse<|Hq z.cps
     rw[e1];exact⟨by rw[znP];exact hz,⟨.str<|revT z,H3,I4.tok _,⟨_,rfl⟩,q3⟩⟩
def zrI(m mk:ME):ME:=fun U st=>(m U st).bind fun (x,s1)=>(mk U s1).bind fun (k,s2)=>match x,k with
 | .str z,.int i=>if (decide (i=-1)&&fits z.length)=true then some (.str (revT z),s2) else none
 | _,_=>none
def zp6(he:SE X e m)(hk:SE X se mk):SE X (.Subscript e (.Slice none none (some se) p2) pos) (zrI m mk) :=
 PE.imp (zqz he<|zhW hk) <| by
   rintro M H Q ⟨U,st,io,d,st',E,S,e,k⟩;obtain⟨⟨x,s1⟩,e1,e⟩:=zae e;obtain⟨⟨y,s2⟩,e2,e⟩:=zae e;refine⟨U,st,io,x,s1,E,S,e1,fun v1 H1 k1 X1 S1 R1=>?_⟩;refine⟨U,s1,io++k1,y,s2,E.ext S X1,S1,e2,fun v2 H2 k2 X2 S2 R2=>?_⟩
   cases x with
   | str z =>
     cases y with
     | int i =>
       obtain⟨hi,e⟩:=zau e;cases e;rw[An] at hi;have hi1:=of_decide_eq_true hi.1;subst hi1;exact⟨_,R2,rfl,z,R1,of_decide_eq_true hi.2,((k.on S1 X1).on S2 X2).now S2 rfl⟩
     | _=>cases e
   | _=>cases e
def zrJ(m mk:ME):ME:=fun U st=>orO (mRev m mk U st)<|zrI m mk U st
def zp7(he:SE X e m)(hk:SE X se mk):SE X (.Subscript e (.Slice none none (some se) p2) pos) (zrJ m mk):=by
 rintro pins s M H Q I ⟨U,st,io,d,st',E,S,e0,k⟩
 rcases zcu e0 with e0 | e0
 . exact zsd he hk pins s M H Q I ⟨U,st,io,d,st',E,S,e0,k⟩
 exact zp6 he hk pins s M H Q I ⟨U,st,io,d,st',E,S,e0,k⟩
variable {ma mb:ME}{mm:MA}
section
variable {U U1:Rho} {s1:Sto} {n o:ME} {ms mq:MS} {mt mu:MT} {d:D} {ml mh:MO}
@[simp] theorem ztJ:mWA m U st=(m U st).bind fun p=>orO (zmq p.1 p.2) (match p.1 with | .str z=>some (⟨signs z,[]⟩,p.2) | _=>none):=rfl
theorem zrE{g:D->List D->Sto->Option (D×Sto)}:zpl g m mm U st=(m U st).bind fun p=>match p.1 with
 | .str _=>(mm U p.2).bind fun q=>g p.1 q.1 q.2
 | _=>none:=rfl
@[simp] theorem zuH:mSlB m ml mh U st=(m U st).bind fun p=>(ml U p.2).bind fun q=>(mh U q.2).bind fun r=>slB p.1 q.1 r.1 r.2:=rfl
end
variable {o:Obj}{d:Addr}{prog:Program}{w:World}{A:Around}{E:Value->Shared->Prop}{s:Shared}{es:Array DictEntry}{ep i:Nat}
def zlV{R:Value->Shared->Prop}(ty:s.TypeIs (.ref d) "dict")(hd:(d==sysModules)=false)(g:s.heap.get? d=some o)(dd:o.data=.dict es ep)
   (k:R (.ref s.heap.objs.size) { s with heap:=s.heap.push { cls:=.type "dict_keyiterator",data:=.fields #[.ref d,.int 0 0,.int es.size 0,.int ep 0] } }):wpAny (model prog w) A (pyIter<|.ref d) R E s:=by
 refine CV ty F.slot_dict_iter<|AG F.slot_dict_iter ty F.entry_dict_iter ?go<|F.args_dict_iter_1 _;unfold Builtin.«dict.__iter__»;refine Aa ?_;unfold Builtin.Dict.dictSlotNone;refine Aa<|C0 ty ?_;show wpAny _ _ (pure<|AC d) _ _ s;refine Ab ?_;show wpAny _ _ (DX d >>= _) _ _ s;unfold DX;rw[if_neg (by rw[hd];exact Bn)];refine Aa<|Ab<|Aa<|Cq g dd<|Aa<|CN g dd ?_;refine Aa (AF<|Ab ⟨_,rfl,"dict_keyiterator",_,⟨_,Al _ rfl,rfl⟩,F.slot_dict_keyiterator_next.lookup,?_⟩);simpa[rawInt] using k
def zlU{it:Addr}{en:DictEntry}{R:Option Value->Shared->Prop}(hit:s.heap.IsKeyIter it d i es.size ep)(g:s.heap.get? d=some o)(dd:o.data=.dict es ep)(hx:es[i]?=some en)
   (k:∀ h',h'.IsKeyIter it d (i+1) es.size ep->Be it s.heap h'->R (some en.key) { s with heap:=h' }):wpAny (model prog w) A (pyNext<|.ref it) R E s:=by
 obtain⟨io,ig,ic,idt⟩:=id hit;have own:BN "dict_keyiterator"=false:=by decide
 unfold pyNext;refine Aa (BW<|AO (name:=Bf "__next__") hit.typeIs F.slot_dict_keyiterator_next<|AG F.slot_dict_keyiterator_next hit.typeIs F.entry_dict_keyiterator_next ?_<|F.args_dict_keyiterator_next_1 _);refine Aa<|Ab<|Aa<|Aa ?_;refine Aa<|B5 hit.typeIs<|Ab<|Aa<|Cb ig idt ?_;simp only[own,Aw,if_false];show wpAny _ _ (if (AC d==AZ)=true then _ else _) _ _ s;rw[if_neg (show ¬ (AC d==AZ)=true from fun z=>Bn z)];refine Aa<|Ab<|Aa<|Cq g dd ?_;rw[if_neg (by simp)];refine Aa<|Ab<|Aa<|CN g dd ?_;rw[if_neg (by simp)];refine Ab ?_;have ni:¬ ((i:Int) < 0):=by omega
 simp only[ni,if_false,Ba,hx];refine Aa<|Aa<|B5 hit.typeIs<|Ab<|Aa<|FV hit.typeIs ?_;show wpAny _ _ (setField (.ref it) 1 (rawInt<|(i:Int)+1) >>= _) _ _ s;refine Aa<|Br ig idt (by simp) ?_;have h2:(s.heap.update it (DP (·.setIfInBounds 1 (rawInt<|(i:Int)+1)))).IsKeyIter it d (i+1) es.size ep:=⟨_,A3 _ ig<|BB<|AL idt _,(B3 ..).trans ic,by rw[AL idt];simp[rawInt]⟩
 refine Aa (AS (Aa (FV (s:={ s with heap:=s.heap.update it (DP (·.setIfInBounds 1 (rawInt<|(i:Int)+1))) }) h2.typeIs ?_)));show wpAny _ _ (pure en.key) _ _ _;exact Ab<|Ab ⟨_,rfl,Ab<|k _ h2<|AQ ..⟩
def zlT{it:Addr}{R:Option Value->Shared->Prop}(hh:A.handled=none)(hit:s.heap.IsKeyIter it d i es.size ep)(g:s.heap.get? d=some o)(dd:o.data=.dict es ep)(hx:es[i]?=none)
   (k:∀ h',Cg it s.heap h'->R none { s with heap:=h' }):wpAny (model prog w) A (pyNext<|.ref it) R E s:=by
 obtain⟨io,ig,ic,idt⟩:=id hit;have own:BN "dict_keyiterator"=false:=by decide
 unfold pyNext;refine Aa (BW<|AO (name:=Bf "__next__") hit.typeIs F.slot_dict_keyiterator_next<|AG F.slot_dict_keyiterator_next hit.typeIs F.entry_dict_keyiterator_next ?_<|F.args_dict_keyiterator_next_1 _);refine Aa<|Ab<|Aa<|Aa ?_;refine Aa<|B5 hit.typeIs<|Ab<|Aa<|Cb ig idt ?_;simp only[own,Aw,if_false];show wpAny _ _ (if (AC d==AZ)=true then _ else _) _ _ s;rw[if_neg (show ¬ (AC d==AZ)=true from fun z=>Bn z)];refine Aa<|Ab<|Aa<|Cq g dd ?_;rw[if_neg (by simp)];refine Aa<|Ab<|Aa<|CN g dd ?_;rw[if_neg (by simp)];refine Ab ?_;have ni:¬ ((i:Int) < 0):=by omega
 simp only[ni,if_false,Ba,hx];refine Aa<|Aa<|B5 hit.typeIs<|Ab ?_;show wpAny _ _ (setField (.ref it) 0 .none >>= _) _ _ s;refine Aa<|Br ig idt (by simp) ?_;show wpAny _ _ (newExc (.type "StopIteration") [] >>= _) _ _ _;simp only[newExc,newTuple];refine Aa (Aa<|AF (Aa (m:=firstArgMember _ _)<|Eg (a:=AZ) (by first | rfl | (simp only[firstArgMember];rfl))<|AF ?_<|by size_fits)<|by size_fits);simp only[raiseNew];refine Aa<|Ex ?_;rw[show A.in1.handled=none from hh];refine Aa<|Ab<|FI ?_;refine Aa (C6 (T:="StopIteration") (b:=true) ⟨_,Al _ rfl,rfl⟩ Ee<|Ab ?_);exact k _<|((AQ ..).extBut.push _).push _
section
variable {tg:Expr}
def ztF(kvs:List (List Key×D)):List D:=kvs.map fun p=>.tup<|p.1.map keyD
end
variable {n:Nat}{sl:Addr}{Q:Value->Shared->Prop}
def ziX{t:Tok}{Q:Int×Int×Nat->Shared->Prop}(hs:s.heap.IsSliceOf sl .none .none (.int (-1) t))(h:Q ((n:Int) - 1,-1,n) s):wpAny (model prog w) A (Cn (.ref sl)<|pure (n:Int)) Q E s:=by
 obtain⟨os,hos,hcs,hds⟩:=id hs;unfold Cn EJ;refine Aa<|Aa<|A8 hos hds (x:=.none) rfl<|Aa<|A8 hos hds (x:=.none) rfl<|Aa<|A8 hos hds (x:=.int (-1) t) rfl<|Ab ?_;refine Aa<|HT.slicePart_ (.int (-1) t) ?_;show wpAny _ _ (if ((-1:Int)==0)=true then _ else _) _ _ s;rw[if_neg (by decide)];refine Aa<|HT.slicePart_ .none<|Aa<|HT.slicePart_ .none<|Aa<|Ab ?_;have e1:BI none none (-1) (n:Int)=((n:Int) - 1,-1):=by unfold BI;simp
 have e2:Bl ((n:Int) - 1) (-1) (-1)=n:=by
   unfold Bl;have h1:¬ ((-1:Int) > 0):=by decide
   simp only[h1,if_false]
   by_cases hn:(-1:Int) < (n:Int) - 1
   . simp[hn]
   simp[hn];omega
 show wpAny _ _ (match BI none none (-1) (n:Int) with | (lo,hi)=>pure (lo,(-1:Int),Bl lo hi (-1))) _ _ s;rw[e1];show wpAny _ _ (pure ((n:Int) - 1,(-1:Int),Bl ((n:Int) - 1) (-1) (-1))) _ _ s;rw[e2];exact Ab h
def zkC{α β:Type}{f g:α->Option β}:∀ {l:List α},(∀ x∈l,f x=g x)->l.filterMap f=l.filterMap g
 | [],_=>rfl
 | a::l,h=>by rw[BU,BU,h a Aj,zkC fun x hx=>h x (Ah _ hx)]
def zn1(xs:Array Value):((AV xs.size).filterMap fun (m:Nat)=>xs[(((xs.size:Int) - 1)+(m:Int)*-1).toNat]?).toArray=xs.toList.reverse.toArray:=by
 congr 1
 have e:∀ m∈AV xs.size,xs[(((xs.size:Int) - 1)+(m:Int)*-1).toNat]?=xs[xs.size - 1 - m]?:=fun m hm=>by
   have:=List.mem_range.mp hm;have:(((xs.size:Int) - 1)+(m:Int)*-1).toNat=xs.size - 1 - m:=by omega
   rw[this]
 rw[zkC e];have h2:(AV xs.size).filterMap (fun m=>xs[xs.size - 1 - m]?)=((AV xs.size).map fun k=>xs.size - 1 - k).filterMap (xs[·]?):=by rw[Gu];rfl
 rw[h2,GP,FL,Hq]
def zez{t:Addr}{items:Array Value}{tk:Tok}(ht:IsTup s.heap t items)(hs:s.heap.IsSliceOf sl .none .none (.int (-1) tk))
   (h:Q (.ref s.heap.objs.size) { s with heap:=s.heap.push { cls:=.type "tuple",data:=.seq items.toList.reverse.toArray } }) (hsz:items.size<=sizeLine):wpAny (model prog w) A (getItem (.ref t)<|.ref sl) Q E s:=by
 have htake:sizeOk (.seq items.toList.reverse.toArray):=by show items.toList.reverse.toArray.size<=sizeLine;rw[Aq,CD,Au];exact hsz
 obtain⟨os,hos,hcs,hds⟩:=id hs;have hTs:s.TypeIs (.ref sl) "slice":=⟨os,hos,hcs⟩
 unfold getItem
 try with_reducible refine AS ?_
 first | refine Aa (Ab ?_) | skip
 refine Aa<|EC ht.typeIs (by decide) ?_;refine Aa (AO (name:=Bf "__getitem__") ht.typeIs Bv<|AG Bv ht.typeIs Ea ?_<|Ek _ _);show wpAny _ _ (Da (.ref t) >>= _) _ _ s;refine Aa<|Gb ht ?_;refine Aa<|BZ hTs ?_;rw[if_pos (by decide)];refine Aa<|ziX hs ?_;have hno:¬ ((((items.size:Int) - 1)==0&&(-1:Int)==1&&items.size==items.size)=true):=by intro q;rw[An,An] at q;exact absurd q.1.2<|by decide
 show wpAny _ _ (if (((items.size:Int) - 1)==0&&(-1:Int)==1&&items.size==items.size)=true then _ else _) _ _ s;rw[if_neg hno,zn1]
 first
   | exact Aa (m:=Bu _) (AF (Ab ⟨_,rfl,Ab h⟩) htake)
   | exact Aa (m:=Bu _) (AF (Aa<|Ab<|Ab ⟨_,rfl,Ab h⟩) htake)
   | exact Aa (Aa (m:=Bu _)<|AF (Ab<|Ab ⟨_,rfl,Ab h⟩) htake)
   | exact Aa (Aa (m:=Bu _)<|AF (Ab ⟨_,rfl,Ab h⟩) htake)
variable {a b c:Expr}{mc:ME}{pins:List (Addr×Obj)}{M:L2.St}
section
variable {es:List Expr}
def ztN(K:Ae)(te:TE)(ts:TO):TE:=fun M H Q=>te M H fun x H1=>ts M H1 fun k H2=>k=some (-1)/\∃ a xs,x=.ref a/\H2 a=some (.tup xs)/\∀ p,H2 p=none->Q (.ref p) (upd H2 p<|.tup xs.reverse)
def zqy(he:PE X e te)(hs:PO X (some se) ts):PE X (.Subscript e (.Slice none none (some se) p2) pos) (ztN X.K te ts):=by
 intro pins s M H Q I h;refine DY<|thn (he pins s M H _ I h) ?_;rintro v s1 ⟨x,H1,I1,r1,q1⟩;refine FC ?_;rw[DM];refine Ab<|Ab ?_;refine thn (hs pins s1 M H1 _ I1 q1) ?_;rintro vs s3 ⟨k,H3,I3,pk,hk,a,xs,hx,hq,q3⟩;subst hk;subst hx;cases r1;have I4:Inv X pins M H3 { s3 with heap:=s3.heap.push { cls:=.type "slice",data:=.fields #[.none,.none,vs] } }:=I3.kept (t':=s3.toks) fun b ob q=>Ad _ q;obtain⟨its,r,ht,hz⟩:=I4.tuple<|SqT.of (K:=X.K) hq;have hlen:=r.length;show wpAny (model X.prog X.w) X.A (subscriptTail e (.Slice none none (some se) p2) (.ref a)<|.ref s3.heap.objs.size) (EP X pins M Q) X.xe { s3 with heap:=s3.heap.push { cls:=.type "slice",data:=.fields #[.none,.none,vs] } }
 cases pk with
 | int i ti =>
 refine F7 (ops:=[.ref a,.ref s3.heap.objs.size]) ht.typeIs PyProof.Rows.slot_tuple_getitem.lookup ?_ (by with_unfolding_all rfl);refine zez ht (Dm ..) ?_ (by rw[Aq];omega);refine⟨.ref (s3.heap.push { cls:=.type "slice",data:=.fields #[.none,.none,.int (-1) ti] }).objs.size,_,I4.laid (t':=s3.toks) (o:=.tup xs.reverse) (fun b ob q=>Ad _ q) (Af _) ?_,rfl,q3 _<|I4.hok.fresh<|Af _⟩;exact⟨by rw[CD];exact hz,_,zg4 r,zdJ.new _ _⟩
def zrH(m mk:ME):ME:=fun U st=>(m U st).bind fun (x,s1)=>(mk U s1).bind fun (k,s2)=>match x,k with
 | .tup ds,.int i=>if (decide (i=-1))=true then some (.tup ds.reverse,s2) else none
 | _,_=>none
def zp0(he:SE X e m)(hk:SE X se mk):SE X (.Subscript e (.Slice none none (some se) p2) pos) (zrH m mk) :=
 PE.imp (zqy he<|zhW hk) <| by
   rintro M H Q ⟨U,st,io,d,st',E,S,e,k⟩;obtain⟨⟨x,s1⟩,e1,e⟩:=zae e;obtain⟨⟨y,s2⟩,e2,e⟩:=zae e;refine⟨U,st,io,x,s1,E,S,e1,fun v1 H1 k1 X1 S1 R1=>?_⟩;refine⟨U,s1,io++k1,y,s2,E.ext S X1,S1,e2,fun v2 H2 k2 X2 S2 R2=>?_⟩
   cases x with
   | tup ds =>
     cases y with
     | int i =>
       obtain⟨hi,e⟩:=zau e;cases e;have hi1:=of_decide_eq_true hi;subst hi1;obtain⟨p,xs,rfl,hp,r⟩:=R1.ext S1 X2;exact⟨_,R2,rfl,p,xs,rfl,hp,fun l hl=>((k.on S1 X1).on S2 X2).tup S2 (zhf r) hl⟩
     | _=>cases e
   | _=>cases e
def zh8(m mk:ME):ME:=fun U st=>orO (zrJ m mk U st)<|zrH m mk U st
def zmE(he:SE X e m)(hk:SE X se mk):SE X (.Subscript e (.Slice none none (some se) p2) pos) (zh8 m mk):=by
 rintro pins s M H Q I ⟨U,st,io,d,st',E,S,e0,k⟩
 rcases zcu e0 with e0 | e0
 . exact zp7 he hk pins s M H Q I ⟨U,st,io,d,st',E,S,e0,k⟩
 exact zp0 he hk pins s M H Q I ⟨U,st,io,d,st',E,S,e0,k⟩
end
def zgy:typeLookup (.type "tuple") "keys"=pure none:=by rw[D6,C1];kernel_rfl
structure Fill(prog:Program)(w:World)(A:Around)(D I:Addr)(n:Nat)(key val:Nat->Value)(T:Nat->Heap->Prop):Prop where
 keep:∀ i h h',T i h->(∀ b o,b≠I->h.get? b=some o->h'.get? b=some o)->T i h'
 step:∀ i (s:Shared) (Q:Unit->Shared->Prop) (E:Value->Shared->Prop),i < n->T i s.heap->(∀ h' tk,T (i+1) h'->Be D s.heap h'->Q () { s with heap:=h',toks:=tk })->wpAny (model prog w) A (dictSet D (key i) (val i)) Q E s
variable {xs:Array Value}{x:Sr}{I:Addr}{its:List Value}{key val:Nat->Value}{T:Nat->Heap->Prop}{h:Heap}
section
variable {a:Addr}
def zki{Q:Option Value->Shared->Prop}{k:Nat}{sl:Array (Option Value)}(hx:s.heap.get? a=some { cls:=.type "tuple",dict:=none,data:=.seq xs k,slots:=sl })(hA:A.handled=none)
   (h:∀ h' tk,(∀ b u,s.heap.get? b=some u->h'.get? b=some u)->Q none { s with heap:=h',toks:=tk }):wpAny (model prog w) A (getAttr? (.ref a) "keys") Q E s:=by
 obtain⟨hp,g,d,tk,os⟩:=s;have hT:∀ tk',(⟨hp,g,d,tk',os⟩:Shared).TypeIs (.ref a) "tuple":=fun _=>⟨_,hx,rfl⟩
 have f1:=GB;have f3:=F.slot_tuple_getattribute.lookup;have f4:=F.slot_tuple_getattribute.bind<|.ref a;have f5:=am_tuple_getattr_none;unfold getAttr? getAttrBy? getAttrBy
 repeat (any_goals (first | assumption | exact hT _ | ((with_reducible show wpAny _ _ (call (HB "tuple.__getattribute__") _ _) _ _ _);refine G9 F.slot_tuple_getattribute (hT _) am_entry_tuple_getattribute (F.args_tuple_getattribute_2 _ _) (meets_getattribute_miss_tuple a xs k sl _ _ zgy<|by decide +kernel) ⟨hx,hA,fun h' tk' e hx'=>?_⟩) | wp_step))
 obtain⟨t',u',he⟩:=hx'.there;show wpAny _ _ (getattributeRaised _ _ _ _ _ _ _) _ _ _;unfold getattributeRaised
 repeat (any_goals (first | assumption | wp_step))
 exact h _ _ hx'.keeps
def Sr.nextN{it:Addr}{v:Value}{R:Option Value->Shared->Prop}(hit:x.at_ s.heap it i)(h:x.is s.heap xs)(hx:xs[i]?=some v)(k:∀ h',x.at_ h' it (i+1)->Be it s.heap h'->R (some v) { s with heap:=h' }) :
   wpAny (model prog w) A (pyNext<|.ref it) R E s:=by
 cases x with
 | l a=>exact DG hit h hx k
 | t a=>exact Fg (show s.heap.IsTupleIter it a i from hit) (show s.heap.IsTuple a xs from h) hx k
def Sr.stopN{it:Addr}{R:Option Value->Shared->Prop}(hh:A.handled=none)(hit:x.at_ s.heap it i)(h:x.is s.heap xs)(hx:xs[i]?=none)(k:∀ h',Cg it s.heap h'->R none { s with heap:=h' }) :
   wpAny (model prog w) A (pyNext<|.ref it) R E s:=by
 cases x with
 | l a=>exact DV hh hit h hx k
 | t a=>exact Fy hh (show s.heap.IsTupleIter it a i from hit) (show s.heap.IsTuple a xs from h) hx k
def zut{R:Result->Shared->Prop}{D:Addr}{h0:Heap}(F:Fill prog w A.in1 D I n key val T)(hh:A.in1.handled=none)(hl:its.length=n)(hDI:D≠I)(hxD:x.ad≠D)(hxI:x.ad≠I) :
   ∀ (k i:Nat) (s:Shared),n - i=k->i<=n->x.at_ s.heap I i->x.is s.heap its.toArray->T i s.heap ->
   (∀ (j:Nat) (v:Value),its[j]?=some v->∃ p,v=.ref p/\IsTup s.heap p #[key j,val j]/\p≠D/\p≠I)->(∀ b o,b≠D->b≠I->h0.get? b=some o->s.heap.get? b=some o) ->
   (∀ h' tk,T n h'->(∀ b o,b≠D->b≠I->h0.get? b=some o->h'.get? b=some o)->R (.ok<|.ret .none) { s with heap:=h',toks:=tk }) ->
   codeAny (model prog w) A (.builtin "dict.update.loop" ⟨[.ref D,.ref I,rawInt i,.none],[]⟩) R s:=by
 intro k
 induction k with
 | zero =>
   intro i s hk hi hit hlist hd hp h0k hR;have hin:i=n:=by omega
   subst hin;refine Bs zdq ?_;rw[Bi zbD _];show wpAny _ A.in1 (pyNext (.ref I) >>= _) _ _ s;refine Aa<|Sr.stopN hh hit hlist (by simp[hl]) fun h' hx=>?_;show wpAny _ A.in1 (EY D [] >>= fun _=>ret .none) _ _ _;exact Aa<|Ab<|Ab<|hR h' s.toks (F.keep _ _ _ hd fun b o hb e=>hx b o hb e) fun b o h1 h2 e=>hx b o h2 (h0k b o h1 h2 e)
 | succ k ih =>
   intro i s hk hi hit hlist hd hp h0k hR;have hlt:i < n:=by omega
   have hlt':i < its.length:=by omega
   refine Bs zdq ?_;rw[Bi zbD _];show wpAny _ A.in1 (pyNext (.ref I) >>= _) _ _ s;have hv:its[i]?=some its[i]:=Ak hlt';refine Aa<|Sr.nextN (v:=its[i]) hit hlist (by simp[hlt']) fun h' hit' hx=>?_;obtain⟨p,ep,tp,nD,nI⟩:=hp i _ hv;have tp':IsTup h' p #[key i,val i]:=by obtain⟨o,g,c⟩:=tp;exact⟨o,hx.extBut p o nI g,c⟩
   have hd':T i h':=F.keep _ _ _ hd fun b o hb e=>hx.extBut b o hb e;rw[ep];refine Aa<|AS<|Aa<|wpAny_tryCatch<|zeY (s:={ s with heap:=h' }) tp' ?_;refine AS<|F.step i { s with heap:=h' } _ _ hlt hd' fun h2 tk2 hd2 hs2=>?_;have hI2:∀ b o,b≠D->h'.get? b=some o->h2.get? b=some o:=fun b o hb e=>hs2.extBut b o hb e;refine Ab ⟨BX zbD _,?_⟩;refine ih (i+1) { s with heap:=h2,toks:=tk2 } (by omega) (by omega) ?_ ?_ hd2 (fun j v h1=>?_) (fun b o b1 b2 e=>hI2 b o b1 (hx.extBut b o b2<|h0k b o b1 b2 e)) fun h3 tk3 d3 k3=>hR h3 tk3 d3 k3
   . exact Sr.at_keep hit' fun u e=>hI2 I u (BV hDI) e
   . exact Sr.is_keep (Sr.is_keep hlist fun u e=>hx.extBut _ u hxI e) fun u e=>hI2 _ u hxD e
   obtain⟨q,e,⟨o,g,c⟩,q1,q2⟩:=hp j v h1;exact⟨q,e,⟨o,hI2 q o q1<|hx.extBut q o q2 g,c⟩,q1,q2⟩
def Sr.pl(h:Heap)(xs:Array Value):Sr->Prop
 | .l a=>PlainL h a xs
 | .t a=>zdJ h a xs
def Sr.pl_is(q:x.pl h xs):x.is h xs:=by
 cases x with
 | l a=>exact PlainL.isList q
 | t a=>exact zdJ.t q
def Sr.pl_keep{h':Heap}(q:x.pl h xs)(k:∀ b u,h.get? b=some u->h'.get? b=some u):x.pl h' xs:=by
 cases x with
 | l a=>exact PlainL.keeps q k
 | t a=>exact zdJ.keeps q k
def zgN(hh:A.handled=none)(hpl:x.pl s.heap its.toArray)(hl:its.length=n)
   (hF:∀ I:Addr,s.heap.objs.size < I->Fill prog w A.in1.in1 s.heap.objs.size I n key val T) (h0:T 0 (s.heap.push { cls:=.type "dict",data:=.dict #[] }))
   (hp:∀ (j:Nat) (v:Value),its[j]?=some v->∃ p,v=.ref p/\IsTup s.heap p #[key j,val j])
   (h:∀ h' tk,T n h'->(∀ b o,s.heap.get? b=some o->h'.get? b=some o)->Q (.ref s.heap.objs.size) { s with heap:=h',toks:=tk }) :
   wpAny (model prog w) A (call (.type "dict") [.ref x.ad]) Q E s:=by
 refine callType_codes (Q₁:=fun obj s₁=>obj=.ref s.heap.objs.size/\s₁={ s with heap:=s.heap.push { cls:=.type "dict",data:=.dict #[] } }) F.kt_called_dict (F.kt_typeCall_dict_1 _) F.entry_dict_init (kt_code_dict_new _ ⟨rfl,rfl⟩) ?_;rintro obj s₁ ⟨rfl,rfl⟩;have hnt:Shared.TypeIs { s with heap:=s.heap.push { cls:=.type "dict",data:=.dict #[] } } (.ref s.heap.objs.size) "dict":=⟨_,Al _ rfl,rfl⟩
 have k1:∀ b o,s.heap.get? b=some o->(s.heap.push { cls:=.type "dict",data:=.dict #[] }).get? b=some o:=fun b o e=>Ad _ e;have hpl1:=Sr.pl_keep hpl k1;have hlt:∀ b o,s.heap.get? b=some o->b < s.heap.objs.size:=fun b o e=>Am e;have hll:x.ad < s.heap.objs.size:=by obtain⟨o,g⟩:=Sr.is_get<|Sr.pl_is hpl;exact hlt _ o g
 refine⟨hnt,F.args_dict_init_2 _ _,?_⟩;unfold Builtin.«dict.__init__»;refine Aa ?_;unfold EZ;refine Aa<|C0 hnt ?_;show wpAny _ _ (pure (s.heap.objs.size,[AC x.ad])) _ _ _;refine Ab ?_;show wpAny _ _ (CH "dict.__init__" s.heap.objs.size (.ref x.ad) [] .none) _ _ _;unfold CH;have rest:∀ (h2:Heap) (tk2:Nat),(∀ b u,(s.heap.push { cls:=.type "dict",data:=.dict #[] }).get? b=some u->h2.get? b=some u) ->
     codeAny (model prog w) A.in1 (.builtin "dict.update.loop" ⟨[.ref s.heap.objs.size,.ref h2.objs.size,rawInt (0:Nat),.none],[]⟩) (wants (fun r s₂=>r=.none/\Q (.ref s.heap.objs.size) s₂) E) { s with heap:=h2.push x.ob,toks:=tk2 }:=by
   intro h2 tk2 k2;have hpl2:=Sr.pl_keep hpl1 k2;have hsz:s.heap.objs.size < h2.objs.size:=by obtain⟨o,ho,_⟩:=hnt;exact Am<|k2 _ o ho
   have k3:∀ b o,h2.get? b=some o->(h2.push x.ob).get? b=some o:=fun b o e=>Ad _ e;have n1:s.heap.objs.size≠h2.objs.size:=Ap hsz;have n2:x.ad≠s.heap.objs.size:=Ap hll;have n3:x.ad≠h2.objs.size:=Ap<|CA hll hsz;have FF:=hF h2.objs.size hsz;refine zut (A:=A.in1) (h0:=s.heap) (x:=x) (its:=its) FF hh hl n1 n2 n3 n 0 { s with heap:=h2.push x.ob,toks:=tk2 } rfl (AY _) ?_ (Sr.pl_is<|Sr.pl_keep hpl2 k3) ?_ (fun j v e1=>?_) (fun b o _ _ e=>k3 b o (k2 b o<|k1 b o e)) fun h' tk d' k'=>?_
   . exact Sr.at_new<|Al _ (by cases x <;> rfl)
   . exact FF.keep _ _ _ h0 fun b o _ e=>k3 b o (k2 b o e)
   . obtain⟨p,e,⟨o,g,c⟩⟩:=hp j v e1;exact⟨p,e,⟨o,k3 p o<|k2 p o<|k1 p o g,c⟩,Ap<|hlt p o g,Ap<|CA (hlt p o g) hsz⟩
   exact⟨rfl,h h' tk d' fun b o e=>k' b o (Ap<|hlt b o e) (Ap<|CA (hlt b o e) hsz) e⟩
 cases x with
 | l a =>
   obtain⟨⟨cl,di,da,sl⟩,nn,g1,c1,c2,c3⟩:=id hpl1;simp only at c1 c2 c3;subst c1 c2 c3;refine Aa (BZ (show Shared.TypeIs { s with heap:=s.heap.push { cls:=.type "dict",data:=.dict #[] } } (.ref a) "list" from ⟨_,g1,rfl⟩) ?_);rw[if_pos (by decide)];refine Aa<|zic g1 hh fun h2 tk2 k2=>?_;simp only[El,if_true];refine Aa<|Cs ?_;refine Aa<|Sr.iter (x:=.l a) (s:={ s with heap:=h2,toks:=tk2 }) (xs:=its.toArray) (Sr.pl_is (x:=.l a)<|Sr.pl_keep (x:=.l a) hpl1 k2) ?_;exact Ab ⟨BX zbD _,rest h2 tk2 k2⟩
 | t a =>
   obtain⟨⟨cl,di,da,sl⟩,g1,c1,c2,nn,c3⟩:=id hpl1;simp only at c1 c2 c3;subst c1 c2 c3;refine Aa (BZ (show Shared.TypeIs { s with heap:=s.heap.push { cls:=.type "dict",data:=.dict #[] } } (.ref a) "tuple" from ⟨_,g1,rfl⟩) ?_);rw[if_pos (by decide)];refine Aa<|zki g1 hh fun h2 tk2 k2=>?_;simp only[El,if_true];refine Aa<|Cs ?_;refine Aa<|Sr.iter (x:=.t a) (s:={ s with heap:=h2,toks:=tk2 }) (xs:=its.toArray) (Sr.pl_is (x:=.t a)<|Sr.pl_keep (x:=.t a) hpl1 k2) ?_;exact Ab ⟨BX zbD _,rest h2 tk2 k2⟩
end
section
variable {a:Addr}
def FK(prog:Program)(w:World)(D:Addr)(kvs:List (Key×Value))(i:Nat)(h:Heap):Prop:=h.DictOf (zbm prog w) D<|merged []<|kvs.take i
def xAt(xs:List Value)(i:Nat):Value:=match xs[i]? with | some x=>x | none=>.none
def wAt(xs:List (Key×Value))(i:Nat):Value:=match xs[i]? with | some x=>x.2 | none=>.none
def zuy{D:Addr}{kvs:List (Key×Value)}{kxs:List Value}(hDI:D≠I)(hz:kvs.length<=sizeLine)(hk:∀ (j:Nat) (kv:Key×Value),kvs[j]?=some kv->(zbm prog w).is kv.1 (xAt kxs j)=true):Fill prog w A D I kvs.length (xAt kxs) (wAt kvs) (FK prog w D kvs) where
 keep:=fun i h h' ⟨o,es,ep,ho,r⟩ k=>⟨o,es,ep,k D o hDI ho,r⟩
 step:=fun i s Q E hi hd h=>by
   have e:kvs[i]?=some kvs[i]:=Ak hi;have ev:wAt kvs i=kvs[i].2:=by unfold wAt;rw[e]
   rw[ev];have hl:(merged []<|kvs.take i).length<=sizeLine:=by have:=ze5 (kvs.take i) [];rw[A1,BH] at this;omega
   refine Gi (hk i _ e) hd (fun h' hd' hs=>h h' _ ?_ hs) hl;have e1:stored (merged []<|kvs.take i) kvs[i].1 kvs[i].2=merged [] (kvs.take<|i+1):=(merged_take_succ [] kvs i _ e).symm;unfold FK;rw[<-e1];exact hd'
def zh2{h:Heap}:∀ {its:List Value} {kvs:List (Key×Value)},its.length=kvs.length->(∀ (j:Nat) (v:Value) (kv:Key×Value),its[j]?=some v->kvs[j]?=some kv->zgR prog w h v kv) ->
   ∃ kxs:List Value,∀ (j:Nat) (v:Value) (kv:Key×Value),its[j]?=some v->kvs[j]?=some kv->∃ p,v=.ref p/\IsTup h p #[xAt kxs j,kv.2]/\(zbm prog w).is kv.1 (xAt kxs j)=true
 | [],kvs,_,_=>⟨[],fun j v kv e=>by simp at e⟩
 | v::its,[],e,_=>by cases e
 | v::its,kv::kvs,e,hp=>by
   obtain⟨kxs,hk⟩:=zh2 (its:=its) (kvs:=kvs) (by simpa using e) fun j u q e1 e2=>hp (j+1) u q e1 e2;obtain⟨p,kx,e1,e2,e3⟩:=hp 0 v kv rfl rfl;refine⟨kx::kxs,fun j u q f1 f2=>?_⟩
   cases j with
   | zero =>
     cases f1;cases f2;exact⟨p,e1,e2,e3⟩
   | succ j=>exact hk j u q f1 f2
end
def zrO:GN
 | [.tup ds],st=>(zpk ds).bind fun kds=>if fits kds.length=true then some (.ref st.length,st++[.dk (zfn [] kds)]) else none
 | _,_=>none
def ziU(hc:X.calm=true):zed X (.type "dict") zrO:=by
 rintro pins s M H xs us Q I r ⟨ds,st,io,d,st',R,S,e,k⟩;unfold zrO at e
 split at e
 . rename_i zs;obtain⟨kds,e1,e⟩:=zae e;obtain⟨hf,e⟩:=zau e;cases e;obtain⟨v,rfl,p,ys,rfl,hp,r1⟩:=R.one;obtain⟨u,rfl,ru⟩:=r.one;cases ru;obtain⟨hz,its,rv,pl⟩:=(show zdN X.prog X.w H s.heap p (.tup ys) from I.hok p _ hp)
   obtain⟨kvV,kvs,a1,a2,a3,a4,a5⟩:=znZ I r1 e1 rv;have hzk:kvs.length<=sizeLine:=by rw[a4];exact of_decide_eq_true hf
   obtain⟨kxs,hk⟩:=zh2 a3 a5;have hkk:∀ (j:Nat) (kv:Key×Value),kvs[j]?=some kv->(zbm X.prog X.w).is kv.1 (xAt kxs j)=true:=fun j kv e=>by
     have hj:j < its.length:=by rw[a3];exact (List.getElem?_eq_some_iff.mp e).1
     obtain⟨_,_,_,q⟩:=hk j _ kv (Ak hj) e;exact q
   refine zgN (x:=.t p) (T:=FK X.prog X.w s.heap.objs.size kvs) (key:=xAt kxs) (val:=wAt kvs) (I.ok.hd hc) pl a3 (fun i hi=>zuy (Ap hi) hzk hkk) (Fp s.heap) (fun j v e=>?_) fun h' tk d' kk=>?_
   . have hj:j < kvs.length:=by
       rw[<-a3];exact (List.getElem?_eq_some_iff.mp e).1
     have ex:kvs[j]?=some kvs[j]:=Ak hj;obtain⟨p',ep,tp,_⟩:=hk j v _ e ex;refine⟨p',ep,?_⟩;unfold wAt;rw[ex];exact tp
   . have d':h'.DictOf (zbm X.prog X.w) s.heap.objs.size (merged [] kvs):=by
       have:FK X.prog X.w s.heap.objs.size kvs kvs.length h':=d';unfold FK at this
       rwa [Cc] at this
     have hlV:kvV.length=kvs.length:=BF a2;have hm:(zfm [] kvV).length<=sizeLine:=by have:=zdh kvV [];rw[BH] at this;omega
     have hd:(s.heap.objs.size==sysModules)=false:=beq_eq_false_iff_ne.mpr<|BV<|Ap I.big;refine⟨.ref s.heap.objs.size,_,I.laid (a:=s.heap.objs.size) (o:=.dK (zfm [] kvV)) (t':=tk) kk (Af _)<|zoX hm hd (a2.merge .nil) d',rfl,?_⟩;obtain⟨E',S'⟩:=zjY (o:=.dK (zfm [] kvV)) (ob:=.dk (zfn [] kds)) S (I.hok.fresh<|Af _) fun H' T e=>⟨_,e,zj4 (KR.mono T a1) .nil⟩
     exact k _ _ [s.heap.objs.size] E' S' ⟨s.heap.objs.size,rfl,by rw[<-S.len];exact getElem?_len io _⟩
 . cases e
def zrp:GN:=orN zrP zrO
def ziV(hc:X.calm=true):zed X (.type "dict") zrp:=zfd (zkP hc)<|ziU hc
section
variable {es:List Expr}
def zj8(i:Int):Bool:=decide (i.natAbs.log2 < 1920)
def strC:GN
 | [.str x],st=>some (.str x,st)
 | [.int i],st=>if zj8 i=true then some (.str (toString i),st) else none
 | _,_=>none
def zmc:zed X (.type "str") strC:=by
 rintro pins s M H xs us Q I r ⟨ds,st,io,d,st',R,S,e,k⟩;unfold strC at e
 split at e
 . rename_i x;cases e;obtain⟨v,rfl,rv⟩:=R.one
   cases (show v=.str x from rv)
   obtain⟨u,rfl,t,rfl⟩:=r.one;exact PySem.P.str_of_str ⟨.str x,H,I,⟨t,rfl⟩,k.now S rfl⟩
 . rename_i i;obtain⟨hf,e⟩:=zau e;cases e;obtain⟨v,rfl,rv⟩:=R.one
   cases (show v=.int i from rv)
   exact zhB pins s M H _ us Q I r ⟨i,rfl,of_decide_eq_true hf,k.now S rfl⟩
 . cases e
end
end L2.MP
namespace L2.MP
variable {prog:Program}{w:World}{A:Around}{E Q:Value->Shared->Prop}{s:Shared}
section
open PySem PySem.Spec PyProof.Rows PySem.Builtin PySem.Builtin.Str
variable {z y:Str} {t u:Tok}
end
variable {X:Cx}{K:Ae}{H:Hp}{io:List Addr}{st st':Sto}{a b c e:Expr}{es:List Expr}{ma mb mc m:ME}{mm:MA}{pos:Pos}
section
open PySem PySem.Spec PyProof.Rows
end
open PySem
variable {U:Rho}
theorem zpa{c:MT}{n:ME}:mIte c m n U st=(c U st).bind fun p=>if p.1=true then m U p.2 else n U p.2:=rfl
variable {W:Wk}{g:MG}{U1:Rho}{s1 s2:Sto}
def zj9{m:MS}{d r:D}{ds:List D}(wk:walked W st=true)(e1:g d U st=some (U1,s1))(e2:m U1 s1=some (.rt r,s2)):zel W g m (d::ds) U st=some (.rt r,s2):=by unfold zel;rw[if_pos wk,e1];simp only[Ac,e2]
def zka{m:MS}{d:D}{ds:List D}{U2:Rho}(wk:walked W st=true)(e1:g d U st=some (U1,s1))(e2:m U1 s1=some (.nx U2,s2)):zel W g m (d::ds) U st=zel W g m ds U2 s2:=by
 conv=>lhs;unfold zel
 rw[if_pos wk,e1];simp only[Ac,e2]
open PySem.Spec PyProof.Rows
def ziv:D->List D->Sto->Option (D×Sto):=fun x xs st=>match x,xs with
 | .str z,[.str y]=>if fits z.length=true then some (.str (BP z y),st) else none
 | _,_=>none
def zlN:MtR X "str.strip" (mtM X.K ziv):=by
 rintro pins s M H x xs v us Q I rx rs ⟨dx,ds,st,io,d,st',Rx,Rs,S,e,k⟩;unfold ziv at e
 split at e
 . rename_i z y;obtain⟨hf,e⟩:=zau e;cases e
   cases (show x=.str z from Rx)
   obtain⟨w,rfl,Rw⟩:=Rs.one
   cases (show w=.str y from Rw)
   obtain⟨t,rfl⟩:=rx;obtain⟨u,rfl,ru⟩:=Vals.one rs;obtain⟨t',rfl⟩:=ru;exact PySem.SC.stripChars (fun t' n=>⟨.str _,H,I.tok _,⟨t',rfl⟩,k.now S rfl⟩)<|of_decide_eq_true hf
 . cases e
@[irreducible] def JSs (X:Cx) (s:List Stmt) (m:MS):Prop:=SSs X s m
@[irreducible] def JS (X:Cx) (s:Stmt) (m:MS):Prop:=SS X s m
@[irreducible] def JA (X:Cx) (es:List Expr) (m:MA):Prop:=SA X es m
variable {body:List Stmt}{ms:MS}{p2:Pos}
section
variable {st1 st2:Stmt} {rest orelse:List Stmt} {mt mu:MT} {mq mr:MS} {mg:MG} {mi:MI}
def JSs.out(h:JSs X body ms):SSs X body ms:=by unfold JSs at h;exact h
def JSs.mk(h:SSs X body ms):JSs X body ms:=by unfold JSs;exact h
def JS.out(h:JS X st1 ms):SS X st1 ms:=by unfold JS at h;exact h
def JS.mk(h:SS X st1 ms):JS X st1 ms:=by unfold JS;exact h
def JA.out(h:JA X es mm):SA X es mm:=by unfold JA at h;exact h
def JA.mk(h:SA X es mm):JA X es mm:=by unfold JA;exact h
def zbh:JSs X [] zcf:=.mk zpH
def zam(h:JS X st1 ms):JSs X [st1] ms:=.mk<|zpG h.out
def zai(h:JS X st1 ms)(h2:JSs X rest mq):JSs X (st1::rest) (mSeq ms mq):=.mk<|znt h.out h2.out
def zdG(hc:SB X c mt)(h1:JSs X body ms)(h2:JSs X orelse mq):JS X (.If c body orelse pos) (mIf mt ms mq):=.mk<|ztX hc h1.out h2.out
def zfp{tg iter:Expr}(hp:PassesOwn (model X.prog X.w) X.A X.env X.xe)(hc:X.calm=true)(hi:SI X tg iter mi)(hg:SG X tg mg)(hb:JSs X body ms)(hs:∀ x,foldedSetIterable iter X.env x=pure x:=by intro _;rfl):JS X (.For tg iter body [] pos) (mFor mi mg ms):=.mk<|zr1 hp hc hi hg hb.out hs
def zd6:JA X [] mNil:=.mk zaf
def zah(ha:SE X e m)(hr:JA X es mm)(hs:∀ q,starEach (e::q) X.env=(false,eval e X.env)::starEach q X.env:=by intro _;rfl):JA X (e::es) (zab m mm):=.mk<|zaa ha hr.out<|hs _
def zmV{i:Nat}{x:Str}{pos':Pos}(hN:X.N.Nodup)(hi:X.N[i]?=some x)(hx:Loc X.env.scope x)(h:JA X es mm)(hf:X.fn x=true\/X.env.scope.names.lookup x=some .local:=by first | exact .inl rfl | exact .inr rfl | assumption):JS X (.Assign [.Name x pos'] (.List es p2) pos) (mAsg (mLst mm)<|gNm i):=.mk<|zpI hN hi hx (zcd h.out) rfl hf
end
variable {o:Obj}{ep:Nat}
def zi2(hh:A.handled=none)(it d:Addr)(hne:d≠it){es:Array DictEntry}(dd:o.data=.dict es ep) :
   Walks prog w A it [it,d] [it] es.size (fun i v=>∃ en,es[i]?=some en/\v=en.key) (fun i h=>h.IsKeyIter it d i es.size ep/\h.get? d=some o) where
 sub:=fun b hb=>by simp at hb;simp[hb]
 frame:=fun _ _ _ st hk=>⟨st.1.at fun o e=>hk it (by simp) o e,hk d (by simp) o st.2⟩
 item:=fun i s Q E hi st hQ=>by have hx:es[i]?=some es[i]:=AU hi;refine zlU st.1 st.2 dd hx fun h' st' sb=>?_;exact hQ _ h' s.toks ⟨_,hx,rfl⟩ ⟨st',(sb.2 d hne).trans st.2⟩ fun b ob hb e=>(sb.2 b fun z=>hb (by simp[z])).trans e
 done:=fun s Q E st hQ=>zlT hh st.1 st.2 dd (by simp) fun h' eb=>hQ h' s.toks fun b ob hb e=>eb b ob (fun z=>hb (by simp[z])) e
 self:=fun _ _ _ _ st hQ=>wpAny_pyIter_keyiter st.1 hQ
def znv{d:Addr}{es:Array DictEntry}(dd:o.data=.dict es ep)(hd:(d==sysModules)=false)(ty:∀ s:Shared,s.heap.get? d=some o->s.TypeIs (.ref d) "dict") :
   PySem.W.KdlSrc prog w "dict" d d es.size (fun i v=>∃ en,es[i]?=some en/\v=en.key) (fun h=>h.get? d=some o) where
 type:=ty
 there:=fun _ g=>⟨Am g,Am g⟩
 keep:=fun _ _ g hk=>hk d (.inl rfl) o g
 notList:=by decide
 notTuple:=by decide
 hint:=fun _ _ s _ g hq=>PySem.W.kdl_hint_dict (ty s g) hq
 iter:=fun A' s hh g=>⟨_,_,fun _ _ hq=>zlV (ty s g) hd g dd hq,zi2 hh _ d (Ap<|Am g) dd,⟨⟨_,Al _ rfl,rfl,rfl⟩,Ad _ g⟩⟩
def zib{K:Ae}{H:Hp}{io:List Addr}:∀ {vs:List Value} {ps:List (List Key×V)} {kvs:List (List Key×D)},KR (List Key) K H io ps kvs->vs.length=ps.length->(∀ (j:Nat) (v:Value) (p:List Key×V),vs[j]?=some v->ps[j]?=some p->∃ b,v=.ref b/\H b=some (.tup<|p.1.map kV))->∃ ys,Vals ys vs/\Reps K H io ys (ztF kvs)
 | [],_,_,.nil,_,_=>⟨[],.nil,rfl⟩
 | [],_::_,_,.cons _ _,hl,_=>by simp at hl
 | v::vs,_,_,.nil,hl,_=>by simp at hl
 | v::vs,p::ps,q::kvs,.cons h t,hl,hv=>by obtain⟨b,rfl,hb⟩:=hv 0 v p rfl rfl;obtain⟨ys,r1,r2⟩:=zib (vs:=vs) t (by simpa using hl) fun j v p e1 e2=>hv (j+1) v p (by simpa using e1) (by simpa using e2);refine⟨.ref b::ys,.cons rfl r1,Reps.cons ⟨b,_,rfl,hb,?_⟩ r2⟩;rw[h.1];exact zf6 _
def zoq:GN
 | [.ref n],st=>match st[n]? with
   | some (.dt kvs)=>if fits kvs.length=true then some (.ref st.length,st++[.lst (ztF kvs)]) else none
   | _=>none
 | _,_=>none
def ziT(hc:X.calm=true):zed X (.type "list") zoq:=by
 rintro pins s M H xs us Q I r ⟨ds,st,io,d,st',R,S,e,k⟩;unfold zoq at e
 split at e
 . rename_i n
   split at e
   . rename_i kvs en;obtain⟨hf,e⟩:=zau e;cases e;obtain⟨v,rfl,p,rfl,hp⟩:=R.one;obtain⟨u,rfl,ru⟩:=r.one;cases ru;obtain⟨ps,hH,rk⟩:=S.ob n p _ hp en;obtain⟨t1,t2,hs⟩:=zrf I<|.inr ⟨ps,.inl hH⟩;obtain⟨z,y,xs,r0,o,es,ep,g,ex,dd,et,nd⟩:=I.hok p _ hH;have x:=I.hok p _ hH;have fz:zdN X.prog X.w H s.heap p (.frz o<|.dT ps):=⟨g,x⟩
     obtain⟨g',hl,ent⟩:=zhy fz dd;have hsz:es.size<=sizeLine:=by rw[hl,KR.length rk];exact of_decide_eq_true hf
     refine PySem.W.kdl_call (znv (prog:=X.prog) (w:=X.w) dd hs fun s' g'=>?_) (I.ok.hd hc) g hsz fun h' tk acc c' hk hat hacc=>?_
     . obtain⟨o',ho',hc'⟩:=t1;rw[g] at ho';cases ho';exact⟨o,g',hc'⟩
     . obtain⟨ys,rv,rr⟩:=zib (vs:=acc.toList) rk (by rw[Au,hacc.1,hl]) fun j v q e1 e2=>by
         obtain⟨en',h1,h2⟩:=hacc.2 j v (by rw[<-AD];exact e1);obtain⟨en2,b,h3,h4,h5,_⟩:=ent j q.1 q.2 e2;rw[h1] at h3;cases h3;exact⟨b,by rw[h2,h4],h5⟩
       have hyl:ys.length<=sizeLine:=by rw[rv.length,Au,hacc.1];exact hsz
       refine⟨.ref s.heap.objs.size,upd H s.heap.objs.size<|.lst ys,I.laid (t':=tk) (fun b o q=>hk b o q) (Af _) ⟨hyl,acc.toList,c',rv,by simpa using hat⟩,rfl,?_⟩;exact k.lst S rr<|I.hok.fresh<|Af _
   . cases e
 . cases e
def zke:GN:=orN zs3 zoq
def zgL(hc:X.calm=true):zed X (.type "list") zke:=zfd (zkO hc)<|ziT hc
def isBD:G2:=orG isND fun x y st=>match x,y with
 | .bl a,.bl b=>some (.bl (a==b),st)
 | _,_=>none
def zqM:OpM X (compareOp .Is) isBD:=zhi zqL (by
 rintro pins s M H x y v u Q I rx ry ⟨dx,dy,st,io,d,st',Rx,Ry,S,e,k⟩
 (try dsimp only at e)
 split at e
 . cases e
   cases (show x=_ from Rx)
   cases (show y=_ from Ry)
   cases rx;cases ry;exact PyProof.Rows.is_bool ⟨.bl _,H,I,rfl,k.now S rfl⟩
 . cases e)
def znz{at_:Addr}{vs:List Value}{k:Nat}{R:PySem.Fin->Shared->Prop}(hv:vs.length < 2)(g0:s.heap.get? at_=some (seqObj "list" vs.toArray k))(fin:R (.done<|.ret .none) { s with heap:=sortedHeap s.heap at_ vs vs.toArray }) :
   wpAny (model prog w) A (Builtin.«list.sort» ⟨[.ref at_],[]⟩) R E s:=by
 have lt0:=Am g0;have hz:vs.length<=sizeLine:=AR (Cy hv) (by decide);obtain⟨ep,g1⟩:∃ ep,(s.heap.update at_<|By fun _=>(#[]:Array Value)).get? at_=some (seqObj "list" #[] ep):=⟨_,get?_update_seq g0 fun _=>#[]⟩
 have g2:(((s.heap.update at_<|By fun _=>(#[]:Array Value)).push<|seqObj "tuple" vs.toArray 0).push<|seqObj "list" #[] 0).get? at_=some (seqObj "list" #[] ep):=Ad _<|Ad _ g1;rw[list_sort_plain];refine Aa (listItems_at g0 rfl<|Aa<|Ew g0 rfl (Aa<|FG g1 rfl<|Aa<|Ed (Aa<|DN<|AS ?_)<|by simpa using hz)<|by simpa using hz);show wpAny (model prog w) A _ R E { s with heap:=((s.heap.update at_<|By fun _=>(#[]:Array Value)).push<|seqObj "tuple" vs.toArray 0).push (seqObj "list" #[] 0) };have two:vs.toArray.size < 2:=by simpa using hv
 have same:(arrOf<|HW general' (vs.toArray.zip vs.toArray) #[] 7 none).map (·.2)=vs.toArray:=by
   show ((vs.toArray.zip vs.toArray).map (·.2))=vs.toArray;simp;clear two g2 g1 g0 hz fin hv
   induction vs with
   | nil=>rfl
   | cons a r ih=>simpa using ih
 dsimp only;rw[if_pos two,if_pos two];refine Aa<|Ab ?_;rw[Hl];refine Aa<|Ab ?_;dsimp only;rw[same];refine Aa<|FG g2 rfl<|Aa<|Ew g2 rfl ?_ (hsz2:=by simp;omega);simp only[bne_self_eq_false,Aw,if_false];exact Ab fin
variable {xs:List V}{its:List Value}
section
variable {pins:List (Addr×Obj)} {M:L2.St}
def Inv.notL(I:Inv X pins M H s){D:Addr}(h:s.heap.get? D=none):D≠X.env.locals/\X.base.get? D=none/\H D=none:=by
 refine⟨fun z=>?_,?_,?_⟩
 . obtain⟨m,⟨o,_,_,e,_⟩,_⟩:=I.loc;rw[<-z,h] at e;cases e
 . cases e:X.base.get? D with
   | none=>rfl
   | some u=>rw[(I.bs D u e).1] at h;cases h
 . cases e:H D with
   | none=>rfl
   | some o =>
     obtain⟨u,hu⟩:=zh5<|I.hok D o e;rw[h] at hu;cases hu
def zny{D:Addr}{h':Heap}{Q:VK}(I:Inv X pins M H s)(rv:Vals xs its)(h2:xs.length < 2)(k:∀ b o,s.heap.get? b=some o->h'.get? b=some o)(hD:s.heap.get? D=none)(gD:h'.get? D=some (seqObj "list" its.toArray 0))(h:∀ p,H p=none->Q (.ref p) (upd H p<|.lst xs)) :
   wpAny (model X.prog X.w) X.A.in1.in1 (Builtin.«list.sort» ⟨[.ref D],[]⟩) (fun f s'=>f=.done (.ret .none)/\EP X pins M Q (.ref D) s') (fun _ _=>False) { s with heap:=h' }:=by
 have hlen:=rv.length;have hz:xs.length<=sizeLine:=AR (Cy h2) (by decide);refine znz (by omega) gD ⟨rfl,?_⟩;obtain⟨n1,n2,n3⟩:=Inv.notL I hD;obtain⟨ep,e⟩:=sortedHeap_at (out:=its.toArray) gD;have kk:∀ b u,s.heap.get? b=some u->(sortedHeap h' D its its.toArray).get? b=some u:=fun b u q=>by
   have hb:b≠D:=fun z=>by rw[z,hD] at q;cases q
   rw[sortedHeap_old hb (Am<|k b u q)];exact k b u q
 have J:Inv X pins M (upd H D<|.lst xs) { s with heap:=sortedHeap h' D its its.toArray }:=by obtain⟨m,F⟩:=I.fr;refine Inv.laidAt (m:=m) I (fun b u _=>kk b u) (fun m' ⟨o,a1,a2,q,a3⟩=>⟨o,a1,a2,kk _ _ q,a3⟩) (let ⟨m',⟨o,_,_,q,_⟩,_⟩:=I.loc;⟨o,kk _ _ q⟩) hD n3 n1 ⟨hz,its,ep,rv,e⟩
 exact⟨.ref D,_,J,rfl,h D n3⟩
def znx{ts:List (List Int)}{D:Addr}{h0:Heap}{Q:VK}(I:Inv X pins M H s)(rv:Vals xs its)(T:zdc H xs ts)(h2:2<=ts.length)(h64:ts.length < 64)(k0:∀ b o,s.heap.get? b=some o->h0.get? b=some o)(hsD:s.heap.get? D=none)(gD:h0.get? D=some (seqObj "list" its.toArray 0))
   (h:∀ (q:Array Nat) (p:Addr),q.Perm (CB<|AV ts.length)->Srt.Up (rank ts) q ts.length->H p=none->Q (.ref p) (upd H p<|.lst<|q.toList.map fun i=>xs.getD i .non)) :
   wpAny (model X.prog X.w) X.A.in1.in1 (Builtin.«list.sort» ⟨[.ref D],[]⟩) (fun f s'=>f=.done (.ret .none)/\EP X pins M Q (.ref D) s') (fun _ _=>False) { s with heap:=h0 }:=by
 have hlen:its.length=ts.length:=by have a:=rv.length;have b:=BF T;omega
 obtain⟨m,F⟩:=I.fr;have trkL:∀ b,H b≠none->b≠X.env.locals:=fun b hb z=>hb (by rw[z];exact I.free);obtain⟨n1,n2,hHD⟩:=Inv.notL I hsD;have nD:∀ p∈zfe X.base s.heap X.env.locals,p.1≠D:=fun p hp z=>by have q:=(zhr (g:=X.base) (h:=s.heap) (L:=X.env.locals) p hp).1;rw[z,hsD] at q;cases q
 refine PySem.W.kat_list_sort (s:={ s with heap:=h0 }) (news:=zfe X.base s.heap X.env.locals) (F.kept k0) ((zhr (g:=X.base) (h:=s.heap) (L:=X.env.locals)).grown k0) gD n1 n2 nD (by omega) (by omega) fun e1 h' F' N'=>?_;have keep:∀ {h2:Heap} {o:Obj},PyProof.Rows.Fr X.base X.env.locals h2 m->News X.base X.env.locals h2 ((D,o)::zfe X.base s.heap X.env.locals)->∀ b u,b≠X.env.locals->s.heap.get? b=some u->h2.get? b=some u:=fun {h2 o} F2 N2 b u hb e=>by
   cases q:X.base.get? b with
   | some v =>
     have z:=(I.bs b v q).1;rw[e] at z;cases z;exact F2.keep b _ q
   | none=>exact (N2 (b,u)<|Ah _<|zd3 hb q e).1
 have hk:∀ b o,H b≠none->s.heap.get? b=some o->h'.get? b=some o:=fun b o hb e=>keep F' N' b o (trkL b hb) e;obtain⟨fs,k1,k2,k3⟩:=zhx (h':=h') I hk T rv;refine GX (s:={ s with heap:=h' }) (T:=.type "int") k1 (by omega) (fun v hv=>?_) rfl ?_
 . obtain⟨i,t,rfl⟩:=k3 v hv;exact FR rfl
 have ok:=Srt.sort_ok (n:=its.length) (r:=rank ts) (by omega);refine ztf (n:=its.length) (r:=rank ts) (s:={ s with heap:=h' }) (fun i j hi hj C hC=>zrD (s':={ s with heap:=h' }) I hk T rv (by omega) (by omega) C hC) (fun q hq=>?_) ok;refine F8 F' N' (GM nD) fun h2 c F2 N2=>⟨rfl,?_⟩
 have hD2:=(N2 _ Aj).1;rw[hlen] at hq;have vals:Vals (q.toList.map fun i=>xs.getD i .non) (q.toList.map fun i=>its.getD i AZ):=by
   have hmem:∀ i∈q.toList,i < xs.length:=fun i hi=>by have:i∈(CB<|AV ts.length).toList:=(Array.perm_iff_toList_perm.mp hq.1).mem_iff.mp hi;have hr:=rv.length;simp at this;omega
   generalize q.toList=ql at hmem
   induction ql with
   | nil=>exact .nil
   | cons i r ih =>
     refine .cons ?_<|ih fun j hj=>hmem j (Ah _ hj);have hi:=hmem i Aj;obtain⟨u,eu,ru⟩:=rv.get<|Ak hi;show RelV (xs.getD i V.non) (its.getD i AZ);rw[Ar,Ar,Ak hi,eu];exact ru
 have hql:q.toList.length=ts.length:=by have:=(Array.perm_iff_toList_perm.mp hq.1).length_eq;simpa using this
 have J:Inv X pins M (upd H D<|.lst<|q.toList.map fun i=>xs.getD i .non) { s with heap:=h2 } :=
   Inv.laidAt (m:=m) I (keep F2 N2) (fun m' hm'=>by rw[zqW hm' F.ns];exact F2.ns) (let ⟨o,_,_,e,_⟩:=F2.ns;⟨o,e⟩) hsD hHD n1 ⟨by rw[Ai,hql];exact lt64 h64,_,c,vals,hD2⟩
 exact⟨.ref D,_,J,rfl,h q D hq.1 hq.2 hHD⟩
end
def zrQ:G2
 | .tup a,.tup b,st=>if (a.isEmpty&&fits b.length)=true then some (.tup b,st) else none
 | _,_,_=>none
def zn9:OpM X (binaryOp .Add) zrQ:=by
 rintro pins s M H x y v u Q I rx ry ⟨dx,dy,st,io,d,st',Rx,Ry,S,e,k⟩;unfold zrQ at e
 split at e
 . rename_i i j;obtain⟨hf,e⟩:=zau e;cases e;rw[An] at hf;obtain⟨p,xs,rfl,hp,r1⟩:=Rx;obtain⟨q,ys,rfl,hq,r2⟩:=id Ry;cases rx;cases ry;obtain⟨m,F⟩:=I.fr;obtain⟨its,w1,p1,_⟩:=I.tuple<|SqT.of hp;obtain⟨its2,w2,p2,_⟩:=I.tuple<|SqT.of hq;have e0:its=[]:=by
     have a:=r1.length;have b:=w1.length;have c:i=[]:=by simpa using hf.1
     rw[c] at a;exact B4 (by have a':xs.length=0:=a;omega)
   have hz:its2.length<=sizeLine:=by have a:=r2.length;have b:=w2.length;have c:=of_decide_eq_true hf.2;omega
   exact PyProof.Rows.add_tuples F (news:=[]) (fun p hp=>nomatch hp) p1 p2 (fun _=>⟨.ref q,H,I,rfl,k.now S Ry⟩) (fun z _=>absurd e0 z) (fun z _=>absurd e0 z) (by rw[e0];simpa using hz)
 . cases e
def addE:G2:=orG addD zrQ
def zjJ:OpM X (binaryOp .Add) addE:=zhi zbj zn9
open PySem.SeqAt PySem.MeetsSeq PySem.MeetsSeq2 PySem.MeetsSeq3
def zgE{t sl:Addr}{items:Array Value}{vl vu:Value}{lo hi:Option Int}(ht:IsTup s.heap t items)(hs:s.heap.IsSliceOf sl vl vu .none)(pl:IsPart vl lo)(pu:IsPart vu hi)
   (h0:HT.sIx items.size 0 lo=0) (h1:HT.sIx items.size items.size hi=items.size) (h:Q (.ref t) s):wpAny (model prog w) A (getItem (.ref t)<|.ref sl) Q E s:=by
 obtain⟨os,hos,hcs,hds⟩:=id hs;have hTs:s.TypeIs (.ref sl) "slice":=⟨os,hos,hcs⟩
 unfold getItem
 try with_reducible refine AS ?_
 first | refine Aa (Ab ?_) | skip
 refine Aa (EC ht.typeIs (by decide)<|Aa<|AO (name:=Bf "__getitem__") ht.typeIs Bv<|AG Bv ht.typeIs Ea ?_<|Ek _ _);show wpAny _ _ (Da (.ref t) >>= _) _ _ s;refine Aa<|Gb ht<|Aa<|BZ hTs ?_;rw[if_pos (by decide)];refine Aa<|HT.sliceApplied_gen hs pl pu ?_;rw[h0,h1];have yes:((((0:Nat):Int)==0&&(1:Int)==1&&(items.size - 0)==items.size)=true):=by simp
 show wpAny _ _ (if (((0:Nat):Int)==0&&(1:Int)==1&&(items.size - 0)==items.size)=true then _ else _) _ _ s;rw[if_pos yes];refine Aa (m:=Builtin.Tuple.tupleIsExact _)<|Aa<|BZ ht.typeIs<|Ab ?_;rw[if_pos (by decide)];exact Aa (m:=(pure (HG<|HI<|AC t):Sem Fin))<|Ab<|Ab ⟨_,rfl,Ab h⟩
def rSlW(K:Ae):V->Option Int->Option Int->Hp->VK->Prop:=fun x lo hi H Q=>∃ a xs,x=.ref a/\SqT K H a xs/\HT.sIx xs.length 0 lo=0/\HT.sIx xs.length xs.length hi=xs.length/\Q (.ref a) H
def znA:SlR X (rSlW X.K):=by
 intro pins s M H x v vl vu lo hi sl Q I rx hs pl pu h;obtain⟨a,xs,rfl,hx,h0,h1,q⟩:=h;cases rx;obtain⟨its,r,ht,hz⟩:=I.tuple hx;have hlen:its.toArray.size=xs.length:=by rw[Aq];exact r.length.symm
 exact⟨"tuple",_,PyProof.Rows.slot_tuple_getitem.lookup,ht.typeIs,zgE ht hs pl pu (by rw[hlen];exact h0) (by rw[hlen];exact h1) ⟨.ref a,H,I,rfl,q⟩⟩
def slW:D->Option Int->Option Int->Sto->Option (D×Sto):=fun x lo hi st=>match x with
 | .tup ds=>if (decide (HT.sIx ds.length 0 lo=0)&&decide (HT.sIx ds.length ds.length hi=ds.length))=true then some (.tup ds,st) else none
 | _=>none
def slC:D->Option Int->Option Int->Sto->Option (D×Sto):=fun x lo hi st=>orO (slB x lo hi st)<|slW x lo hi st
def mSlC(m:ME)(l h:MO):ME:=fun U st=>(m U st).bind fun (x,s1)=>(l U s1).bind fun (lo,s2)=>(h U s2).bind fun (hi,s3)=>slC x lo hi s3
def zbO{lo hi:Option Expr}{ml mh:MO}(he:SE X e m)(hl:SO X lo ml)(hu:SO X hi mh):SE X (.Subscript e (.Slice lo hi none p2) pos) (mSlC m ml mh):=by
 rintro pins s M H Q I ⟨U,st,io,d,st',E,S,e0,k⟩;obtain⟨⟨x,s1⟩,e1,e0⟩:=zae e0;obtain⟨⟨lo',s2⟩,e2,e0⟩:=zae e0;obtain⟨⟨hi',s3⟩,e3,e0⟩:=zae e0
 rcases zcu e0 with e0 | e0
 . exact zlo he hl hu pins s M H Q I ⟨U,st,io,d,st',E,S,by simp only[mSlB,e1,e2,e3,Ac];exact e0,k⟩
 . refine zfU znA he hl hu pins s M H Q I ?_;refine⟨U,st,io,x,s1,E,S,e1,fun v1 H1 k1 X1 S1 R1=>⟨U,s1,io++k1,lo',s2,E.ext S X1,S1,e2,fun H2 k2 X2 S2=>⟨U,s2,(io++k1)++k2,hi',s3,(E.ext S X1).ext S1 X2,S2,e3,fun H3 k3 X3 S3=>?_⟩⟩⟩;have R3:=(R1.ext S1 X2).ext S2 X3;have k':=((k.on S1 X1).on S2 X2).on S3 X3;unfold slW at e0
   split at e0
   . rename_i ds;obtain⟨hw,e0⟩:=zau e0;cases e0;rw[An] at hw;obtain⟨p,xs,rfl,hp,r⟩:=id R3;exact⟨p,xs,rfl,SqT.of hp,by rw[r.length];exact of_decide_eq_true hw.1,by rw[r.length];exact of_decide_eq_true hw.2,k'.now S3 R3⟩
   . cases e0
end L2.MP
namespace L2.MP
open PySem L2 PySem.Spec PyProof.Rows
section
variable {K:Ae} {x:Str} {st:Stmt} {f:Addr}
structure FdIn(K:Ae)(x:Str)(st:Stmt)(f:Addr):Prop where
 ex:∃ (oc:Value) (od:Option Addr) (kV dc pm:Value) (an:Option Addr) (cd ct:Value) (sl:Array (Option Value)),K.lookup f=some ⟨oc,od,.func (Ci x x (zeo st) (zcF st) (zaO st) .none kV dc pm an cd ct),sl⟩/\Du K cd x=true
 ns:Gw K mainGlobals x=some (some (.ref f))
 kp:Cv K (.ref f)=true
def zuA{oc kV dc pm cd ct:Value}{od an:Option Addr}{sl:Array (Option Value)}(a:Gw K mainGlobals x=some (some<|.ref f))(l:K.lookup f=some ⟨oc,od,.func<|Ci x x (zeo st) (zcF st) (zaO st) .none kV dc pm an cd ct,sl⟩)(c:Du K cd x=true)(k:Cv K (.ref f)=true):FdIn K x st f :=
 ⟨⟨oc,od,kV,dc,pm,an,cd,ct,sl,l,c⟩,a,k⟩
end
variable {α:Type}
def len1{P:List α->Prop}(h:∀ a,P [a])(l:List α)(e:l.length=1):P l:=by
 rcases l with _ | ⟨a,_ | ⟨b,l⟩⟩
 . cases e
 . exact h a
 . cases e
def len2{P:List α->Prop}(h:∀ a b,P [a,b])(l:List α)(e:l.length=2):P l:=by
 rcases l with _ | ⟨a,l⟩
 . cases e
 exact len1 (P:=fun l=>P (a::l)) (h a) l<|E3 e
def len3{P:List α->Prop}(h:∀ a b c,P [a,b,c])(l:List α)(e:l.length=3):P l:=by
 rcases l with _ | ⟨a,l⟩
 . cases e
 exact len2 (P:=fun l=>P (a::l)) (h a) l<|E3 e
def len4{P:List α->Prop}(h:∀ a b c d,P [a,b,c,d])(l:List α)(e:l.length=4):P l:=by
 rcases l with _ | ⟨a,l⟩
 . cases e
 exact len3 (P:=fun l=>P (a::l)) (h a) l<|E3 e
def len5{P:List α->Prop}(h:∀ a b c d f,P [a,b,c,d,f])(l:List α)(e:l.length=5):P l:=by
 rcases l with _ | ⟨a,l⟩
 . cases e
 exact len4 (P:=fun l=>P (a::l)) (h a) l<|E3 e
end L2.MP
namespace L2.MP
open PySem PySem.Spec PyProof.Rows
open L2
end L2.MP
namespace L2.MP
open PySem PySem.Spec PyProof.Rows
section
variable {X:Cx} {K:Ae} {H:Hp} {io:List Addr}
def ltSD:G2:=fun x y st=>match x,y with
 | .str a,.str b=>some (.bl (decide (a.cps.toList < b.cps.toList)),st)
 | _,_=>none
def zqK:OpM X (compareOp .Lt) ltSD:=by
 rintro pins s M H x y v u Q I rx ry ⟨dx,dy,st,io,d,st',Rx,Ry,S,e,k⟩;unfold ltSD at e
 split at e
 . cases e
   cases (show x=_ from Rx)
   cases (show y=_ from Ry)
   obtain⟨t,rfl⟩:=rx;obtain⟨t,rfl⟩:=ry;exact lt_str ⟨.bl _,H,I,rfl,k.now S rfl⟩
 . cases e
def ltTD:G2:=fun x y st=>match x,y with
 | .tup a,.tup b=>(intsOf a).bind fun ns=>(intsOf b).map fun ms=>(.bl (HT.lexLt ns ms),st)
 | _,_=>none
def zqJ(hu:X.A.units+100 < cLine):OpM X (compareOp .Lt) ltTD:=by
 rintro pins s M H x y v u Q I rx ry ⟨dx,dy,st,io,d,st',Rx,Ry,S,e,k⟩;unfold ltTD at e
 split at e
 . obtain⟨ns,e1,e⟩:=zae e;obtain⟨ms,e2,e⟩:=zaj e;cases e;obtain⟨p,xs,ex,hp,r1⟩:=Rx;obtain⟨q,ys,ey,hq,r2⟩:=Ry
   cases (ints_rep r1 e1).1
   cases (ints_rep r2 e2).1
   exact zsO (by omega) pins s M H x y v u Q I rx ry ⟨p,q,ns,ms,ex,ey,SqT.of hp,SqT.of hq,k.now S rfl⟩
 . cases e
def ltB:G2:=orG ltD<|orG ltSD ltTD
def zsP(hu:X.A.units+100 < cLine):OpM X (compareOp .Lt) ltB:=zhi ziF<|zhi zqK<|zqJ hu
end
end L2.MP
namespace L2.MP
open PySem PySem.Spec
variable {κ:Type}
section
variable [DecidableEq κ]
def met(val:Nat->κ):Nat->List κ
 | 0=>[]
 | i+1=>if val i∈met val i then met val i else met val i++[val i]
def zgu(val:Nat->κ):∀ i,(met val i).length<=i
 | 0=>Af _
 | i+1=>by
   have ih:=zgu val i;unfold met
   split
   . omega
   rw[AE,Cm];omega
def zmR(val:Nat->κ)(i:Nat)(x:κ):decide (x∈met val (i+1))=(decide (x∈met val i) || decide (x=val i)):=by
 rw[BR,Dh,decide_eq_true_iff,decide_eq_true_iff,decide_eq_true_iff];rw[met]
 split
 . rename_i h
   constructor
   . exact .inl
   . rintro (z | z)
     . exact z
     rw[z];exact h
 rw[Hr,Ck]
def zoi(val:Nat->κ)(i:Nat):(met val<|i+1).length=if decide (val i∈met val i)=true then (met val i).length else (met val i).length+1:=by
 rw[met]
 by_cases h:val i∈met val i
 . rw[if_pos h,if_pos (decide_eq_true h)]
 rw[if_neg h,if_neg (by simpa using h),AE];rfl
end
section
variable {prog:Program} {w:World} {A:Around} {E:Value->Shared->Prop} {s:Shared} [DecidableEq κ] {knd:KeyKind prog w κ}
def zfl(led:Bool):Obj:={ cls:=.type "set",dict:=none,data:=.set #[] 0 (.fresh 0 0 led) }
end
open PyProof.Rows
section
variable {X:Cx} {K:Ae} {H:Hp} {io:List Addr} {st st':Sto}
def zrw:bootBuiltins "set"=some (.type "set"):=by decide +kernel
end
section
variable [DecidableEq κ]
def zoj(val:Nat->κ):∀ {i:Nat} {x:κ},x∈met val i ↔ ∃ j,j < i/\val j=x
 | 0,x=>by simp[met]
 | i+1,x=>by
   have:=zmR val i x;rw[BR,Dh,decide_eq_true_iff,decide_eq_true_iff,decide_eq_true_iff] at this;rw[this,zoj val]
   constructor
   . rintro (⟨j,h,e⟩ | e)
     . exact⟨j,by omega,e⟩
     exact⟨i,by omega,e.symm⟩
   . rintro ⟨j,h,e⟩
     by_cases q:j=i
     . subst q;exact .inr e.symm
     exact .inl ⟨j,by omega,e⟩
end
end L2.MP
namespace L2.MP
open PySem PySem.Spec
open PyProof.Rows
section
variable {X:Cx} {K:Ae} {H:Hp} {io:List Addr} {m:ME} {st st':Sto} {tg:Expr}
end
end L2.MP
namespace L2.MP
open PySem PySem.Spec
variable {t:SetTable}{es:Array (Int×Value)}{n:Nat}
def ziD(hp:t.plain=false):(relayAll t es n).2.1.plain=false:=by
 unfold relayAll
 split
 . rename_i t1 od e1;have q:t1.plain=false:=by
     unfold SetTable.relaid SetTable.laid at e1
     cases hc:SetTable.layClean (SetTable.sizeAbove n - 1) (es.map (·.1)) with
     | none=>rw[hc] at e1;cases e1
     | some ow =>
       rw[hc] at e1;cases e1;exact hp
   dsimp only
   split
   . exact q
   rfl
 rfl
def zlB:(relayAll t es n).2.1.led=t.led:=by
 unfold relayAll
 split
 . rename_i t1 od e1;have q:t1.led=t.led:=by
     unfold SetTable.relaid SetTable.laid at e1
     cases hc:SetTable.layClean (SetTable.sizeAbove n - 1) (es.map (·.1)) with
     | none=>rw[hc] at e1;cases e1
     | some ow=>rw[hc] at e1;cases e1;rfl
   dsimp only
   split
   . exact q
   rfl
 rfl
variable {x:Value}
def zq6{h:Int}:(layNew t es h x).2.1.led=t.led:=by
 unfold layNew
 split
 . dsimp only;unfold SetTable.orStandIn
   split <;> rfl
 rfl
variable {h:Heap}{prog:Program}{w:World}{A:Around}{E:Value->Shared->Prop}{s:Shared}{a:Addr}{o:Obj}{ep:Nat}
section
variable {κ:Type} [DecidableEq κ] {knd:KeyKind prog w κ}
def SetD(knd:KeyKind prog w κ)(h:Heap)(a:Addr)(S:κ->Bool)(n:Nat):Prop :=
 ∃ o es ep t,h.get? a=some o/\o.ExactSet/\o.data=.set es ep t/\ElemsOf knd es.toList/\(∀ k,S k=true ↔ ∃ e∈es.toList,knd.is k e.2=true)/\es.size < scanBound/\t.fits es.size=true/\es.size=n/\(n=0\/t.plain=false)/\(w.params.followText "set-order"=true\/t.led=true)
def SetD.as{S S':κ->Bool}{n':Nat}(x:SetD knd h a S n)(e:∀ k,S k=S' k)(en:n=n'):SetD knd h a S' n':=by have:S=S':=funext e;subst this;subst en;exact x
def zgk{es2:Array (Int×Value)}{t2:SetTable}{S:κ->Bool}(g:h.get? a=some o)(gx:o.ExactSet)(gd:o.data=.set es ep t)(k1:ElemsOf knd es2.toList)(k2:∀ k,S k=true ↔ ∃ e∈es2.toList,knd.is k e.2=true)(k3:es2.size < scanBound)(k4:t2.fits es2.size=true)(k5:es2.size=n)(k6:t2.plain=false)(k7:w.params.followText "set-order"=true\/t2.led=true) :
   (h.update a<|Dy es2 t2).get? a=some { o with data:=.set es2 (ep+1) t2 }/\SetD knd (h.update a<|Dy es2 t2) a S n:=by
 obtain⟨y,_⟩:=SetOf_store (knd:=knd) g gx gd k1 k2 k3 k4;exact⟨y,_,es2,ep+1,t2,y,gx,rfl,k1,k2,k3,k4,k5,.inr k6,k7⟩
def zpe{S:Str->Bool}{z:Str}{tk:Tok}{Q:Bool->Shared->Prop}(x:SetD (strKind prog w) s.heap a S n)(room:n+1 < scanBound)
   (q:∀ h',Be a s.heap h'->SetD (strKind prog w) h' a (fun y=>S y || decide (y=z)) (if S z then n else n+1)->Q (!S z) { s with heap:=h' }) :
   wpAny (model prog w) A (setAddHashed a (.str z tk)<|(strKind prog w).hash z) Q E s:=by
 have key:(strKind prog w).is z (.str z tk)=true:=by show Es z (.str z tk)=true;simp[Es]
 obtain⟨o,es,ep,t,g,gx,gd,k1,k2,k3,k4,k5,k6,k7⟩:=x;have r1:es.size+1 < scanBound:=by omega
 have sc:(Fk z tk).scannable=true:=rfl;unfold setAddHashed setAddHashedIn;refine AS<|Aa<|A2 g gd k4 ?_;dsimp only;rw[byScan_of sc k3 k1];simp only[if_true];unfold setAddByScan;refine Aa<|Aa<|Cs<|Aa<|wpAny_setScan_of key g gd k4 k1 ?_
 cases hr:List.findIdx? (fun e=>(strKind prog w).is z e.2) es.toList with
 | some j =>
   dsimp only;obtain⟨hj,hp,_⟩:=List.findIdx?_eq_some_iff_getElem.mp hr;have hS:S z=true:=(k2 z).mpr ⟨es.toList[j],BK hj,hp⟩;refine Ab<|Ab ?_;have es0:s={ s with heap:=s.heap }:=by cases s;rfl
   have:=q s.heap (GQ a s.heap) ⟨o,es,ep,t,g,gx,gd,k1,fun y=>by rw[Dh,decide_eq_true_eq,<-k2 y];exact⟨fun hk=>hk.elim id (fun e=>e ▸ hS),.inl⟩,k3,k4,by rw[hS];exact k5,by rw[hS];exact k6,k7⟩
   rw[hS] at this;rw[es0];exact this
 | none =>
   dsimp only;have hS:S z=false:=by
     cases hk:S z with
     | false=>rfl
     | true =>
       obtain⟨e,he,hp⟩:=(k2 z).mp hk;have:=List.findIdx?_eq_none_iff.mp hr e he;rw[hp] at this;cases this
   have lp:=layNew_perm t es ((strKind prog w).hash z)<|.str z tk;have lf:=layNew_fits t es ((strKind prog w).hash z)<|.str z tk;have ll:=zq6 (t:=t) (es:=es) (h:=(strKind prog w).hash z) (x:=.str z tk);generalize layNew t es ((strKind prog w).hash z) (.str z tk)=L at lp lf ll ⊢;obtain⟨es1,t1,wd,gv⟩:=L;dsimp only at lp lf ll ⊢;rw[EG] at lp;rw[<-ll] at k7;have m1:ElemsOf (strKind prog w) es1.toList:=(k1.push key sc).perm lp;have m2:=mem_push_iff key k2 lp;have sz:es1.size=n+1:=by rw[<-Au,lp.length_eq,AE,Au,k5];rfl
   have m3:es1.size < scanBound:=by rw[sz];exact room
   have fin:∀ h',Be a s.heap h'->SetD (strKind prog w) h' a (fun y=>S y || decide (y=z)) (n+1)->Q true { s with heap:=h' }:=fun h' sb y=>by have:=q h' sb;rw[hS] at this;exact this y
   have gw:∀ (b:Bool) {s1:Shared} {Q1:Unit->Shared->Prop},Q1 () s1->wpAny (model prog w) A (match b with | true=>rule "set.scan.the-table-gave-way" | false=>pure ()) Q1 E s1:=fun b s1 Q1 y=>by
     cases b
     . exact Ab y
     exact Cs y
   have tail:∀ t2:SetTable,t2.fits es1.size=true->t2.plain=false->t2.led=t1.led->wpAny (model prog w) A (do
       storeSet a es1 t2
       if (!wd&&t2.tooFull)=true then do
           (match (relayAll t2 es1<|SetTable.grown es1.size).2.2 with | true=>rule "set.scan.the-table-gave-way" | false=>pure ())
           storeSet a (relayAll t2 es1<|SetTable.grown es1.size).1 (relayAll t2 es1<|SetTable.grown es1.size).2.1
           pure (some true)
         else pure (some true)) (fun r s1=>r=some true/\∃ h',s1={ s with heap:=h' }/\Be a s.heap h'/\SetD (strKind prog w) h' a (fun y=>S y || decide (y=z)) (n+1)) E s:=fun t2 f2 p2 l2=>by
     rw[<-l2] at k7;refine Aa<|DD g gd ?_<|DE m3;obtain⟨g1,x1⟩:=zgk (knd:=strKind prog w) g gx gd m1 m2 m3 f2 sz p2 k7;have b1:=AQ s.heap a<|Dy es1 t2
     split
     . have rp:=relayAll_perm t2 es1<|SetTable.grown es1.size;have rf:=relayAll_fits t2 es1<|SetTable.grown es1.size;have rq:=ziD (es:=es1) (n:=SetTable.grown es1.size) p2;have rl:=zlB (t:=t2) (es:=es1) (n:=SetTable.grown es1.size);rw[<-rl] at k7;generalize relayAll t2 es1 (SetTable.grown es1.size)=Rl at rp rf rq k7 ⊢;obtain⟨es2,t3,gv2⟩:=Rl;dsimp only at rp rf rq k7 ⊢;have s2:es2.size=es1.size:=by rw[<-Au,rp.length_eq,Au]
       have n2:∀ y,(S y || decide (y=z))=true ↔ ∃ e∈es2.toList,(strKind prog w).is y e.2=true:=fun y=>(m2 y).trans ⟨fun⟨e,he,u⟩=>⟨e,rp.mem_iff.mpr he,u⟩,fun⟨e,he,u⟩=>⟨e,rp.mem_iff.mp he,u⟩⟩;refine Aa<|gw _<|Aa<|DD g1 rfl ?_<|DE (by rw[s2];exact m3);obtain⟨_,x2⟩:=zgk (knd:=strKind prog w) (n:=n+1) g1 gx rfl (m1.perm rp) n2 (s2 ▸ m3) rf (s2.trans sz) rq k7;exact Ab ⟨rfl,_,rfl,b1.trans<|AQ _ a _,x2⟩
     exact Ab ⟨rfl,_,rfl,b1,x1⟩
   have go:∀ t2:SetTable,t2.fits es1.size=true->t2.plain=false->t2.led=t1.led->wpAny (model prog w) A ((do
       storeSet a es1 t2
       if (!wd&&t2.tooFull)=true then do
           (match (relayAll t2 es1<|SetTable.grown es1.size).2.2 with | true=>rule "set.scan.the-table-gave-way" | false=>pure ())
           storeSet a (relayAll t2 es1<|SetTable.grown es1.size).1 (relayAll t2 es1<|SetTable.grown es1.size).2.1
           pure (some true)
         else pure (some true))) (fun r s1=>wpAny (model prog w) A (match r with | some added=>pure added | none=>setAddHashedIn a (.str z tk) ((strKind prog w).hash z) 99999) Q E s1) E s:=fun t2 f2 p2 l2=>BG (tail t2 f2 p2 l2) (fun r s1 ⟨e,h',e1,b,y⟩=>by subst e e1;exact Ab (fin h' b y)) fun _ _ e=>e
   refine Aa<|gw _ ?_
   split
   . refine Aa<|Ab ?_;exact go _ (SetTable.fits_plain_off lf) rfl rfl
   rename_i np;refine Aa<|Ab ?_;exact go _ lf (by simpa using np) rfl
end
open PyProof.Rows
variable {α:Type}
def ze8{α:Type}:∀ {l:List α} {i:Nat} (h:i < l.length),(l[i]::l.eraseIdx i).Perm l
 | x::l,0,h=>C2 _
 | x::l,i+1,h=>by rw[List.eraseIdx_cons_succ,List.getElem_cons_succ];exact (Hv _ _ _).trans<|FW _<|ze8<|by simpa using h
def zmM{α:Type}(next:Nat->Nat):∀ (f k:Nat) (left:List α) (out:Array α),f=left.length->(GC next f k left out).toList.Perm (out.toList++left)
 | 0,k,left,out,e=>by have:left=[]:=List.length_eq_zero_iff.mp e.symm;subst this;unfold GC;simp
 | f+1,k,left,out,e=>by have hl:next k % left.length < left.length:=D7 _ (by omega);unfold GC;rw[Ak hl];dsimp only;refine (zmM next f (k+1) _ _ (by rw[Ez hl];omega)).trans ?_;rw[EG,Av];exact List.Perm.append_left _<|ze8 hl
def zh0(next:Nat->Nat)(xs:Array α):(pickOrder next xs).toList.Perm xs.toList:=by have:=zmM next xs.size 0 xs.toList #[] (by simp);simpa[pickOrder] using this
def zm7{α:Type}{Mq:Model}{A:Around}{E:Value->Shared->Prop}:∀ (n:Nat) (xs:List α) (s:Shared) (Q:List α->Shared->Prop),n=xs.length->(∀ ys d,ys.Perm xs->Q ys { s with drawn:=d })->wpAny Mq A (drawOrder n xs) Q E s
 | 0,xs,s,Q,e,h=>by have:xs=[]:=List.length_eq_zero_iff.mp e.symm;subst this;exact Ab<|h [] s.drawn<|C2 _
 | n+1,[],s,Q,e,h=>by cases e
 | n+1,x::xs,s,Q,e,h=>by
   unfold drawOrder;refine Aa fun Γ p hΓ=>⟨by simp,?_⟩
   generalize hi:Mq.w.draws .order (s.drawn.get .order) % (x::xs).length=i;have hl:i < (x::xs).length:=by rw[<-hi];exact D7 _<|by simp
   show wpAny Mq A (match (x::xs)[i]? with | some y=>(do return y::(<-drawOrder n ((x::xs).eraseIdx i))) | none=>unsupported "internal:drawOrder") Q E { s with drawn:=s.drawn.bump .order };rw[Ak hl];dsimp only;refine Aa<|zm7 n _ _ _ (by rw[Ez hl];simp at e ⊢;omega) fun ys d hp=>Ab (h _ d ?_);exact (FW _ hp).trans<|ze8 hl
def za3:Slot "set_iterator" "__next__" "set_iterator.__next__":=.of (owner:="set_iterator") (n:="__next__") (by rw[D6,C1];kernel_rfl) (by decide +kernel) (by decide +kernel) (by decide +kernel) (by first | exact .inl (by decide +kernel) | exact .inr (by decide +kernel)) (by rw[FX];kernel_rfl)
def zcJ:Slot "set_iterator" "__iter__" "set_iterator.__iter__":=.of (owner:="set_iterator") (n:="__iter__") (by rw[D6,C1];kernel_rfl) (by decide +kernel) (by decide +kernel) (by decide +kernel) (by first | exact .inl (by decide +kernel) | exact .inr (by decide +kernel)) (by rw[FX];kernel_rfl)
def zcx:entryFor table "set_iterator.__next__"=some Builtin.«set_iterator.__next__»:=entryFor_of_tree<|by kernel_rfl
def zcP(a:Value):argsOk "set_iterator.__next__" ⟨[a],[]⟩:=by unfold argsOk;kernel_rfl
def zf7:entryFor table "set.__iter__"=some Builtin.«frozenset.__iter__»:=entryFor_alias (id':="frozenset.__iter__") (by kernel_rfl) rfl (by decide +kernel) (by kernel_rfl)
variable {I:Addr}{first:Value}{i:Nat}
def zi0(I a:Addr)(first:Value)(n ep i:Nat)(h:Heap):Prop:=∃ o,h.get? I=some o/\o.cls=.type "set_iterator"/\o.data=.fields #[first,.int i 0,.ref a,.int n 0,.int ep 0]
def zi0.ty(x:zi0 I a first n ep i s.heap):s.TypeIs (.ref I) "set_iterator":=let ⟨o,e,c,_⟩:=x;⟨o,e,c⟩
inductive WalkAt (w:World) (a:Addr) (es:Array (Int×Value)) (ep:Nat) (vs:List Value):Value->Heap->Prop
 | text {h:Heap} (hb:w.params.followText "set-order"=true) (e:vs=(pickOrder (w.params.setOrder a ep) es).toList.map (·.2)):WalkAt w a es ep vs (.int 0 0) h
 | drawn {h:Heap} {T:Addr} {ps:List Nat} (hT:IsTup h T (ps.map fun (i:Nat)=>rawInt i).toArray) (hl:ps.length=vs.length) (e:∀ (i p:Nat),ps[i]?=some p->∃ q:Int×Value,es[p]?=some q/\vs[i]?=some q.2):WalkAt w a es ep vs (.ref T) h
variable {Q:Option Value->Shared->Prop}{vs:List Value}{h':Heap}
def znE(hI:zi0 I a first n ep i s.heap)(ho:s.heap.get? a=some o)(hd:o.data=.set es ep t)(hf:t.fits es.size=true)(hn:es.size=n)
   (hw:WalkAt w a es ep vs first s.heap) (hx:vs[i]?=some x) (hQ:∀ h',zi0 I a first n ep (i+1) h'->Be I s.heap h'->Q (some x) { s with heap:=h' }):wpAny (model prog w) A (pyNext<|.ref I) Q E s:=by
 obtain⟨oI,eI,cI,dI⟩:=id hI;unfold pyNext;refine Aa (BW<|AO (name:=Bf "__next__") hI.ty za3<|AG za3 hI.ty zcx ?_<|zcP _);unfold Builtin.«set_iterator.__next__»;refine Aa<|Ab ?_;refine Aa<|Cb eI dI ?_;dsimp only;refine Aa<|CF ho hd hf ?_;rw[if_neg (by rw[hn];simp)];have hIa:a≠I:=fun z=>by subst z;rw[ho] at eI;cases eI;rw[hd] at dI;cases dI
 cases hw with
 | text hb e =>
   dsimp only;subst e;rw[AB] at hx;obtain⟨q,hq,rfl⟩:=zaj hx;unfold setNext;refine Aa<|Aa<|A2 ho hd hf ?_;unfold setsByText;refine Aa<|Aa<|BE<|Ab ?_;refine Bt (fun _=>?_) fun z=>absurd hb z;dsimp only;rw[if_neg (by simp)];unfold setWalk;refine Aa<|Aa<|A2 ho hd hf ?_;unfold setsByText;refine Aa<|Aa<|BE<|Ab ?_;refine Bt (fun _=>?_) fun z=>absurd hb z;refine Aa<|BE<|Ab<|Ab ?_;have:(pickOrder (w.params.setOrder a ep) es)[(i:Int).toNat]?=some q:=by rw[Ba,<-AD];exact hq
   show wpAny _ _ (match ((pickOrder (w.params.setOrder a ep) es)[(i:Int).toNat]?).map fun e=>(e.2,(0:Int).toNat) with | some (x,next)=>_ | none=>_) _ _ _;rw[this];show wpAny _ _ (setField (AC I) 0 (rawInt 0) >>= _) _ _ _;refine Aa<|Br eI dI (by simp) ?_;have e2:=A3 (DP (·.setIfInBounds 0 (rawInt 0))) eI<|BB<|AL dI _;refine Aa<|Br e2 (AL dI _) (by simp)<|Ab ⟨q.2,rfl,Ab<|hQ _ ?_<|(AQ ..).trans<|AQ ..⟩;refine⟨_,A3 _ e2<|BB<|AL (AL dI _) _,?_,?_⟩
   . rw[B3,B3];exact cI
   rw[AL (AL dI _)];simp[rawInt]
 | drawn hT hl e =>
   rename_i T ps;dsimp only;obtain⟨oT,eT,cT,m,dT⟩:=hT;refine Aa<|BA eT dT ?_;have hi:i < ps.length:=by rw[hl];exact (List.getElem?_eq_some_iff.mp hx).1
   obtain⟨q,h1,h2⟩:=e i _<|Ak hi;rw[h2] at hx;cases hx;have:((ps.map fun (i:Nat)=>rawInt i).toArray)[(i:Int).toNat]?=some (rawInt (ps[i]:Nat)):=by simp[hi]
   dsimp only;rw[this];show wpAny _ _ (setNextDrawn a ((ps[i]:Nat):Int).toNat _ >>= _) _ _ _;unfold setNextDrawn;refine Aa<|Aa<|A2 ho hd hf ?_;dsimp only;rw[if_neg (by simp),Ba,h1];refine Ab ?_;refine Aa<|Br eI dI (by simp)<|Ab ⟨q.2,rfl,Ab<|hQ _ ?_<|AQ ..⟩;refine⟨_,A3 _ eI<|BB<|AL dI _,(B3 ..).trans cI,?_⟩;rw[AL dI];simp[rawInt]
def zmz{h':Heap}(hh:A.handled=none)(hQ:∀ h',Cg I s.heap h'->Q none { s with heap:=h' })(hk:Cg I s.heap h') :
   wpAny (model prog w) A.in1 (newExc (.type "StopIteration") [] >>= fun e=>(raiseNew e:Sem Fin)) (fun fin s'=>∃ v,fin=HG (HI v)/\wpAny (model prog w) A (pure<|some v) Q E s') (fun e s'=>wpAny (model prog w) A (isInstance e (Cr "StopIteration") >>= fun b=>if b=true then pure none else throw e) Q E s') { s with heap:=h' }:=by
 refine Aa ?_;simp only[newExc,newTuple];refine Aa (AF (Aa (m:=firstArgMember _ _)<|Eg (a:=AZ) (by first | rfl | (simp only[firstArgMember];rfl))<|AF ?_<|by size_fits)<|by size_fits);simp only[raiseNew];refine Aa<|Ex ?_;rw[show A.in1.handled=none from hh];refine Aa<|Ab<|FI ?_;refine Aa (C6 (T:="StopIteration") (b:=true) ⟨_,Al _ rfl,rfl⟩ Ee ?_);exact Ab<|hQ _<|(hk.push _).push _
def zpP(hh:A.handled=none)(hI:zi0 I a first n ep i s.heap)(ho:s.heap.get? a=some o)(hd:o.data=.set es ep t)(hf:t.fits es.size=true)(hn:es.size=n)
   (hw:WalkAt w a es ep vs first s.heap) (hx:vs[i]?=none) (hQ:∀ h',Cg I s.heap h'->Q none { s with heap:=h' }):wpAny (model prog w) A (pyNext<|.ref I) Q E s:=by
 obtain⟨oI,eI,cI,dI⟩:=id hI;unfold pyNext;refine Aa (BW<|AO (name:=Bf "__next__") hI.ty za3<|AG za3 hI.ty zcx ?_<|zcP _);unfold Builtin.«set_iterator.__next__»;refine Aa<|Ab ?_;refine Aa<|Cb eI dI ?_;dsimp only;refine Aa<|CF ho hd hf ?_;rw[if_neg (by rw[hn];simp)];have fin:=fun (h':Heap) (hk:Cg I s.heap h')=>zmz (prog:=prog) (w:=w) (E:=E) hh hQ hk
 cases hw with
 | text hb e =>
   dsimp only;subst e;rw[AB] at hx;have hq:(pickOrder (w.params.setOrder a ep) es).toList[i]?=none:=by
     cases hz:(pickOrder (w.params.setOrder a ep) es).toList[i]? with
     | none=>rfl
     | some z=>rw[hz] at hx;cases hx
   unfold setNext;refine Aa<|Aa<|A2 ho hd hf ?_;unfold setsByText;refine Aa<|Aa<|BE<|Ab ?_;refine Bt (fun _=>?_) fun z=>absurd hb z;dsimp only;rw[if_neg (by simp)];unfold setWalk;refine Aa<|Aa<|A2 ho hd hf ?_;unfold setsByText;refine Aa<|Aa<|BE<|Ab ?_;refine Bt (fun _=>?_) fun z=>absurd hb z;refine Aa<|BE<|Ab<|Ab ?_;have:(pickOrder (w.params.setOrder a ep) es)[(i:Int).toNat]?=none:=by rw[Ba,<-AD];exact hq
   show wpAny _ _ (match ((pickOrder (w.params.setOrder a ep) es)[(i:Int).toNat]?).map fun e=>(e.2,(0:Int).toNat) with | some (x,next)=>_ | none=>_) _ _ _;rw[this];show wpAny _ _ (setField (AC I) 2 AZ >>= _) _ _ _;exact Aa<|Br eI dI (by simp)<|fin _ (AQ ..).extBut
 | drawn hT hl e =>
   rename_i T ps;dsimp only;obtain⟨oT,eT,cT,m,dT⟩:=hT;refine Aa<|BA eT dT ?_;have hi:ps.length<=i:=by rw[hl];exact List.getElem?_eq_none_iff.mp hx
   have:((ps.map fun (i:Nat)=>rawInt i).toArray)[(i:Int).toNat]?=none:=by simp[hi]
   dsimp only;rw[this];show wpAny _ _ (setField (AC I) 0 (rawInt 0) >>= _) _ _ _;refine Aa<|Br eI dI (by simp) ?_;have e2:=A3 (DP (·.setIfInBounds 0 (rawInt 0))) eI<|BB<|AL dI _;exact Aa<|Br e2 (AL dI _) (by simp)<|fin _ ((AQ ..).trans<|AQ ..).extBut
def zjz{ps:List Nat}(h:ps.Perm (AV es.size)):∃ vs:List Value,vs.Perm (es.toList.map (·.2))/\ps.length=vs.length/\∀ (i p:Nat),ps[i]?=some p->∃ q:Int×Value,es[p]?=some q/\vs[i]?=some q.2:=by
 refine⟨ps.map fun p=>(es.getD p (0,.none)).2,?_,by simp,fun i p hp=>?_⟩
 . refine (h.map _).trans<|List.Perm.of_eq ?_;apply GR;intro i;rw[AB,AB]
   by_cases hi:i < es.size
   . rw[Dc hi];simp[hi]
   rw[C3 (by simp;omega)];simp[hi]
 . have hm:p < es.size:=by
     have:=h.mem_iff.mp<|AW hp;simpa using this
   refine⟨es[p],by simp[hm],?_⟩;rw[AB,hp];simp[hm]
def zdS:entryFor table "set_iterator.__iter__"=some Builtin.«dict_keyiterator.__iter__»:=entryFor_alias (id':="dict_keyiterator.__iter__") (by kernel_rfl) rfl (by decide +kernel) (by kernel_rfl)
def zeq(a:Value):argsOk "set_iterator.__iter__" ⟨[a],[]⟩:=by unfold argsOk;kernel_rfl
def zkY(I a:Addr):Value->List Addr
 | .ref T=>[I,a,T]
 | _=>[I,a]
def zts(a:Addr)(es:Array (Int×Value))(ep:Nat)(t:SetTable)(h:Heap):Prop:=∃ o,h.get? a=some o/\o.data=.set es ep t
def WalkAt.on{a:Addr}{first:Value}{I:Addr}(x:WalkAt w a es ep vs first h)(k:∀ b∈zkY I a first,∀ o,h.get? b=some o->h'.get? b=some o):WalkAt w a es ep vs first h':=by
 cases x with
 | text hb e=>exact .text hb e
 | drawn hT hl e =>
   obtain⟨o,e1,r⟩:=hT;exact .drawn ⟨o,k _ (by simp[zkY]) o e1,r⟩ hl e
def WalkAt.apart(x:WalkAt w a es ep vs first h)(y:zi0 I a first n ep i h)(k:∀ b o,b ∉ [I]->h.get? b=some o->h'.get? b=some o):WalkAt w a es ep vs first h':=by
 cases x with
 | text hb e=>exact .text hb e
 | drawn hT hl e =>
   obtain⟨o,e1,c1,r⟩:=hT;obtain⟨o2,e2,c2,_⟩:=y;refine .drawn ⟨o,k _ o (fun z=>?_) e1,c1,r⟩ hl e;rw[List.mem_singleton.mp z,e2] at e1;cases e1;rw[c2] at c1;exact absurd (Value.type.inj c1)<|by decide
def zhG(hh:A.handled=none)(hf:t.fits es.size=true)(hn:es.size=n)(hv:vs.length=n)(hne:a≠I) :
   Walks prog w A I (zkY I a first) [I] n (fun i v=>vs[i]?=some v) (fun i h=>zi0 I a first n ep i h/\zts a es ep t h/\WalkAt w a es ep vs first h) where
 sub:=fun b hb=>by
   rw[List.mem_singleton.mp hb];unfold zkY
   split <;> simp
 frame:=fun i h h' ⟨⟨o,e,r⟩,⟨o2,e2,r2⟩,x⟩ k=>⟨⟨o,k I (by unfold zkY;split <;> simp) o e,r⟩,⟨o2,k a (by unfold zkY;split <;> simp) o2 e2,r2⟩,x.on k⟩
 item:=fun i s Q E hi ⟨st,⟨o,e,d⟩,x⟩ hQ=>by have hx:vs[i]?=some vs[i]:=Ak (by omega);refine znE st e d hf hn x hx fun h' st' sb=>?_;have k:∀ b o,b ∉ [I]->s.heap.get? b=some o->h'.get? b=some o:=fun b o hb e=>sb.extBut b o (fun z=>hb (by simp[z])) e;exact hQ _ h' s.toks hx ⟨st',⟨o,k _ _ (by simpa using hne) e,d⟩,x.apart st k⟩ k
 done:=fun s Q E ⟨st,⟨o,e,d⟩,x⟩ hQ=>zpP hh st e d hf hn x (C3<|by omega) fun h' he=>hQ h' s.toks fun b o hb e=>he b o (fun z=>hb (by simp[z])) e
 self:=fun i s Q E ⟨st,_,_⟩ hQ=>by refine CV st.ty zcJ<|AG zcJ st.ty zdS ?_<|zeq _;show wpAny _ _ (ret<|.ref I) _ _ s;exact Ab ⟨_,rfl,"set_iterator",_,st.ty,za3.lookup,hQ⟩
inductive IterOk (prog:Program) (w:World) (s:Shared) (a:Addr) (es:Array (Int×Value)) (n:Nat) (h':Heap) (I:Addr) (vs:List Value):Prop
 | mk (fp:List Addr) (St:Nat->Heap->Prop) (k:∀ b u,s.heap.get? b=some u->h'.get? b=some u) (hI:s.heap.objs.size<=I) (W:∀ A:Around,A.handled=none->Walks prog w A I fp [I] n (fun i v=>vs[i]?=some v) St) (st:St 0 h') (hfp:∀ b∈fp,b=a\/s.heap.objs.size<=b) (pv:vs.Perm (es.toList.map (·.2)))
def zoG{r:Addr}{Q:Bool->Shared->Prop}(hT:s.TypeIs (.ref r) "set")(h:Q false s):wpAny (model prog w) A (Eo<|.ref r) Q E s:=by
 unfold Eo;refine Aa<|Fo hT F.slot_set_len.lookup ?_;generalize hid:("set.__len__":String)=id0
 wp_delta
 rw[show splitId id0=some ("set","__len__") from by subst hid;decide +kernel];subst hid;refine Aa (C6 (T:="set") (b:=true) hT (by rw[FX];kernel_rfl)<|Bt (fun z=>absurd z (by decide)) fun _=>Bt (fun _=>?_) fun z=>absurd (by decide +kernel) z);exact Aa<|BZ hT<|Ab h
end L2.MP
namespace L2.MP.ST
open PySem PySem.SetTable
def Rise(xs:Array Nat):Prop:=∀ i j,i < j->j < xs.size->xs.getD i 0 < xs.getD j 0
def getD_in{xs:Array Nat}{i a b:Nat}(h:i < xs.size):xs.getD i a=xs.getD i b:=by simp[EN,h]
def zhE{xs:Array Nat}{j:Nat}(R:Rise xs):∀ (f lo hi:Nat),hi - lo<=f->lo<=hi->hi<=xs.size->(∀ i,i < lo->xs.getD i 0 < j)->(∀ i,hi<=i->i < xs.size->j<=xs.getD i 0) ->
   below.go xs j f lo hi<=xs.size/\(∀ i,i < below.go xs j f lo hi->xs.getD i 0 < j)/\∀ i,below.go xs j f lo hi<=i->i < xs.size->j<=xs.getD i 0
 | 0,lo,hi,hf,h1,h2,h3,h4=>by
   have:lo=hi:=by omega
   subst this;exact⟨h2,h3,h4⟩
 | f+1,lo,hi,hf,h1,h2,h3,h4=>by
   unfold below.go
   by_cases c:lo < hi
   . rw[if_pos c];dsimp only;have hm:(lo+hi) / 2 < xs.size:=by omega
     rw[getD_in (b:=0) hm]
     by_cases d:xs.getD ((lo+hi) / 2) 0 < j
     . rw[if_pos d];refine zhE R f _ hi (by omega) (by omega) h2 (fun i hi'=>?_) h4
       by_cases e:i=(lo+hi) / 2
       . rw[e];exact d
       exact CA (R i ((lo+hi) / 2) (by omega) hm) d
     . rw[if_neg d];refine zhE R f lo _ (by omega) (by omega) (by omega) h3 fun i hi' hs=>?_
       by_cases e:i=(lo+hi) / 2
       . rw[e];omega
       have:=R ((lo+hi) / 2) i (by omega) hs;omega
   . rw[if_neg c];have:lo=hi:=by omega
     subst this;exact⟨h2,h3,h4⟩
def below_spec{xs:Array Nat}{j:Nat}(R:Rise xs):below xs j<=xs.size/\(∀ i,i < below xs j->xs.getD i 0 < j)/\∀ i,below xs j<=i->i < xs.size->j<=xs.getD i 0 :=
 zhE R xs.size 0 xs.size (by omega) (AY _) (Af _) (fun i h=>by omega) fun i h1 h2=>by omega
def below_at{xs:Array Nat}{i j:Nat}(R:Rise xs)(h:xs[i]?=some j):below xs j=i:=by
 obtain⟨b1,b2,b3⟩:=below_spec (j:=j) R;have hi:i < xs.size:=by
   by_cases c:i < xs.size
   . exact c
   rw[DL (by omega)] at h;cases h
 have hv:xs.getD i 0=j:=by simp[h]
 generalize below xs j=r at *
 by_cases c:i < r
 . have:=b2 i c;omega
 . by_cases d:r < i
   . have:=R r i d hi;have:=b3 r (Af _) (by omega);omega
   omega
end L2.MP.ST
namespace L2.MP
open PySem PySem.Spec PyProof.Rows
variable {I a:Addr}{ep n i sl:Nat}{o:Obj}{es:Array (Int×Value)}{t:SetTable}{Q:Option Value->Shared->Prop}
section
variable {prog:Program} {w:World} {A:Around} {E:Value->Shared->Prop} {s:Shared}
def znL{x:Int×Value}{k:Nat}(hb:w.params.followText "set-order"=false)(hl:t.led=true)(hI:zi0 I a (.int (sl:Int) 0) n ep i s.heap)(ho:s.heap.get? a=some o)(hd:o.data=.set es ep t)(hf:t.fits es.size=true)(hn:es.size=n)(hdr:(!t.plain&&decide (es.size > 1))=false)(hs:SetTable.below t.place sl=i)
   (hx:es[i]?=some x) (hk:t.place[i]?=some k) (hQ:∀ h',zi0 I a (.int ((k+1:Nat):Int) 0) n ep (i+1) h'->Be I s.heap h'->Q (some x.2) { s with heap:=h' }):wpAny (model prog w) A (pyNext<|.ref I) Q E s:=by
 obtain⟨oI,eI,cI,dI⟩:=id hI;unfold pyNext;refine Aa (BW<|AO (name:=Bf "__next__") hI.ty za3<|AG za3 hI.ty zcx ?_<|zcP _);unfold Builtin.«set_iterator.__next__»;refine Aa<|Ab ?_;refine Aa<|Cb eI dI ?_;dsimp only;refine Aa<|CF ho hd hf ?_;rw[if_neg (by rw[hn];simp)];unfold setNext;refine Aa<|Aa<|A2 ho hd hf ?_;unfold setsByText;refine Aa<|Aa<|BE<|Ab ?_;refine Bt (fun z=>absurd (show w.params.followText "set-order"=true from z) (by rw[hb];simp)) (fun _=>?_);dsimp only;refine Bt (fun z=>?_) fun _=>?_
 . have z':(!t.plain&&decide (es.size > 1))=true:=z;rw[hdr] at z';cases z'
 refine Aa (show wpAny _ _ (if (!t.led&&!es.isEmpty)=true then unsupported "set:maker-not-led" else pure ()) _ _ _ from ?_);rw[hl];refine Ab<|Ab ?_;rw[Ba,hs,hx,hk];show wpAny _ _ (setField (AC I) 0 (rawInt ((k+1:Nat):Int)) >>= _) _ _ _;refine Aa<|Br eI dI (by simp) ?_;have e2:=A3 (DP (·.setIfInBounds 0 (rawInt ((k+1:Nat):Int)))) eI<|BB<|AL dI _;refine Aa<|Br e2 (AL dI _) (by simp)<|Ab ⟨x.2,rfl,Ab<|hQ _ ?_<|(AQ ..).trans<|AQ ..⟩;refine⟨_,A3 _ e2<|BB<|AL (AL dI _) _,?_,?_⟩
 . rw[B3,B3];exact cI
 rw[AL (AL dI _)];simp[rawInt]
def zqi(hh:A.handled=none)(hb:w.params.followText "set-order"=false)(hl:t.led=true)(hI:zi0 I a (.int (sl:Int) 0) n ep i s.heap)(ho:s.heap.get? a=some o)(hd:o.data=.set es ep t)(hf:t.fits es.size=true)(hn:es.size=n)(hdr:(!t.plain&&decide (es.size > 1))=false)
   (hx:es[SetTable.below t.place sl]?=none) (hQ:∀ h',Cg I s.heap h'->Q none { s with heap:=h' }):wpAny (model prog w) A (pyNext<|.ref I) Q E s:=by
 obtain⟨oI,eI,cI,dI⟩:=id hI;unfold pyNext;refine Aa (BW<|AO (name:=Bf "__next__") hI.ty za3<|AG za3 hI.ty zcx ?_<|zcP _);unfold Builtin.«set_iterator.__next__»;refine Aa<|Ab ?_;refine Aa<|Cb eI dI ?_;dsimp only;refine Aa<|CF ho hd hf ?_;rw[if_neg (by rw[hn];simp)];unfold setNext;refine Aa<|Aa<|A2 ho hd hf ?_;unfold setsByText;refine Aa<|Aa<|BE<|Ab ?_;refine Bt (fun z=>absurd (show w.params.followText "set-order"=true from z) (by rw[hb];simp)) (fun _=>?_);dsimp only;refine Bt (fun z=>?_) fun _=>?_
 . have z':(!t.plain&&decide (es.size > 1))=true:=z;rw[hdr] at z';cases z'
 refine Aa (show wpAny _ _ (if (!t.led&&!es.isEmpty)=true then unsupported "set:maker-not-led" else pure ()) _ _ _ from ?_);rw[hl];refine Ab<|Ab ?_;rw[Ba,hx];show wpAny _ _ (setField (AC I) 2 AZ >>= _) _ _ _;exact Aa<|Br eI dI (by simp)<|zmz hh (hQ:=hQ) (AQ ..).extBut
def zle(t:SetTable)(i:Nat):Nat:=if i=0 then 0 else t.place.getD (i - 1) 0+1
def zgO(R:ST.Rise t.place)(hi:i<=t.place.size):SetTable.below t.place (zle t i)=i:=by
 obtain⟨b1,b2,b3⟩:=ST.below_spec (j:=zle t i) R;generalize hr:SetTable.below t.place (zle t i)=r at *
 cases i with
 | zero =>
   by_cases c:0 < r
   . have:=b2 0 c;simp[zle] at this
   omega
 | succ i =>
   have e:zle t (i+1)=t.place.getD i 0+1:=by simp[zle]
   rw[e] at b2 b3
   by_cases c:r<=i
   . have:=b3 i c (by omega);omega
   . by_cases d:i+1 < r
     . have h1:=b2 (i+1) d;have h2:=R i (i+1) (by omega) (by omega);omega
     omega
def zk1(hh:A.handled=none){vs:List Value}(R:ST.Rise t.place)(hb:w.params.followText "set-order"=false)(hl:t.led=true)(hdr:(!t.plain&&decide (es.size > 1))=false)(hf:t.fits es.size=true)(hn:es.size=n)(hv:vs=es.toList.map (·.2))(hne:a≠I) :
   Walks prog w A I [I,a] [I] n (fun i v=>vs[i]?=some v) (fun i h=>zi0 I a (.int (zle t i:Int) 0) n ep i h/\zts a es ep t h) where
 sub:=fun b hb=>by rw[List.mem_singleton.mp hb];simp
 frame:=fun i h h' ⟨⟨o,e,r⟩,o2,e2,r2⟩ k=>⟨⟨o,k I (by simp) o e,r⟩,o2,k a (by simp) o2 e2,r2⟩
 item:=fun i s Q E hi ⟨st,o,e,d⟩ hQ=>by
   have hp:t.place.size=n:=by have:=hf;unfold SetTable.fits at this;rw[An] at this;rw[<-hn];simpa using this.1
   have hx:es[i]?=some es[i]:=AU (by omega);have hk:t.place[i]?=some t.place[i]:=AU (by omega);refine znL hb hl st e d hf hn hdr (zgO R<|by omega) hx hk fun h' st' sb=>?_;have k:∀ b o,b ∉ [I]->s.heap.get? b=some o->h'.get? b=some o:=fun b o hb e=>sb.extBut b o (fun z=>hb (by simp[z])) e;refine hQ _ h' s.toks ?_ ⟨?_,o,k _ _ (by simpa using hne) e,d⟩ k
   . rw[hv,AB,AD,hx];rfl
   . have:zle t (i+1)=t.place[i]+1:=by unfold zle;simp[BS,hk]
     rw[this];exact st'
 done:=fun s Q E ⟨st,o,e,d⟩ hQ=>by
   have hp:t.place.size=n:=by have:=hf;unfold SetTable.fits at this;rw[An] at this;rw[<-hn];simpa using this.1
   refine zqi hh hb hl st e d hf hn hdr ?_ fun h' he=>hQ h' s.toks fun b o hb e=>he b o (fun z=>hb (by simp[z])) e;rw[zgO R (by omega)];exact DL<|by omega
 self:=fun i s Q E ⟨st,_⟩ hQ=>by refine CV st.ty zcJ<|AG zcJ st.ty zdS ?_<|zeq _;show wpAny _ _ (ret<|.ref I) _ _ s;exact Ab ⟨_,rfl,"set_iterator",_,st.ty,za3.lookup,hQ⟩
def zll{Q:Value->Shared->Prop}(ho:s.heap.get? a=some o)(hx:o.ExactSet)(hd:o.data=.set es ep t)(hf:t.fits es.size=true)(hn:es.size=n)(h3:n < 4096)(hp:t.plain=false\/ST.Rise t.place)(hled:w.params.followText "set-order"=true\/t.led=true)
   (hQ:∀ h' d I vs,IterOk prog w s a es n h' I vs->Q (.ref I) { s with heap:=h',drawn:=d }):wpAny (model prog w) A (pyIter<|.ref a) Q E s:=by
 have ty:s.TypeIs (.ref a) "set":=⟨o,ho,hx.1⟩
 refine CV ty F.slot_set_iter<|AG F.slot_set_iter ty zf7 ?_<|F.args_set_iter_1 _;unfold Builtin.«frozenset.__iter__» HN slotArgs;simp only[List.isEmpty_nil,CK,Aw,↓reduceIte,bind_assoc,BH,bne_self_eq_false];unfold HJ HK;refine Aa<|Ab ?_;dsimp only;refine Aa<|Ab ?_;refine Aa<|Aa<|CF ho hd hf<|Ab ?_;unfold setDrawn;refine Aa<|Aa<|A2 ho hd hf ?_;dsimp only;unfold setsByText;refine Aa<|Aa<|BE<|Ab<|Ab ?_;have lay:∀ (first:Value) (vs:List Value) (h':Heap) (d:Drawn),(∀ b u,s.heap.get? b=some u->h'.get? b=some u)->(∀ h2:Heap,(∀ b u,h'.get? b=some u->h2.get? b=some u)->zi0 h'.objs.size a first n ep 0 h2->zts a es ep t h2->IterOk prog w s a es n h2 h'.objs.size vs) ->
     wpAny (model prog w) A.in1 (setEpoch a >>= fun e=>newFields "set_iterator" [first,rawInt 0,.ref a,rawInt es.size,rawInt e] >>= fun v=>(ret v:Sem Fin)) (fun fin s'=>∃ v,fin=HG (HI v)/\∃ T' r,s'.TypeIs v T'/\typeLookup (.type T') (Bf "__next__")=pure (some r)/\Q v s') E { s with heap:=h',drawn:=d }:=fun first vs h' d hk hw=>by
   unfold setEpoch;refine Aa<|Aa<|A2 (hk _ _ ho) hd hf<|Ab ?_;refine Aa (AF<|Ab ⟨_,rfl,"set_iterator",_,⟨_,Al _ rfl,rfl⟩,za3.lookup,?_⟩);subst hn;exact hQ _ d _ vs<|hw _ (fun b u e=>Ad _ e) ⟨_,Al _ rfl,rfl,rfl⟩ ⟨o,Ad _<|hk _ _ ho,hd⟩
 have hlt:a < s.heap.objs.size:=Am ho;have lenP:∀ {vs:List Value},vs.Perm (es.toList.map (·.2))->vs.length=n:=fun pv=>by rw[pv.length_eq,Ai,Au];exact hn
 refine Bt (fun z=>?_) fun z=>?_
 . refine Aa<|zm7 _ _ _ _ (by simp) fun ps d hps=>?_;obtain⟨vs,v1,v2,v3⟩:=zjz hps;have hl:ps.length=n:=by rw[hps.length_eq,CT,hn]
   refine Aa<|AF ?_ (by show _<=_;simp[hl];unfold sizeLine;omega);have sz:(s.heap.push { cls:=.type "tuple",data:=.seq (ps.map fun (i:Nat)=>rawInt i).toArray }).objs.size=s.heap.objs.size+1:=A4 ..;refine lay _ vs _ d (fun b u e=>Ad _ e) fun h2 k si sa=>?_;have hI:s.heap.objs.size<=(s.heap.push { cls:=.type "tuple",data:=.seq (ps.map fun (i:Nat)=>rawInt i).toArray }).objs.size:=by rw[sz];exact BM _
   refine .mk (zkY _ a<|.ref s.heap.objs.size) _ (fun b u e=>k b u (Ad _ e)) hI (fun A hA=>zhG hA hf hn (lenP v1) (Ap<|Ay hlt hI)) ⟨si,sa,.drawn ⟨_,k _ _<|Al _ rfl,rfl,_,rfl⟩ v2 v3⟩ (fun b hb=>?_) v1;unfold zkY at hb;simp only[AI,AM,or_false] at hb
   rcases hb with rfl | rfl | rfl
   . exact .inr hI
   . exact .inl rfl
   exact .inr<|Af _
 . refine Aa (Ab ?_)
   cases hb:w.params.followText "set-order" with
   | true =>
     refine lay _ ((pickOrder (w.params.setOrder a ep) es).toList.map (·.2)) s.heap s.drawn (fun _ _ e=>e) fun h2 k si sa=>?_;refine .mk (zkY _ a<|.int 0 0) _ k (Af _) (fun A hA=>zhG hA hf hn (lenP<|(zh0 _ es).map _) (Ap hlt)) ⟨si,sa,.text hb rfl⟩ (fun b hm=>?_)<|(zh0 (w.params.setOrder a ep) es).map _;unfold zkY at hm;simp only[AI,AM,or_false] at hm
     rcases hm with rfl | rfl
     . exact .inr<|Af _
     exact .inl rfl
   | false =>
     have hdr:(!t.plain&&decide (es.size > 1))=false:=by
       cases q:(!t.plain&&decide (es.size > 1)) with
       | false=>rfl
       | true =>
         refine absurd ?_ z;show (!(w.params.followText "set-order")&&(!t.plain&&decide (es.size > 1)))=true;rw[hb,q];rfl
     have hl:t.led=true:=hled.resolve_left (by rw[hb];simp);have hp:ST.Rise t.place:=by
       rcases hp with hp | hp
       . rw[hp] at hdr;have hf2:=hf;unfold SetTable.fits at hf2;rw[An] at hf2;have h2:t.place.size=es.size:=by simpa using hf2.1
         have h3:¬ es.size > 1:=by simpa using hdr
         exact fun i j a b=>absurd b (by omega)
       exact hp
     refine lay _ (es.toList.map (·.2)) s.heap s.drawn (fun _ _ e=>e) fun h2 k si sa=>?_;refine .mk [s.heap.objs.size,a] _ k (Af _) (fun A hA=>zk1 hA hp hb hl hdr hf hn rfl (Ap hlt)) ⟨si,sa⟩ (fun b hm=>?_)<|C2 _;simp only[AI,AM,or_false] at hm
     rcases hm with rfl | rfl
     . exact .inr<|Af _
     exact .inl rfl
def zeU{R:List Value->Shared->Prop}(hh:A.handled=none)(ho:s.heap.get? a=some o)(hx:o.ExactSet)(hd:o.data=.set es ep t)(hf:t.fits es.size=true)(hn:es.size=n)(h3:n < 4096)(hp:t.plain=false\/ST.Rise t.place)(hled:w.params.followText "set-order"=true\/t.led=true)
   (h:∀ h' d tk vs,(∀ b u,s.heap.get? b=some u->h'.get? b=some u)->s.heap.objs.size < h'.objs.size->vs.Perm (es.toList.map (·.2))->R vs { s with heap:=h',drawn:=d,toks:=tk }):wpAny (model prog w) A (collect<|.ref a) R E s:=by
 have hlt:a < s.heap.objs.size:=Am ho;have hnl:n<=sizeLine:=by unfold sizeLine;omega
 unfold collect;refine Aa<|FY<|Bs PyProof.Rows.entry_proto_collect' ?_;rw[Bi F.plain_proto_collect _];show wpAny _ A.in1 (newList [] >>= fun l=>again (.builtin "list.__iadd__" ⟨[l,.ref a],[]⟩)) _ _ s;refine Aa<|AF<|Ab ⟨BX F.plain_list_iadd _,Bs entry_list_iadd' ?_⟩;rw[Bi F.plain_list_iadd _];generalize hl:s.heap.objs.size=l at *;have g1:(s.heap.push { cls:=.type "list",data:=.seq ([]:List Value).toArray }).get? l=some { cls:=.type "list",data:=.seq #[] }:=by subst hl;exact Al _ rfl
 have oa:(s.heap.push { cls:=.type "list",data:=.seq ([]:List Value).toArray }).get? a=some o:=Ad _ ho;have k1:∀ b u,s.heap.get? b=some u->(s.heap.push { cls:=.type "list",data:=.seq ([]:List Value).toArray }).get? b=some u:=fun b u e=>Ad _ e;generalize s.heap.push { cls:=.type "list",data:=.seq ([]:List Value).toArray }=h1 at *;show wpAny _ A.in1 (Ep (.ref l) (.ref a)<|.ref l) _ _ _;unfold Ep;have ty:({ s with heap:=h1 }:Shared).TypeIs (.ref a) "set":=⟨o,oa,hx.1⟩
 refine Aa (BZ (T:="set") ty ?_);have q1:E4 (.ref l) (.ref a)=false:=by simp[E4,AJ hlt]
 have q2:(Cr "set"==Cr "list")=false:=by decide
 have q3:(Cr "set"==Cr "tuple")=false:=by decide
 simp only[q1,q2,q3,Hz,Aw,if_false];refine Aa<|zll oa hx hd hf hn h3 hp hled fun h4 d I vs it=>?_;obtain⟨fp,St,k4,hI,WW,st,hfp,pv⟩:=it;refine Aa<|AS<|zoG ⟨o,k4 _ _ oa,hx.1⟩ ?_;refine Bt (fun _=>?_) fun z=>absurd (by decide +kernel) z;refine Aa<|Cs<|Aa ?_;have g4:=k4 _ _ g1;show wpAny _ _ (updateSeq l (·.push .none) >>= fun _=>updateSeq l (·.pop)) _ _ _;refine Aa<|wpAny_updateSeq g4 rfl ?_;have g5:=A3 (By (·.push AZ)) g4 rfl;refine wpAny_updateSeq (hz:=by seq_fits) g5 rfl ?_;have g6:=A3 (By (·.pop)) g5 rfl;have k6:∀ b u,b≠l->h4.get? b=some u->((h4.update l (By (·.push AZ))).update l (By (·.pop))).get? b=some u:=fun b u hb e=>(CQ _ _<|BV hb).trans<|(CQ _ _<|BV hb).trans e;have hlf:l ∉ fp:=fun z=>by
   rcases hfp l z with z | z
   . exact absurd z<|AJ hlt
   exact absurd (Am g1)<|Nat.not_lt.mpr z
 have W:=WW A.in1 hh;refine Ab ⟨BX F.plain_extend_loop _,codeAny_extend_loopS W.toS hnl l hlf _ n 0 _ #[] _ rfl (AY _) (W.frame 0 h4 _ st fun b hb u e=>k6 b u (fun z=>hlf (z ▸ hb)) e) g6 (ItemsOf.nil _) fun s' acc c hm hS hacc=>?_⟩;rw[Moved.eq_with hm];show wpAny _ A (load l >>= _) _ _ _;refine Aa<|wpAny_load hS<|Ab ?_;have ev:acc.toList=vs:=by
   apply GR;intro i
   by_cases hi:i < n
   . obtain⟨e1,e2⟩:=hacc;have h4:acc[i]?=some acc[i]:=AU (by omega);rw[AD,h4];exact (e2 i _ h4).symm
   rw[C3 (by rw[Au,hacc.1];omega),C3 (by rw[pv.length_eq,Ai,Au];omega)]
 rw[ev];refine h s'.heap d s'.toks vs (fun b u e=>hm.heap b u (fun z=>?_) (k6 b u ?_<|k4 b u<|k1 b u e)) (Am hS) pv
 . rcases List.mem_cons.mp z with z | z
   . exact absurd (Am e) (by rw[z,hl];exact AX _)
   exact absurd (Ay (Am<|k1 b u e) hI) (by rw[List.mem_singleton.mp z];exact AX _)
 exact fun z=>absurd (Am e) (by rw[z,hl];exact AX _)
end
end L2.MP
namespace L2.MP
open PySem PySem.Spec
variable {prog:Program}{w:World}{A:Around}
section
variable {R:Result->Shared->Prop} {I:Addr} {fp wr:List Addr} {G:Array GenState->Array GenState->Prop} {n:Nat} {P:Nat->Value->Prop} {St:Nat->Shared->Prop}
def zli(W:WalksS prog w A.in1 I fp wr G n P St)(Z:Addr)(hZ:Z ∉ fp)(val:Nat->Str)(hv:∀ i v,P i v->∃ t,v=.str (val i) t)(hb:n+1 < scanBound) :
   ∀ (k i:Nat) (s:Shared),n - i=k->i<=n->St i s->SetD (strKind prog w) s.heap Z (fun x=>decide (x∈met val i)) (met val i).length ->
     (∀ s',Moved (Z::wr) G s s'->SetD (strKind prog w) s'.heap Z (fun x=>decide (x∈met val n)) (met val n).length->R (.ok<|.ret .none) s') ->
     codeAny (model prog w) A (.builtin "set.update.loop" ⟨[.ref Z,.ref I],[]⟩) R s:=by
 have hw:Z ∉ wr:=fun q=>hZ<|W.sub _ q;have up:∀ b∈wr,b∈Z::wr:=fun b q=>Ah _ q;have keep:∀ {s s':Shared} {S:Str->Bool} {m:Nat},Moved wr G s s'->SetD (strKind prog w) s.heap Z S m->SetD (strKind prog w) s'.heap Z S m:=fun hm x=>by obtain⟨o,es,ep,t,ho,r⟩:=x;exact⟨o,es,ep,t,hm.heap Z _ hw ho,r⟩
 intro k
 induction k with
 | zero =>
   intro i s hk hi hs x go;have e:i=n:=by omega
   subst e;refine Bs BL ?_;rw[Bi Bj _];show wpAny _ A.in1 (pyNext (.ref I) >>= _) _ _ s;refine Aa<|W.done s _ _ hs fun s' hm=>?_;exact Ab<|go s' (hm.mono up)<|keep hm x
 | succ k ih =>
   intro i s hk hi hs x go;have lt:i < n:=by omega
   refine Bs BL ?_;rw[Bi Bj _];show wpAny _ A.in1 (pyNext (.ref I) >>= _) _ _ s;refine Aa<|W.item i s _ _ lt hs fun v s1 hP hs1 hm=>?_;obtain⟨vt,rfl⟩:=hv i v hP;have v1:=strKind_is prog w (val i) vt;have x1:=keep hm x;show wpAny _ A.in1 (holding [_] (setAdd Z _) >>= _) _ _ s1;refine Aa<|AS ?_;unfold setAdd;refine AS<|Aa<|(strKind prog w).pyHash (k:=val i) v1 ?_;have room:(met val i).length+1 < scanBound:=by have:=zgu val i;omega
   refine zpe (s:={ s1 with toks:=s1.toks+1 }) x1 room fun h' sb x2=>?_;have x3:SetD (strKind prog w) h' Z (fun y=>decide (y∈met val (i+1))) (met val<|i+1).length:=SetD.as x2 (fun y=>(zmR val i y).symm) (zoi val i).symm;refine Ab ⟨BX Bj _,ih (i+1) _ (by omega) lt (W.frame _ s1 _ _ hs1 (BM _) fun b hb o e=>?_) x3 fun s2 hm2 x4=>?_⟩
   . rw[sb.2 b (fun q:b=Z=>hZ (by rw[<-q];exact hb))];exact e
   refine go s2 (HU W.gtrans ((hm.mono up).then_heap (BM _) fun b o hb e=>?_) hm2) x4;rw[sb.2 b (fun q:b=Z=>hb (by rw[q];exact Aj))];exact e
end
variable {s:Shared}
section
variable {E:Value->Shared->Prop}
def zju(a:Value){Q₁:Value->Shared->Prop}(h:Q₁ (.ref s.heap.objs.size) { s with heap:=s.heap.push (zfl<|!w.params.followText "set-order") }):codeAny (model prog w) A (.call (.builtin "set.__new__") ⟨[.type "set",a],[]⟩) (wants Q₁ E) s:=by
 refine Fx ?_;show wpAny _ A.in1 (checkBuiltinCall "set.__new__" ⟨[.type "set",a],[]⟩ >>= fun _=>again (.builtin "set.__new__" ⟨[.type "set",a],[]⟩)) _ _ s;refine Aa<|Eg (F.newCall_set_1 a)<|Ab ⟨BX F.plain_set_new _,Bs F.entry_set_new ?_⟩;rw[Bi F.plain_set_new _];unfold Builtin.«set.__new__» HC;have hsub:=sub_set_self;obtain⟨hp,g,d,tk,os⟩:=s;dsimp only at h ⊢
 wp_walk
 refine BE<|Ab ?_;dsimp only;simp only[newObj];exact Aa<|wpAny_alloc<|Ab<|Ab h
def zlk{l:Addr}{its:Array Value}{val:Nat->Str}{Q:Value->Shared->Prop}(hh:A.handled=none)(hl:s.heap.IsList l its)(hv:∀ (i:Nat) (v:Value),its[i]?=some v->∃ t,v=.str (val i) t)(hb:its.size+1 < scanBound)
   (go:∀ (h':Heap) (tk:Nat),SetD (strKind prog w) h' s.heap.objs.size (fun x=>decide (x∈met val its.size)) (met val its.size).length->(∀ b o,b < s.heap.objs.size->s.heap.get? b=some o->h'.get? b=some o)->Q (.ref s.heap.objs.size) { s with heap:=h',toks:=tk }) :
   wpAny (model prog w) A (call (.type "set") [.ref l]) Q E s:=by
 obtain⟨c,tl,hmro⟩:=F.called_set.mro;have q1:=F.called_set.made;have q2:=F.called_set.sub;refine G8<|Fx ?_;show wpAny _ _ (callAny (.type "set") _) _ _ _;refine Ab ⟨GD _<|by decide +kernel,Bs F.entry_type_call ?_⟩;rw[GF (FZ "set" [.ref l] []) rfl];have q3:=F.called_set.notType;have q4:=F.called_set.canCreate;have q5:=F.typeCall_set_1<|.ref l
 repeat (any_goals (first | assumption | wp_step))
 refine CW (zju (.ref l) (E:=E) (Q₁:=fun obj s₁=>∃ led:Bool,led=(!w.params.followText "set-order")/\obj=.ref s.heap.objs.size/\s₁={ s with heap:=s.heap.push (zfl led) }) ⟨_,rfl,rfl,rfl⟩) fun r s1 hr=>?_
 cases r with
 | error e=>exact hr
 | ok fl =>
   cases fl with
   | ret obj =>
     obtain⟨led,hled,rfl,rfl⟩:=hr;have at0:(s.heap.push<|zfl led).get? s.heap.objs.size=some (zfl led):=Al _ rfl;have ty:Shared.TypeIs { s with heap:=s.heap.push (zfl led) } (.ref s.heap.objs.size) "set":=⟨_,at0,rfl⟩
     have q6:=F.called_set.init.lookup;have q7:=F.called_set.init.bind<|.ref s.heap.objs.size
     repeat (any_goals (first | assumption | wp_step))
     refine CW (Ga (R:=wants (fun r s₂=>r=.none/\∃ h' tk,s₂={ s with heap:=h',toks:=tk }/\SetD (strKind prog w) h' s.heap.objs.size (fun x=>decide (x∈met val its.size)) (met val its.size).length/\(∀ b o,b < s.heap.objs.size->s.heap.get? b=some o->h'.get? b=some o)) E) F.called_set.init.plain F.entry_set_init<|check_set_init_1 ty ?_) fun r2 s2 hr2=>?_
     . obtain⟨u,hu,hc,m,hd⟩:=hl;obtain⟨uc,ud,ux,us⟩:=u;simp only at hc hd;subst hc;subst hd;have at1:(s.heap.push<|zfl led).get? l=some { cls:=.type "list",dict:=ud,data:=.seq its m,slots:=us }:=Ad _ hu;have l1:(s.heap.push<|zfl led).IsList l its:=⟨_,at1,rfl,m,rfl⟩
       have z1:=F.sub_list_set;have z2:=F.sub_list_frozenset;have z3:(Cr "list"==Cr "dict")=false:=by decide
       unfold Builtin.«set.__init__» noKeywords Ef;generalize hPI:pyIter=PI
       wp_walk
       subst hPI;refine CS l1<|Aa<|FY ?_;have ll:l < s.heap.objs.size:=Am hu;have h3:A.in1.in1.in1.handled=none:=by simp[hh]
       have n1:l≠(s.heap.push<|zfl led).objs.size:=by rw[A4];exact Ap<|B1 ll
       have n2:s.heap.objs.size ∉ [(s.heap.push<|zfl led).objs.size,l]:=by
         rw[A4,AI,Ck];rintro (z | z)
         . exact absurd z<|Ap<|EW _
         exact absurd z<|AJ ll
       refine zli ((Hg h3 _ l n1 its).toS) s.heap.objs.size n2 val hv hb (its.size - 0) 0 _ (by omega) (AY _) ⟨⟨_,Al _ rfl,rfl,rfl⟩,(l1.push _)⟩ ?first ?rest
       case first =>
         have g:((s.heap.push<|zfl led).push { cls:=.type "list_iterator",data:=.fields #[.ref l,.int 0 0] }).get? s.heap.objs.size=some (zfl led):=Ad _ at0;exact⟨_,#[],0,_,g,⟨rfl,rfl,rfl⟩,rfl,fun e he=>(by simp at he),fun k=>(by simp[met]),(by decide),rfl,rfl,.inl rfl,(by rw[hled];cases w.params.followText "set-order";exact .inr rfl;exact .inl rfl)⟩
       case rest =>
         intro s' hm x;obtain⟨h',g',d',tk',os'⟩:=s';have eg:g'=s.gens:=hm.gens;have ed:d'=s.drawn:=hm.drawn;have eo:os'=s.os:=hm.os;subst eg;subst ed;subst eo;show wpAny _ _ _ _ _ _;refine Ab ?_;show wpAny _ _ (ret AZ) _ _ _;refine Ab ⟨rfl,h',tk',rfl,x,fun b o hb e=>?_⟩;refine hm.heap b o ?_<|Ad _<|Ad _ e;rw[A4,AI,Ck];rintro (z | z)
         . exact absurd z<|Ap hb
         exact absurd z<|Ap<|B1 hb
     . cases r2 with
       | error e=>exact hr2
       | ok fl2 =>
         cases fl2 with
         | ret r =>
           obtain⟨rfl,h',tk,rfl,x,k⟩:=hr2
           repeat (any_goals (first | assumption | wp_step))
           exact go _ _ x k
         | _=>exact hr2.elim
   | _=>exact hr.elim
end
open PyProof.Rows
def zfT{α:Type}[DecidableEq α]:∀ {m l:List α},m.Nodup->(∀ x∈m,x∈l)->l.length=m.length->l.Perm m
 | [],l,_,_,e=>by have:l=[]:=List.length_eq_zero_iff.mp e;rw[this]
 | x::r,l,nd,h,e=>by have hx:=h x Aj;obtain⟨n1,n2⟩:=List.nodup_cons.mp nd;refine (List.perm_cons_erase hx).trans<|FW x<|zfT n2 (fun y hy=>(D8 (fun z:y=x=>n1 (z ▸ hy))).mpr (h y<|Ah _ hy)) ?_;rw[Ds hx,e];rfl
def zdo{κ:Type}[DecidableEq κ](val:Nat->κ):∀ i,(met val i).Nodup
 | 0=>Ec
 | i+1=>by
   rw[met]
   split
   . exact zdo val i
   rename_i h;refine List.nodup_append.mpr ⟨zdo val i,by simp,?_⟩;intro a ha b hb e;rw[List.mem_singleton.mp hb] at e;exact h<|e ▸ ha
def once(ss:List Str):List Str:=met (fun i=>ss.getD i DW) ss.length
inductive SetX (w:World) (a:Addr) (ms:List Str) (h:Heap):Prop
 | mk (o:Obj) (es:Array (Int×Value)) (ep:Nat) (t:SetTable) (h1:h.get? a=some o) (h2:o.ExactSet) (h3:o.data=.set es ep t) (h4:StrsAre (es.toList.map (·.2)) (es.toList.map fun e=>strOf e.2)) (h5:(es.toList.map fun e=>strOf e.2).Perm ms) (h6:es.size < 4096) (h7:t.fits es.size=true) (h8:es.size=ms.length) (h9:ms.length=0\/t.plain=false) (h10:∃ b:Bool,w.params.followText "set-order"=b/\(b=true\/t.led=true))
variable {h:Heap}{a:Addr}{ms:List Str}
def zpV(nd:ms.Nodup)(x:SetD (strKind prog w) h a (fun x=>decide (x∈ms)) ms.length):SetX w a ms h:=by
 obtain⟨o,es,ep,t,g,gx,gd,k1,k2,k3,k4,k5,k6,k7⟩:=x;have all:∀ e∈es.toList,∃ z tk,e.2=.str z tk:=fun e he=>by obtain⟨⟨k,hk,_⟩,_⟩:=k1 e he;obtain⟨t,ht⟩:=D9 hk;exact⟨k,t,ht⟩
 refine⟨o,es,ep,t,g,gx,gd,?_,zfT nd (fun z hz=>?_)<|by simpa using k5,k3,k4,k5,k6,⟨_,rfl,k7⟩⟩
 . have:=strsAre_map (es.toList.map (·.2)) fun v hv=>by
     obtain⟨e,he,rfl⟩:=List.mem_map.mp hv;exact all e he
   rwa [A9] at this
 obtain⟨e,he,u⟩:=(k2 z).mp<|decide_eq_true hz;obtain⟨t,ht⟩:=D9 u;exact List.mem_map.mpr ⟨e,he,by rw[ht];rfl⟩
variable {X:Cx}{H:Hp}
def zks{pins:List (Addr×Obj)}{M:List (Option V)}(I:Inv X pins M H s)(d:Drawn):Inv X pins M H { s with drawn:=d }:=⟨I.ok,I.os,I.bare,I.base,I.loc,I.cell,I.free,I.freeC,I.pin,I.hok,I.len⟩
def zpU{P:Program}{w':World}(x:SetX w' a ms h):zdN P w H h a (.ext<|SetX w' a ms):=by have y:=x;obtain⟨o,es,ep,t,h1⟩:=y;refine⟨x,⟨o,h1⟩,?_⟩;rintro g1 g2 ⟨o,es,ep,t,h1,h2,h3,h4,h5,h6,h7,h8,h9,h10⟩ k;exact⟨o,es,ep,t,k o h1,h2,h3,h4,h5,h6,h7,h8,h9,h10⟩
inductive SetL (w:World) (K:Ae) (H:Hp) (Q:VK):List V->Prop
 | mk (a:Addr) (ss:List Str) (h1:SqL K H a (ss.map V.str)) (h2:ss.length<=4000) (h3:∀ p,H p=none->Q (.ref p) (upd H p (.ext (SetX w p (once ss))))):SetL w K H Q [.ref a]
def zmf(hc:X.calm=true):zgU X (.type "set") (fun xs H Q=>SetL X.w X.K H Q xs):=by
 rintro pins s M H xs us Q I r ⟨a,ss,h1,h2,h3⟩;obtain⟨u,rfl,ru⟩:=r.one;cases ru;obtain⟨its,rv,pl,hz⟩:=I.list h1;have hl:its.length=ss.length:=by have:=rv.length;rw[Ai] at this;exact this.symm
 have sz:its.toArray.size=ss.length:=by rw[Aq];exact hl
 refine zlk (val:=fun i=>ss.getD i DW) (I.ok.hd hc) pl.isList (fun i v e=>?_) (by rw[sz];unfold scanBound;omega) fun h' tk hs hk=>?_
 . rw[CZ] at e;have hi:i < ss.length:=by rw[<-hl];exact (List.getElem?_eq_some_iff.mp e).1
   obtain⟨y,hy,ry⟩:=rv.get (i:=i) (x:=V.str ss[i]) (by rw[AB,Ak hi];rfl);rw[e] at hy;cases hy;obtain⟨t,rfl⟩:=ry;refine⟨t,?_⟩;rw[Ar,Ak hi];rfl
 rw[sz] at hs;refine⟨.ref s.heap.objs.size,_,I.laid (t':=tk) (fun b o q=>hk b o (Am q) q) (Af _)<|zpU<|zpV (zdo _ _) hs,rfl,?_⟩;exact h3 _<|I.hok.fresh<|Af _
inductive SrtX (w:World) (H:Hp) (Q:VK):List V->Prop
 | mk (a:Addr) (ms:List Str) (h1:H a=some (.ext (SetX w a ms))) (h3:ms.length < 64) (h4:∀ l,H l=none->Q (.ref l) (upd H l (.lst ((zbz ms).map V.str)))):SrtX w H Q [.ref a]
def zme(hc:X.calm=true):zgU X (.builtin "sorted") (fun xs H Q=>SrtX X.w H Q xs):=by
 rintro pins s M H xs us Q I r ⟨a,ms,hH,h3,h4⟩;obtain⟨u,rfl,ru⟩:=r.one;cases ru;obtain⟨⟨o,es,ep,t,e1,e2,e3,e4,e5,e6,e7,e8,e9,⟨_,rfl,e10⟩⟩,_,_⟩:=I.hok a _ hH;have hp:t.plain=false\/ST.Rise t.place:=e9.elim (fun z=>.inr fun i j a b=>absurd b (by
   have hf2:=e7;unfold SetTable.fits at hf2;rw[An] at hf2;have h2:t.place.size=es.size:=by simpa using hf2.1
   omega)) .inl
 refine Dk kind_sorted plain_sorted entry_sorted (Gx _) ?_;unfold Builtin.«sorted»;refine Aa (m:=checkCount "sorted" 1 1 _) (Ab<|Aa<|zeU (A:=X.A.in1) (I.ok.hd hc) e1 e2 e3 e7 e8 (by omega) hp e10 fun h' d tk vs hk hsz hv=>?_);have hvs:StrsAre vs (vs.map strOf):=strsAre_map vs fun v hm=>e4.all v<|hv.mem_iff.mp hm;have hvp:(vs.map strOf).Perm ms:=by have:=hv.map strOf;rw[A9] at this;exact this.trans e5
 have hlen:vs.length=ms.length:=by rw[hv.length_eq,Ai,Au,e8]
 refine Aa<|DN ?_ (by rw[hlen];exact lt64 h3);have g0:(h'.push<|seqObj "list" vs.toArray 0).get? h'.objs.size=some (seqObj "list" vs.toArray 0):=Al _ rfl;refine Aa<|AS<|AG FS ⟨_,g0,rfl⟩ Ft (list_sort_treeK strKind_oneLt g0 hvs.keysOf (fun v₁ v₂ rest e=>keyKind_strs (by rw[<-e];exact hvs)) (by omega) fun st' a1 a2=>⟨_,rfl,Ab ⟨_,rfl,?_⟩⟩)<|FT _;obtain⟨ss',b1,b2,b3⟩:=sorted_out_str hvs a1 a2;have es:=zeh (b2.trans hvp) b3;have hs:s.heap.objs.size<=h'.objs.size:=Cy hsz;obtain⟨c,hat⟩:=sortedHeap_at (vs:=vs) (out:=(arrOf st').map (·.2)) (n:=0) g0;have hlen':(ss'.map V.str).length<=sizeLine:=by rw[Ai,(b2.trans hvp).length_eq];exact lt64 h3
 refine⟨.ref h'.objs.size,upd H h'.objs.size<|.lst<|ss'.map V.str,((zks I d).laid (t':=tk) (a:=h'.objs.size) (fun b u q=>?_) hs ⟨hlen',((arrOf st').map (·.2)).toList,c,zeC b1,by rw[Array.toArray_toList];exact hat⟩),rfl,?_⟩
 . have q1:=hk b u q;have hb:=Am q1;rw[sortedHeap_old (Ap hb) (by rw[size_push'];exact B1 hb)];exact Ad _ q1
 rw[es];exact h4 _<|I.hok.fresh hs
def zok(m:ME):ME:=fun U st=>(m U st).bind fun (d,s)=>match d with
 | .ref n=>(zbY s n).bind fun ds=>(strsOf ds).bind fun ss=>if (decide (ss.length<=4000)&&decide ((once ss).length < 64))=true then some (.ref s.length,s++[.lst ((zbz<|once ss).map D.str)]) else none
 | _=>none
variable {pos:Pos}{m:ME}{o:Expr}
section
variable {K:Ae} {io:List Addr} {st st':Sto}
def zhU:∀ {xs:List V} {ds:List D} {ss:List Str},Reps K H io xs ds->strsOf ds=some ss->xs=ss.map V.str
 | xs,[],ss,r,e=>by cases e;exact r
 | xs,d::ds,ss,r,e=>by obtain⟨x,zs,rfl,e1,rfl⟩:=zfs e;obtain⟨v,vs,rfl,r1,r2⟩:=r;cases r1;rw[zhU r2 e1];rfl
def zpY{p p2 pos2:Pos}(hc:X.calm=true)(hg:Gl X "sorted")(hm:X.mg "sorted"=none)(hg2:Gl X "set")(hm2:X.mg "set"=none)(ho:SE X o m)
   (ho2:starEach [o] X.env=(false,eval o X.env)::starEach [] X.env:=by rfl) (hp2:(backTo pos2<|starEach [] X.env).any (·.1)=false:=by rfl)
   (he:starEach [Hw (.Name "set" p2) [o] [] pos2] X.env=(false,eval (.Call (.Name "set" p2) [o] [] pos2) X.env)::starEach [] X.env:=by rfl) (hpl:(backTo pos<|starEach [] X.env).any (·.1)=false:=by rfl) :
   SE X (.Call (.Name "sorted" p) [.Call (.Name "set" p2) [o] [] pos2] [] pos) (zok m) :=
 PE.imp (zfW (zme hc) hg hm zeI (zeZ (zfV (zmf hc) hg2 hm2 zrw (zeZ ho ziE ho2) (by decide) (by decide) ho2 hp2) ziE he) (by decide) (by decide) he hpl) <| by
   rintro M H Q ⟨U,st,io,d,st',E,S,e,k⟩;obtain⟨⟨x,s1⟩,e1,f1⟩:=zae e;clear e;refine⟨U,st,io,x,s1,E,S,e1,fun v H1 k1 X1 S1 R1=>?_⟩
   cases x with
   | ref n =>
     dsimp only at f1;obtain⟨ds,e2,f2⟩:=zae f1;obtain⟨ss,e3,f3⟩:=zae f2;obtain⟨hl,e⟩:=zau f3;cases e;rw[An] at hl;obtain⟨a,rfl,ha⟩:=R1;obtain⟨xs,hq,r⟩:=zbq S1 ha e2;rw[zhU r e3] at hq;refine⟨a,ss,hq,of_decide_eq_true hl.1,fun p hp=>?_⟩;obtain⟨E2,S2⟩:=zfx (o:=.ext (SetX X.w p<|once ss)) S1 hp;refine⟨p,once ss,zbP,of_decide_eq_true hl.2,fun l hf=>?_⟩;exact ((k.on S1 X1).on S2 E2).lst S2 (zhN _) hf
   | _=>cases f1
end
def upD(x:D)(st:Sto):Option (D×Sto):=match x with
 | .str z=>if (!Builtin.Str.tooLong (C5 z).length)=true then some (.str (C5 z),st) else none
 | _=>none
def mUp(m:ME):ME:=fun U st=>(m U st).bind fun (x,s)=>upD x s
variable {apos cpos:Pos}
def tUp(ta:TE):TE:=fun M H Q=>ta M H fun x H1=>∃ z,x=.str z/\De (C5 z).length=false/\Q (.str<|C5 z) H1
def zt5{ta:TE}(he:PE X o ta)(hbase:attributeBase o "upper" X.env (eval o X.env)=eval o X.env:=by rfl)(hline:(apos.endLine==cpos.line)=true:=by rfl):PE X (.Call (.Attribute o "upper" apos) [] [] cpos) (tUp ta):=by intro pins s M H Q I h;refine Fj hbase hline<|thn (he pins s M H _ I h) ?_;rintro v s2 ⟨x,H1,I1,r1,q⟩;obtain⟨z,rfl,hz,q⟩:=q;obtain⟨t,rfl⟩:=r1;refine⟨"str","str.upper",DI,PySem.F.slot_str_upper,PySem.F.type_str_upper,EK _ _ _,(fun _ e=>by cases e),DH rfl<|Gg<|SC.upper hz ?_⟩;exact⟨.str _,H1,I1.tok _,⟨_,rfl⟩,q⟩
def ztZ(ho:SE X o m)(hbase:attributeBase o "upper" X.env (eval o X.env)=eval o X.env:=by rfl)(hline:(apos.endLine==cpos.line)=true:=by rfl):SE X (.Call (.Attribute o "upper" apos) [] [] cpos) (mUp m) :=
 PE.imp (zt5 ho hbase hline) <| by
   rintro M H Q ⟨U,st,io,d,st',E,S,e,k⟩;obtain⟨⟨x,s1⟩,e1,f1⟩:=zae e;clear e;refine⟨U,st,io,x,s1,E,S,e1,fun v H1 k1 X1 S1 R1=>?_⟩;unfold upD at f1;dsimp only at f1
   split at f1
   . rename_i z;obtain⟨hf,e⟩:=zau f1;cases e;exact⟨z,R1,by simpa using hf,(k.on S1 X1).now S1 rfl⟩
   . cases f1
def eqU0:G2:=fun x y st=>match x,y with
 | .tup ds,.tup []=>some (.bl ds.isEmpty,st)
 | _,_=>none
def zqO(hu:X.A.units+100 < cLine):OpM X (compareOp .Eq) eqU0:=by
 rintro pins s M H x y v u Q I rx ry ⟨dx,dy,st,io,d,st',Rx,Ry,S,e,k⟩;unfold eqU0 at e
 split at e
 . rename_i ds;cases e;obtain⟨p,xs,rfl,hp,r1⟩:=Rx;obtain⟨q,ys,rfl,hq,r2⟩:=Ry;cases rx;cases ry;obtain⟨z1,us,v1,t1⟩:=I.hok p _ hp;obtain⟨z2,ws,v2,t2⟩:=I.hok q _ hq;have e2:ys=[]:=r2;subst e2;cases v2;refine PySem.SeqAt.eq_tupleAt (e:=fun _=>true) t1.t t2.t (by omega) (fun j h1 h2=>by simp at h2) ?_;have hl:us.length=ds.length:=by
     have:=v1.length;have:=r1.length;omega
   have eb:((AV<|min us.toArray.size ([]:List Value).toArray.size).all (fun _=>true)&&us.toArray.size==([]:List Value).toArray.size)=ds.isEmpty:=by
     cases ds with
     | nil=>simp at hl;simp[hl]
     | cons a r =>
       cases us with
       | nil=>simp at hl
       | cons b t=>simp
   rw[eb];exact⟨.bl _,H,I,rfl,k.now S rfl⟩
 . cases e
def eqZ:G2:=orG eqD eqU0
def zsT(hu:X.A.units+100 < cLine):OpM X (compareOp .Eq) eqZ:=zhi (zdE hu)<|zqO hu
end L2.MP
namespace L2.MP.ST
open PySem PySem.SetTable
variable {t:SetTable}{i j:Nat}
def slot_live(R:Rise t.place)(h:t.place[i]?=some j):t.slot j=.live i:=by unfold SetTable.slot;dsimp only;rw[below_at R h,h];simp
def zjn(hd:t.dummies=#[])(h:j ∉ t.place.toList):t.slot j=.empty:=by
 unfold SetTable.slot;dsimp only;have h1:(t.place[below t.place j]?==some j)=false:=by apply beq_false_of_ne;intro e;exact h (by rw[<-AD] at e;exact AW e)
 have h2:has t.dummies j=false:=by rw[hd];unfold has;simp
 rw[h1,h2];rfl
def adv(mask:Nat)(p:Probe):Probe :=
 if p.more > 0 then { p with j:=p.j+1,more:=p.more - 1 } else
 { p with j:=(leap mask p.i p.perturb).1,more:=runEnd mask (leap mask p.i p.perturb).1 - (leap mask p.i p.perturb).1,i:=(leap mask p.i p.perturb).1,perturb:=(leap mask p.i p.perturb).2 }
def at_(mask i pb:Nat):Probe:={ j:=i,more:=runEnd mask i - i,i:=i,perturb:=pb,dummy:=none }
def pr(mask:Nat)(h:Int):Nat->Probe
 | 0=>at_ mask (bits h % (mask+1))<|bits h
 | k+1=>adv mask<|pr mask h k
def tI(mask:Nat)(h:Int):Nat->Nat×Nat
 | 0=>(bits h % (mask+1),bits h)
 | r+1=>leap mask (tI mask h r).1 (tI mask h r).2
def tK(mask:Nat)(h:Int):Nat->Nat
 | 0=>0
 | r+1=>tK mask h r+(runEnd mask (tI mask h r).1 - (tI mask h r).1)+1
def zsi(mask i:Nat):runEnd mask i - i<=9:=by unfold runEnd;split <;> omega
def ztv(mask:Nat)(h:Int):∀ r,tK mask h r<=10*r
 | 0=>Af _
 | r+1=>by have:=ztv mask h r;have:=zsi mask (tI mask h r).1;unfold tK;omega
variable {mask:Nat}
def zpc{p:Probe}(h:0 < p.more):adv mask p={ p with j:=p.j+1,more:=p.more - 1 }:=by unfold adv;rw[if_pos h]
theorem zpd{pb:Nat}:adv mask { j:=j,more:=0,i:=i,perturb:=pb,dummy:=none }=at_ mask (leap mask i pb).1 (leap mask i pb).2:=rfl
variable {h:Int}
def zkt{mask:Nat}{h:Int}{r:Nat}(h0:pr mask h (tK mask h r)=at_ mask (tI mask h r).1 (tI mask h r).2):∀ c,c<=runEnd mask (tI mask h r).1 - (tI mask h r).1 ->
   pr mask h (tK mask h r+c)={ j:=(tI mask h r).1+c,more:=runEnd mask (tI mask h r).1 - (tI mask h r).1 - c,i:=(tI mask h r).1,perturb:=(tI mask h r).2,dummy:=none }
 | 0,_=>h0
 | c+1,hc=>by
   have ih:=zkt h0 c (by omega);show adv mask (pr mask h<|tK mask h r+c)=_;rw[ih,zpc (by dsimp only;omega)];dsimp only
   congr 1
def zms(mask:Nat)(h:Int):∀ r,pr mask h (tK mask h r)=at_ mask (tI mask h r).1 (tI mask h r).2
 | 0=>rfl
 | r+1=>by have e:=zkt (zms mask h r) _<|Af _;show adv mask (pr mask h<|tK mask h r+(runEnd mask (tI mask h r).1 - (tI mask h r).1))=_;rw[e,Do,zpd];rfl
def zk3(mask:Nat)(h:Int)(r c:Nat)(hc:c<=runEnd mask (tI mask h r).1 - (tI mask h r).1):(pr mask h<|tK mask h r+c).j=(tI mask h r).1+c:=by rw[zkt (zms mask h r) c hc]
def it(n:Nat):Nat->Nat->Nat
 | 0,i=>i
 | s+1,i=>it n s<|(i*5+1) % n
def zkq(n:Nat):∀ a b i,it n (a+b) i=it n b (it n a i)
 | 0,b,i=>by rw[Nat.zero_add];rfl
 | a+1,b,i=>by rw[Nat.add_right_comm];show it n (a+b) _=it n b (it n a _);exact zkq n a b _
def orb(n:Nat):Nat->Nat->List Nat
 | 0,_=>[]
 | k+1,i=>i::orb n k ((i*5+1) % n)
def zqH(n:Nat):∀ k i e,e∈orb n k i->∃ s,s < k/\it n s i=e
 | 0,i,e,h=>by simp[orb] at h
 | k+1,i,e,h=>by
   rcases List.mem_cons.mp h with rfl | h
   . exact⟨0,by omega,rfl⟩
   obtain⟨s,hs,e1⟩:=zqH n k _ e h;exact⟨s+1,by omega,e1⟩
def Siz(n:Nat):Prop:=n=8\/n=32\/n=128
variable {n:Nat}
def zuv(h:Siz n):it n n 0=0/\∀ e,e < n->∃ s,s < n/\it n s 0=e:=by
 have key:∀ n,(it n n 0==0&&(AV n).all fun e=>(orb n n 0).contains e)=true->it n n 0=0/\∀ e,e < n->∃ s,s < n/\it n s 0=e:=fun n hn=>by rw[An,BD] at hn;exact⟨by simpa using hn.1,fun e he=>zqH n n 0 e (by simpa using hn.2 e (List.mem_range.mpr he))⟩
 rcases h with rfl | rfl | rfl
 . exact key 8<|by decide +kernel
 . exact key 32<|by decide +kernel
 exact key 128<|by decide +kernel
variable {e:Nat}
def full(h:Siz n)(hi:i < n)(he:e < n):∃ s,s < n/\it n s i=e:=by
 obtain⟨z,f⟩:=zuv h;obtain⟨a,ha,ea⟩:=f i hi;obtain⟨b,hb,eb⟩:=f e he
 by_cases c:a<=b
 . refine⟨b - a,by omega,?_⟩;rw[<-ea,<-zkq,show a+(b - a)=b from by omega];exact eb
 refine⟨b+n - a,by omega,?_⟩;rw[<-ea,<-zkq,show a+(b+n - a)=n+b from by omega,zkq,z];exact eb
def ztw(mask:Nat)(h:Int):∀ r,(tI mask h r).2=bits h / 32 ^ r
 | 0=>by simp[tI]
 | r+1=>by show (tI mask h r).2 / 32=_;rw[ztw mask h r,Nat.div_div_eq_div_mul,Nat.pow_succ]
def zry(h:Int):bits h < 2 ^ 64:=by unfold bits;have h1:=CO h (b:=(2 ^ 64:Int)) (by decide);have h2:=CP h (b:=(2 ^ 64:Int)) (by decide);omega
def zqG(mask:Nat)(h:Int)(s:Nat):(tI mask h<|13+s).2=0:=by
 rw[ztw];refine Nat.div_eq_of_lt ?_;have h1:=zry h;have h2:(32:Nat) ^ 13<=32 ^ (13+s):=Nat.pow_le_pow_right (by decide) (by omega);have h3:(2:Nat) ^ 64 < 32 ^ 13:=by decide
 omega
def zty(mask:Nat)(h:Int):∀ s,(tI mask h<|13+s).1=it (mask+1) s (tI mask h 13).1
 | 0=>rfl
 | s+1=>by have e:=zkq (mask+1) s 1 (tI mask h 13).1;rw[e,<-zty mask h s];show ((tI mask h<|13+s).1*5+1+(tI mask h<|13+s).2 / 32) % (mask+1)=_;rw[zqG];rfl
def ztx(mask:Nat)(h:Int):∀ r,(tI mask h r).1 < mask+1
 | 0=>D7 _<|Fb _
 | r+1=>D7 _<|Fb _
def reach(hs:Siz (mask+1))(h:Int)(he:e<=mask):∃ r,r < mask+14/\(tI mask h r).1=e:=by obtain⟨s,h1,h2⟩:=full hs (ztx mask h 13)<|Nat.lt_succ_of_le he;exact⟨13+s,by omega,by rw[zty];exact h2⟩
variable {xs:Array Nat}
def getD_list(h:i < xs.toList.length):xs.getD i 0=xs.toList[i]:=by
 have:i < xs.size:=by simpa using h
 simp[EN,this]
def zeX:Rise xs ↔ xs.toList.Pairwise (· < ·):=by
 rw[EM]
 constructor
 . intro R i j hi hj h;have:=R i j h (by simpa using hj);rw[getD_list hi,getD_list hj] at this;exact this
 . intro R i j h hj;have hj':j < xs.toList.length:=by simpa using hj
   have hi':i < xs.toList.length:=by omega
   rw[getD_list hi',getD_list hj'];exact R i j hi' hj' h
def zqt:∀ (n:Nat) (l:List Nat),(∀ e,e < n->e∈l)->n<=l.length
 | 0,l,_=>AY _
 | n+1,l,h=>by have hn:=h n (by omega);have:=zqt n (l.erase n) fun e he=>(D8<|by omega).mpr (h e<|by omega);rw[Ds hn] at this;have:=FM hn;omega
def left{l:List Nat}(h:l.length < n):∃ e,e < n/\e ∉ l:=by
 by_cases c:∃ e,e < n/\e ∉ l
 . exact c
 . exfalso;have:=zqt n l fun e he=>by
     by_cases d:e∈l
     . exact d
     exact absurd ⟨e,he,d⟩ c
   omega
def least{P:Nat->Prop}:∀ (n:Nat),P n->∃ k,k<=n/\P k/\∀ j,j < k->¬ P j:=by
 intro n
 induction n using Hs with
 | ind n ih =>
   intro h
   by_cases c:∃ j,j < n/\P j
   . obtain⟨j,hj,hp⟩:=c;obtain⟨k,h1,h2,h3⟩:=ih j hj hp;exact⟨k,by omega,h2,h3⟩
   exact⟨n,Af _,h,fun j hj hp=>c ⟨j,hj,hp⟩⟩
def zsu(mask:Nat)(h:Int):∀ k,(pr mask h k).j+(pr mask h k).more<=mask/\(pr mask h k).dummy=none
 | 0=>by
   have hb:bits h % (mask+1) < mask+1:=D7 _<|Fb _;refine⟨?_,rfl⟩;show bits h % (mask+1)+(runEnd mask (bits h % (mask+1)) - bits h % (mask+1))<=mask;unfold runEnd
   split <;> omega
 | k+1=>by
   have ih:=zsu mask h k;show (adv mask<|pr mask h k).j+(adv mask<|pr mask h k).more<=mask/\(adv mask<|pr mask h k).dummy=none;generalize pr mask h k=p at *;unfold adv
   by_cases c:p.more > 0
   . rw[if_pos c];dsimp only;exact⟨by omega,ih.2⟩
   . rw[if_neg c];dsimp only;refine⟨?_,ih.2⟩;have hb:(leap mask p.i p.perturb).1 < mask+1:=D7 _<|Fb _;unfold runEnd
     split <;> omega
def zpf(mask:Nat)(occ:List Nat)(h:Int)(p:Nat):Prop:=∃ k,(pr mask h k).j=p/\∀ k',k' < k->(pr mask h k').j∈occ
structure Good(t:SetTable)(hs:List Int):Prop where
 size:t.place.size=hs.length
 dum:t.dummies=#[]
 rise:Rise t.place
 top:∀ p∈t.place.toList,p<=t.mask
 siz:Siz (t.mask+1)
 room:t.place.size<=t.mask
 road:∀ q∈t.place.toList.zip hs,zpf t.mask t.place.toList q.2 q.1
structure Free(t:SetTable)(h:Int)(K:Nat):Prop where
 few:K < 10*turns t.mask
 none:(pr t.mask h K).j ∉ t.place.toList
 full:∀ k,k < K->(pr t.mask h k).j∈t.place.toList
variable {hs:List Int}
def Good.free(G:Good t hs)(h:Int):∃ K,Free t h K:=by
 obtain⟨e,he,hn⟩:=left (n:=t.mask+1) (l:=t.place.toList) (by have:=G.room;simp;omega);obtain⟨r,hr,er⟩:=reach G.siz h<|EH he;have ej:=zk3 t.mask h r 0<|AY _;rw[EX,EX,er] at ej;have hk:=ztv t.mask h r;obtain⟨K,k1,k2,k3⟩:=least (P:=fun k=>(pr t.mask h k).j ∉ t.place.toList) (tK t.mask h r) (by rw[ej];exact hn);refine⟨K,by unfold turns;omega,k2,fun k hk=>?_⟩
 by_cases c:(pr t.mask h k).j∈t.place.toList
 . exact c
 exact absurd c<|k3 k hk
variable {α β:Type}
def zni{α β:Type}:∀ {a:List α} {b:List β} {i:Nat} {x:α} {y:β},a[i]?=some x->b[i]?=some y->(x,y)∈a.zip b
 | [],b,i,x,y,h,_=>by simp at h
 | _::_,[],i,x,y,_,h=>by simp at h
 | a::as,b::bs,0,x,y,h,h'=>by simp at h h';subst h;subst h';exact Aj
 | a::as,b::bs,i+1,x,y,h,h'=>by rw[CI] at h h';exact Ah _<|zni h h'
variable {hashAt:Nat->Int}{K:Nat}
def zm0{t:SetTable}{hs:List Int}{hashAt:Nat->Int}{h:Int}{K:Nat}(G:Good t hs)(hH:∀ i x,hs[i]?=some x->hashAt i=x)(F:Free t h K):∀ (d k fuel:Nat),k+d=K->d < fuel ->
   (probe.go t hashAt h fuel (pr t.mask h k)=some (.empty (pr t.mask h K).j none)/\∀ k',k<=k'->k' < K->∀ i:Nat,t.place[i]?=some (pr t.mask h k').j->hs[i]?≠some h) \/
   ∃ k1 i,k<=k1/\k1 < K/\t.place[i]?=some (pr t.mask h k1).j/\hs[i]?=some h/\probe.go t hashAt h fuel (pr t.mask h k)=some (.candidate (pr t.mask h k1).j i<|pr t.mask h<|k1+1)/\∀ k',k<=k'->k' < k1->∀ i:Nat,t.place[i]?=some (pr t.mask h k').j->hs[i]?≠some h
 | 0,k,0,e,hf=>by omega
 | 0,k,fuel+1,e,hf=>by
   have:k=K:=by omega
   subst this;refine .inl ⟨?_,fun k' h1 h2=>by omega⟩;unfold probe.go;rw[zjn G.dum F.none];dsimp only;rw[(zsu t.mask h k).2]
 | d+1,k,0,e,hf=>by omega
 | d+1,k,fuel+1,e,hf=>by
   have hm:=F.full k (by omega);obtain⟨i,hi⟩:=C8 hm;rw[AD] at hi;have hil:i < hs.length:=by
     rw[<-G.size]
     by_cases c:i < t.place.size
     . exact c
     rw[DL (by omega)] at hi;cases hi
   have hv:=Ak hil;have uniq:∀ i',t.place[i']?=some (pr t.mask h k).j->i'=i:=fun i' hi'=>by rw[<-below_at G.rise hi',below_at G.rise hi]
   by_cases c:hs[i]=h
   . refine .inr ⟨k,i,Af _,by omega,hi,by rw[hv,c],?_,fun k' h1 h2=>by omega⟩;unfold probe.go;rw[slot_live G.rise hi];dsimp only;rw[hH i _ hv,c,if_pos (by simp)];rfl
   . have stp:probe.go t hashAt h (fuel+1) (pr t.mask h k)=probe.go t hashAt h fuel (pr t.mask h<|k+1):=by
       conv=>lhs;unfold probe.go
       rw[slot_live G.rise hi];dsimp only;rw[hH i _ hv,if_neg (by simpa using c)];rfl
     rw[stp];have here:∀ i':Nat,t.place[i']?=some (pr t.mask h k).j->hs[i']?≠some h:=fun i' hi'=>by rw[uniq i' hi',hv];intro z;exact c<|Ax z
     rcases zm0 G hH F d (k+1) fuel (by omega) (by omega) with ⟨e1,e2⟩ | ⟨k1,i1,a1,a2,a3,a4,a5,a6⟩
     . refine .inl ⟨e1,fun k' h1 h2=>?_⟩
       by_cases q:k'=k
       . rw[q];exact here
       exact e2 k' (by omega) h2
     . refine .inr ⟨k1,i1,by omega,a2,a3,a4,a5,fun k' h1 h2=>?_⟩
       by_cases q:k'=k
       . rw[q];exact here
       exact a6 k' (by omega) h2
def probe_step{k:Nat}(G:Good t hs)(hH:∀ i x,hs[i]?=some x->hashAt i=x)(F:Free t h K)(hk:k<=K) :
   (t.probe hashAt h (pr t.mask h k)=some (.empty (pr t.mask h K).j none)/\∀ k',k<=k'->k' < K->∀ i:Nat,t.place[i]?=some (pr t.mask h k').j->hs[i]?≠some h) \/
   ∃ k1 i,k<=k1/\k1 < K/\t.place[i]?=some (pr t.mask h k1).j/\hs[i]?=some h/\t.probe hashAt h (pr t.mask h k)=some (.candidate (pr t.mask h k1).j i<|pr t.mask h<|k1+1)/\∀ k',k<=k'->k' < k1->∀ i:Nat,t.place[i]?=some (pr t.mask h k').j->hs[i]?≠some h :=
 zm0 G hH F (K - k) k (10*turns t.mask) (by omega) (by have:=F.few;omega)
def Good.before(G:Good t hs)(F:Free t h K)(hi:hs[i]?=some h):∃ k,k < K/\t.place[i]?=some (pr t.mask h k).j:=by
 have hil:i < t.place.size:=by rw[G.size];exact (List.getElem?_eq_some_iff.mp hi).1
 have hp:t.place.toList[i]?=some t.place[i]:=by rw[AD,AU hil]
 obtain⟨k,e,f⟩:=G.road _<|zni hp hi;dsimp only at e f;refine⟨k,?_,by rw[AU hil,e]⟩
 by_cases c:k < K
 . exact c
 . exfalso
   by_cases d:K < k
   . exact F.none<|f K d
   . have:k=K:=by omega
     subst this;exact F.none (by rw[e];simp)
variable {c:Nat}
def zpz(R:Rise xs)(h:c∈xs.toList.take (below xs j)):c < j:=by obtain⟨b1,b2,b3⟩:=below_spec (j:=j) R;obtain⟨i,hi,rfl⟩:=List.mem_iff_getElem.mp h;rw[A1] at hi;rw[EI];rw[<-getD_list];exact b2 i<|by omega
def zm6(R:Rise xs)(h:c∈xs.toList.drop (below xs j)):j<=c:=by obtain⟨b1,b2,b3⟩:=below_spec (j:=j) R;obtain⟨i,hi,rfl⟩:=List.mem_iff_getElem.mp h;rw[B9] at hi;rw[List.getElem_drop];rw[<-getD_list];exact b3 _ (by omega) (by simp at hi;omega)
def zmp{α β:Type}{x:α}{y:β}:∀ {a:List α} {b:List β} {p:Nat} {q:α×β},a.length=b.length->q∈(a.take p++x::a.drop p).zip (b.take p++y::b.drop p)->q=(x,y)\/q∈a.zip b
 | [],[],p,q,_,hq=>by simp at hq;exact .inl hq
 | [],b::bs,p,q,h,_=>by simp at h
 | a::as,[],p,q,h,_=>by simp at h
 | a::as,b::bs,0,q,h,hq=>by
   rcases List.mem_cons.mp hq with hq | hq
   . exact .inl hq
   exact .inr hq
 | a::as,b::bs,p+1,q,h,hq=>by
   rw[Gj,Gj,Gk,Gk,DT,DT,CM] at hq
   rcases List.mem_cons.mp hq with hq | hq
   . exact .inr (by rw[hq];exact Aj)
   . rcases zmp (by simpa using h) hq with e | e
     . exact .inl e
     exact .inr<|Ah _ e
def zoA{xs:Array α}{p:Nat}{x:α}(h:p<=xs.size):(insertAt xs p x).toList=xs.toList.take p++x::xs.toList.drop p:=by rw[SetTable.toList_insertAt]
def Good.put{t:SetTable}{hs:List Int}{h:Int}{K:Nat}(G:Good t hs)(F:Free t h K)(hr:t.place.size+1<=t.mask):Good (t.put (pr t.mask h K).j).1 (hs.take (t.put (pr t.mask h K).j).2++h::hs.drop (t.put (pr t.mask h K).j).2):=by
 obtain⟨b1,b2,b3⟩:=below_spec (j:=(pr t.mask h K).j) G.rise;have hin:=(zsu t.mask h K).1;have hd:(if has t.dummies (pr t.mask h K).j=true then eraseAt t.dummies (below t.dummies (pr t.mask h K).j) else t.dummies)=#[]:=by
   rw[G.dum];have:has #[] (pr t.mask h K).j=false:=by unfold has;simp
   rw[this];rfl
 have hl:(insertAt t.place (below t.place (pr t.mask h K).j) (pr t.mask h K).j).toList=t.place.toList.take (below t.place (pr t.mask h K).j)++(pr t.mask h K).j::t.place.toList.drop (below t.place (pr t.mask h K).j):=zoA b1;have hn:=F.none;have hs1:t.place.toList.length=hs.length:=by simpa using G.size
 have sub:∀ c,c∈t.place.toList->c∈(insertAt t.place (below t.place (pr t.mask h K).j) (pr t.mask h K).j).toList:=fun c hc=>by
   rw[hl];rw[<-List.take_append_drop (below t.place (pr t.mask h K).j) t.place.toList] at hc
   rcases List.mem_append.mp hc with hc | hc
   . exact Bw _ hc
   exact A0 _<|Ah _ hc
 have len:(insertAt t.place (below t.place (pr t.mask h K).j) (pr t.mask h K).j).size=t.place.size+1:=by rw[<-Au,hl];simp;omega
 unfold SetTable.put;dsimp only;rw[hd];refine⟨?_,rfl,?_,?_,G.siz,?_,?_⟩
 . show (insertAt t.place (below t.place (pr t.mask h K).j) (pr t.mask h K).j).size=_;rw[len,G.size];have:below t.place (pr t.mask h K).j<=hs.length:=by rw[<-G.size];exact b1
   simp;omega
 . show Rise (insertAt t.place (below t.place (pr t.mask h K).j) (pr t.mask h K).j);have R:=zeX.mp G.rise;rw[zeX,hl];refine List.pairwise_append.mpr ⟨R.sublist<|GJ _ _,List.pairwise_cons.mpr ⟨fun c hc=>?_,R.sublist<|List.drop_sublist _ _⟩,fun a ha b hb=>?_⟩
   . have h1:=zm6 G.rise hc;have h2:c≠(pr t.mask h K).j:=fun e=>hn<|e ▸ C9 hc;omega
   . have h1:=zpz G.rise ha
     rcases List.mem_cons.mp hb with rfl | hb
     . exact h1
     have:=zm6 G.rise hb;omega
 . intro c hc;have hc':c∈(insertAt t.place (below t.place (pr t.mask h K).j) (pr t.mask h K).j).toList:=hc;rw[hl] at hc'
   rcases List.mem_append.mp hc' with hc | hc
   . exact G.top c<|C7 hc
   . rcases List.mem_cons.mp hc with rfl | hc
     . show (pr t.mask h K).j<=t.mask;omega
     exact G.top c<|C9 hc
 . show (insertAt t.place (below t.place (pr t.mask h K).j) (pr t.mask h K).j).size<=t.mask;rw[len];exact hr
 . intro q hq;have hq':q∈(insertAt t.place (below t.place (pr t.mask h K).j) (pr t.mask h K).j).toList.zip (hs.take (below t.place (pr t.mask h K).j)++h::hs.drop (below t.place (pr t.mask h K).j)):=hq;rw[hl] at hq'
   rcases zmp hs1 hq' with rfl | hq
   . exact⟨K,rfl,fun k' hk'=>sub _ (F.full k' hk')⟩
   obtain⟨k,e,f⟩:=G.road q hq;exact⟨k,e,fun k' hk'=>sub _ (f k' hk')⟩
structure Lay(mask:Nat)(owner:Array (Option Nat))(hs:List Int)(ps:List Nat):Prop where
 size:owner.size=mask+1
 len:ps.length=hs.length
 nd:ps.Nodup
 top:∀ p∈ps,p<=mask
 at_:∀ (j q:Nat),owner[j]?=some (some q) ↔ ps[q]?=some j
 road:∀ q∈ps.zip hs,zpf mask ps q.2 q.1
variable {owner:Array (Option Nat)}{ps:List Nat}
def Lay.none_iff(L:Lay mask owner hs ps)(hj:j<=mask):(owner.getD j<|some 0).isNone=true ↔ j ∉ ps:=by
 have hlt:j < owner.size:=by rw[L.size];omega
 have e:owner.getD j (some 0)=owner[j]:=by simp[EN,hlt]
 have e2:owner[j]?=some owner[j]:=AU hlt;rw[e]
 cases ho:owner[j] with
 | none =>
   refine⟨fun _ hm=>?_,fun _=>rfl⟩;obtain⟨q,hq⟩:=C8 hm;have:=(L.at_ j q).mpr hq;rw[e2,ho] at this;cases this
 | some q =>
   refine⟨fun z=>(by cases z),fun hn=>?_⟩;exact absurd (AW<|(L.at_ j q).mp<|by rw[e2,ho]) hn
def zlv(h:i<=mask):runEnd mask i<=mask:=by unfold runEnd;split <;> omega
def zlw:i<=runEnd mask i:=by unfold runEnd;split <;> omega
def zm1{mask:Nat}{owner:Array (Option Nat)}{hs:List Int}{ps:List Nat}{h:Int}(L:Lay mask owner hs ps):∀ (fuel r:Nat),(∀ k',k' < tK mask h r->(pr mask h k').j∈ps)->(∃ r',r<=r'/\r' < r+fuel/\(tI mask h r').1 ∉ ps) ->
   ∃ j,layClean.free mask owner fuel (tI mask h r).1 (tI mask h r).2=some j/\j ∉ ps/\j<=mask/\zpf mask ps h j
 | 0,r,_,⟨r',h1,h2,_⟩=>by omega
 | fuel+1,r,hb,⟨r',h1,h2,h3⟩=>by
   have hi:(tI mask h r).1<=mask:=EH<|ztx mask h r;have re:=zlv hi;have rg:=zlw (mask:=mask) (i:=(tI mask h r).1);unfold layClean.free
   cases hf:(AV<|runEnd mask (tI mask h r).1+1 - (tI mask h r).1).find? fun k=>(owner.getD ((tI mask h r).1+k)<|some 0).isNone with
   | some k =>
     obtain⟨f1,f2,f3⟩:=List.find?_range_eq_some.mp hf;rw[F0] at f2;refine⟨(tI mask h r).1+k,rfl,(L.none_iff<|by omega).mp f1,by omega,tK mask h r+k,zk3 mask h r k<|by omega,fun k' hk'=>?_⟩
     by_cases c:k' < tK mask h r
     . exact hb k' c
     . obtain⟨c',rfl⟩:∃ c',k'=tK mask h r+c':=⟨k' - tK mask h r,by omega⟩
       rw[zk3 mask h r c' (by omega)];have:=f3 c'<|by omega
       by_cases d:(tI mask h r).1+c'∈ps
       . exact d
       rw[(L.none_iff<|by omega).mpr d] at this;cases this
   | none =>
     have fn:=List.find?_range_eq_none.mp hf;have all:∀ c,c<=runEnd mask (tI mask h r).1 - (tI mask h r).1->(tI mask h r).1+c∈ps:=fun c hc=>by
       have:=fn c<|by omega
       by_cases d:(tI mask h r).1+c∈ps
       . exact d
       rw[(L.none_iff<|by omega).mpr d] at this;cases this
     have ne:r'≠r:=fun e=>by have:=all 0<|AY _;rw[EX] at this;exact h3<|e ▸ this
     exact zm1 L fuel (r+1) (fun k' hk'=>by
       have ek:tK mask h (r+1)=tK mask h r+(runEnd mask (tI mask h r).1 - (tI mask h r).1)+1:=rfl
       by_cases c:k' < tK mask h r
       . exact hb k' c
       . obtain⟨c',rfl⟩:∃ c',k'=tK mask h r+c':=⟨k' - tK mask h r,by omega⟩
         rw[zk3 mask h r c' (by omega)];exact all c' (by omega)) ⟨r',by omega,by omega,h3⟩
def zi1{α β:Type}{x:α}{y:β}:∀ {a:List α} {b:List β} {q:α×β},a.length=b.length->q∈(a++[x]).zip (b++[y])->q=(x,y)\/q∈a.zip b
 | [],[],q,_,hq=>by simp at hq;exact .inl hq
 | [],b::bs,q,h,_=>by simp at h
 | a::as,[],q,h,_=>by simp at h
 | a::as,b::bs,q,h,hq=>by
   rw[DT,DT,CM] at hq
   rcases List.mem_cons.mp hq with hq | hq
   . exact .inr (by rw[hq];exact Aj)
   . rcases zi1 (by simpa using h) hq with e | e
     . exact .inl e
     exact .inr<|Ah _ e
def Lay.more(hz:Siz (mask+1))(L:Lay mask owner hs ps)(hr:ps.length<=mask):∃ j,layClean.free mask owner (turns mask) (bits h % (mask+1)) (bits h)=some j/\Lay mask (owner.setIfInBounds j<|some ps.length) (hs++[h]) (ps++[j]):=by
 obtain⟨e,he,hn⟩:=left (n:=mask+1) (l:=ps) (by omega);obtain⟨r,hr1,er⟩:=reach hz h<|EH he;obtain⟨j,f1,f2,f3,f4⟩:=zm1 (h:=h) L (turns mask) 0 (fun k' hk'=>absurd hk' (by simp[tK])) ⟨r,AY _,by unfold turns;omega,by rw[er];exact hn⟩;have hjs:j < owner.size:=by rw[L.size];omega
 refine⟨j,f1,by rw[Array.size_setIfInBounds];exact L.size,by simp[L.len],List.nodup_append.mpr ⟨L.nd,by simp,fun a ha b hb e=>f2 (by rw[List.mem_singleton.mp hb] at e;exact e ▸ ha)⟩,fun p hp=>?_,fun j' q=>?_,fun q hq=>?_⟩
 . rcases List.mem_append.mp hp with hp | hp
   . exact L.top p hp
   rw[List.mem_singleton.mp hp];exact f3
 . by_cases c:j'=j
   . subst c;rw[Array.getElem?_setIfInBounds_self_of_lt hjs]
     constructor
     . intro e;have:q=ps.length:=by
         have:=Ax<|Ax e;exact this.symm
       subst this;simp
     . intro e
       by_cases d:q < ps.length
       . rw[Az d] at e;exact absurd (AW e) f2
       . have hq:=(List.getElem?_eq_some_iff.mp e).1;simp at hq;have:q=ps.length:=by omega
         rw[this]
   . rw[Array.getElem?_setIfInBounds_ne (fun z=>c z.symm),L.at_]
     by_cases d:q < ps.length
     . rw[Az d]
     . constructor
       . intro e;exact absurd (List.getElem?_eq_some_iff.mp e).1 d
       . intro e;have hq:=(List.getElem?_eq_some_iff.mp e).1;simp at hq;have:q=ps.length:=by omega
         rw[this] at e;simp at e;exact absurd e.symm c
 . rcases zi1 L.len hq with rfl | hq
   . obtain⟨k,e1,e2⟩:=f4;exact⟨k,e1,fun k' hk'=>Bw _ (e2 k' hk')⟩
   obtain⟨k,e1,e2⟩:=L.road q hq;exact⟨k,e1,fun k' hk'=>Bw _ (e2 k' hk')⟩
def zrG(mask:Nat)(acc:Option (Array (Option Nat)×Nat))(h:Int):Option (Array (Option Nat)×Nat):=do
 let (owner,k) <-acc
 let j <-layClean.free mask owner (turns mask) (bits h % (mask+1)) (bits h)
 pure (owner.setIfInBounds j (some k),k+1)
def zm3{mask:Nat}(hz:Siz (mask+1)):∀ (rest:List Int) (owner:Array (Option Nat)) (hs:List Int) (ps:List Nat),Lay mask owner hs ps->hs.length+rest.length<=mask->∃ owner' ps',rest.foldl (zrG mask) (some (owner,ps.length))=some (owner',ps'.length)/\Lay mask owner' (hs++rest) ps'
 | [],owner,hs,ps,L,_=>⟨owner,ps,rfl,by rw[As];exact L⟩
 | h::rest,owner,hs,ps,L,hr=>by
   simp at hr;obtain⟨j,e,L'⟩:=L.more (h:=h) hz (by rw[L.len];omega);obtain⟨o',ps',e',L''⟩:=zm3 hz rest _ _ _ L' (by simp;omega);refine⟨o',ps',?_,by rw[Av] at L'';exact L''⟩;rw[List.foldl_cons];have:zrG mask (some (owner,ps.length)) h=some (owner.setIfInBounds j (some ps.length),(ps++[j]).length):=by unfold zrG;simp[e]
   rw[this];exact e'
def zo3(hz:Siz (mask+1))(hs:Array Int)(hr:hs.size<=mask):∃ owner ps,layClean mask hs=some owner/\Lay mask owner hs.toList ps:=by
 have L0:Lay mask (Ht (mask+1) none) [] []:=⟨by simp,rfl,Ec,by simp,fun j q=>by
   constructor
   . intro e;rw[Array.getElem?_replicate] at e
     split at e
     . cases e
     . cases e
   intro e;simp at e,by simp⟩
 obtain⟨o,ps,e,L⟩:=zm3 hz hs.toList _ _ _ L0 (by simpa using hr);refine⟨o,ps,?_,by simpa using L⟩;unfold layClean;rw[<-Array.foldl_toList];show (hs.toList.foldl (zrG mask)<|some (Ht (mask+1) none,0)).map _=_;rw[show (0:Nat)=([]:List Nat).length from rfl,e];rfl
def zhq{α:Type}[DecidableEq α]:∀ {l m:List α},l.Nodup->(∀ x∈l,x∈m)->l.length<=m.length
 | [],m,_,_=>AY _
 | x::r,m,nd,h=>by obtain⟨n1,n2⟩:=List.nodup_cons.mp nd;have hx:=h x Aj;have:=zhq (m:=m.erase x) n2 fun y hy=>(D8 (fun z:y=x=>n1 (z ▸ hy))).mpr<|h y<|Ah _ hy;rw[Ds hx] at this;have:=FM hx;simp;omega
variable {es:Array (Int×Value)}
def zhh{es:Array (Int×Value)}:∀ {l:List (Nat×Nat)},(∀ x∈l,x.2 < es.size)->((l.map (·.2)).filterMap (es[·]?)).length=l.length
 | [],_=>rfl
 | x::l,h=>by have hx:=h x Aj;rw[Ao,Fc (AU hx),AA,AA,zhh fun y hy=>h y (Ah _ hy)]
def zjE{es:Array (Int×Value)}:∀ {l:List (Nat×Nat)} {q:Nat×Int},(∀ x∈l,x.2 < es.size)->q∈(l.map (·.1)).zip (((l.map (·.2)).filterMap (es[·]?)).map (·.1))->∃ x∈l,q.1=x.1/\∃ e,es[x.2]?=some e/\q.2=e.1
 | [],q,_,hq=>by simp at hq
 | x::l,q,h,hq=>by
   have hx:=h x Aj;rw[Ao,Ao,Fc (AU hx),Ao,CM] at hq
   rcases List.mem_cons.mp hq with rfl | hq
   . exact⟨x,Aj,rfl,es[x.2],AU hx,rfl⟩
   obtain⟨y,hy,e⟩:=zjE (fun y hy=>h y (Ah _ hy)) hq;exact⟨y,Ah _ hy,e⟩
def laid_ok{finger moves:Nat}{led plain:Bool}(hz:Siz (mask+1))(es:Array (Int×Value))(hr:es.size<=mask) :
   ∃ t' order,laid mask finger moves led plain (es.map (·.1))=some (t',order)/\t'.mask=mask/\t'.led=led/\t'.plain=plain/\(order.filterMap (es[·]?)).size=es.size/\(order.filterMap (es[·]?)).toList.Perm es.toList/\Good t' ((order.filterMap (es[·]?)).toList.map (·.1)):=by
 obtain⟨owner,ps,ec,L⟩:=zo3 hz (es.map (·.1)) (by simpa using hr);have hn:ps.length=es.size:=by rw[L.len];simp
 generalize hlive:(AV<|mask+1).filterMap (fun j=>(owner.getD j none).map (j,·))=live;have mem:∀ x:Nat×Nat,x∈live ↔ ps[x.2]?=some x.1:=fun x=>by
   rw[<-hlive,List.mem_filterMap]
   constructor
   . rintro ⟨j,hj,e⟩;rw[F0] at hj
     cases ho:owner.getD j none with
     | none=>rw[ho] at e;cases e
     | some q =>
       rw[ho] at e;cases e;refine (L.at_ j q).mp ?_;have hlt:j < owner.size:=by rw[L.size];exact hj
       simp[EN,hlt] at ho;rw[AU hlt,ho]
   . intro h;have hj:x.1<=mask:=L.top x.1<|AW h;have hlt:x.1 < owner.size:=by rw[L.size];omega
     have ho:=(L.at_ x.1 x.2).mpr h;refine⟨x.1,List.mem_range.mpr<|by omega,?_⟩;have:owner.getD x.1 none=some x.2:=by rw[AU hlt] at ho;simp[EN,hlt];exact Ax ho
     rw[this];rfl
 have inn:∀ x∈live,x.2 < es.size:=fun x hx=>by rw[<-hn];exact (List.getElem?_eq_some_iff.mp<|(mem x).mp hx).1
 have pw:(live.map (·.1)).Pairwise (· < ·):=by
   rw[GO,<-hlive,List.pairwise_filterMap];refine List.pairwise_lt_range.imp ?_;intro a b hab x hx y hy
   cases ha:owner.getD a none with
   | none=>rw[ha] at hx;cases hx
   | some q =>
     cases hb:owner.getD b none with
     | none=>rw[hb] at hy;cases hy
     | some q' =>
       rw[ha] at hx;rw[hb] at hy;cases hx;cases hy;exact hab
 have memL:∀ j,j∈live.map (·.1) ↔ j∈ps:=fun j=>by
   constructor
   . intro h;obtain⟨x,hx,rfl⟩:=List.mem_map.mp h;exact AW<|(mem x).mp hx
   intro h;obtain⟨q,hq⟩:=C8 h;exact List.mem_map.mpr ⟨(j,q),(mem (j,q)).mpr hq,rfl⟩
 have ndL:(live.map (·.1)).Nodup:=pw.imp fun h=>Ap h;have lenL:live.length=es.size:=by have h1:=zhq ndL fun x hx=>(memL x).mp hx;have h2:=zhq L.nd fun x hx=>(memL x).mpr hx;rw[Ai] at h1 h2;omega
 have ordP:(live.map (·.2)).Perm (AV es.size):=zfT List.nodup_range (fun q hq=>by rw[F0,<-hn] at hq;exact List.mem_map.mpr ⟨(ps[q],q),(mem (ps[q],q)).mpr<|Ak hq,rfl⟩) (by rw[Ai,CT,lenL])
 have el:((live.map (·.2)).toArray.filterMap (es[·]?)).toList=(live.map (·.2)).filterMap (es[·]?):=by rw[Array.toList_filterMap]
 refine⟨{ mask:=mask,place:=(live.map (·.1)).toArray,dummies:=#[],finger:=finger,led:=led,moves:=moves,plain:=plain },(live.map (·.2)).toArray,?_,rfl,rfl,rfl,?_,?_,?_⟩
 . unfold laid;rw[ec];show some _=_;rw[hlive]
 . rw[<-Au,el,zhh inn,lenL]
 . rw[el];have:=ordP.filterMap fun i=>es[i]?;rw[filterMap_getElem?_range] at this;exact this
 . rw[el];refine⟨?_,rfl,?_,?_,hz,?_,?_⟩
   . rw[Ai,zhh inn];simp
   . rw[zeX];simpa using pw
   . intro p hp;have hp':p∈live.map (·.1):=by simpa using hp
     exact L.top p<|(memL p).mp hp'
   . show (live.map (·.1)).toArray.size<=mask;rw[Aq,Ai,lenL];exact hr
   . intro q hq;have hq':q∈(live.map (·.1)).zip (((live.map (·.2)).filterMap (es[·]?)).map (·.1)):=by simpa using hq
     obtain⟨x,hx,e1,e,e2,e3⟩:=zjE inn hq';have hps:=(mem x).mp hx;have hhs:(es.map (·.1)).toList[x.2]?=some e.1:=by rw[AD,Array.getElem?_map,e2];rfl
     obtain⟨k,k1,k2⟩:=L.road _<|zni hps hhs;dsimp only at k1 k2;refine⟨k,by rw[e3,e1];exact k1,fun k' hk'=>?_⟩;have:=(memL _).mpr<|k2 k' hk';rw[e3];simpa using this
end L2.MP.ST
namespace L2.MP
open PySem PySem.Spec PyProof.Rows
variable {prog:Program}{w:World}{A:Around}{E:Value->Shared->Prop}{s:Shared}{κ:Type}{v:Value}{b:Addr}{Q:Bool->Shared->Prop}{h:Heap}{e:Int×Value}
section
variable [DecidableEq κ] {knd:KeyKind prog w κ}
def zru(h:carriedByValue v=true)(n:Nat):ofAClassStatement n v=pure false:=by
 cases v with
 | ref a=>simp[carriedByValue] at h
 | _=>first | rfl | (unfold ofAClassStatement;rfl)
def zo7(h:carriedByValue v=true)(n:Nat):∃ c,hashByValue n v=pure c:=by
 cases v with
 | ref a=>simp[carriedByValue] at h
 | _=>first | exact⟨_,rfl⟩ | exact⟨_,by unfold hashByValue;rfl⟩
def zmv{ks:List κ}(hk:IsTupleKey knd s.heap ks b)(h:Q false s):wpAny (model prog w) A (ofAClassStatement 8<|.ref b) Q E s:=by
 have hT:=hk.typeIs;obtain⟨o,items,n,ho,_,hd,hi⟩:=hk;unfold ofAClassStatement;refine Aa<|BZ hT ?_;dsimp only;refine Aa<|Ab ?_;simp only[CK,Aw,if_false];refine Aa<|BA ho hd ?_;dsimp only;refine Aa ?_;rw[<-GG];refine DQ _ (fun rest r s'=>r.1=none/\s'=s/\∀ v∈rest,carriedByValue v=true) _ ?_ ?_ _ _ ⟨rfl,rfl,hi.byValue⟩
 . rintro v rest r s' ⟨hr,rfl,hall⟩;rw[zru (hall v Aj)];refine Aa<|Ab ?_;simp only[Aw,if_false];exact Ab ⟨rfl,rfl,fun u hu'=>hall u (Ah _ hu')⟩
 rintro ⟨r1,r2⟩ s' ⟨hr,rfl,_⟩;simp only at hr;subst hr;exact Ab h
def zpx{ks:List κ}(hk:IsTupleKey knd s.heap ks b)(h:∀ c,Q c s):wpAny (model prog w) A (hashByValue 8<|.ref b) Q E s:=by
 have hT:=hk.typeIs;obtain⟨o,items,n,ho,_,hd,hi⟩:=hk;unfold hashByValue;refine Aa<|Fo hT F.slot_tuple_hash.lookup ?_;dsimp only;refine Aa<|BA ho hd ?_;dsimp only[Option.getD];refine Aa ?_;rw[<-GG];refine BG (DQ _ (fun rest r s'=>r.1=none/\s'=s/\∀ v∈rest,carriedByValue v=true) (fun r s'=>s'=s/\(r.1=none\/r.1=some false)) ?t ?f _ _ ⟨rfl,rfl,hi.byValue⟩) ?m fun _ _ e=>e
 case t =>
   rintro v rest r s' ⟨hr,rfl,hall⟩;obtain⟨c,hc⟩:=zo7 (hall v Aj) 7;rw[hc];refine Aa<|Ab ?_
   cases c with
   | true =>
     simp only[CK,Aw,if_false];exact Ab ⟨rfl,rfl,fun u hu'=>hall u (Ah _ hu')⟩
   | false =>
     simp only[Dz,if_true];exact Ab ⟨rfl,.inr rfl⟩
 case f =>
   rintro r s' ⟨hr,rfl,_⟩;exact⟨rfl,.inl hr⟩
 case m =>
   rintro ⟨r1,r2⟩ s' ⟨rfl,hr⟩;simp only at hr
   rcases hr with rfl | rfl
   . exact Ab<|h true
   exact Ab<|h false
def EntT(knd:KeyKind prog w κ)(h:Heap)(e:Int×Value)(k:List κ):Prop:=e.1=tupleKeyHash knd k/\∃ b,e.2=.ref b/\IsTupleKey knd h k b
def EntT.inj{h:Heap}{e:Int×Value}{k k':List κ}(x:EntT knd h e k)(y:EntT knd h e k'):k=k':=by obtain⟨_,b,e2,i⟩:=x;obtain⟨_,b',e2',i'⟩:=y;rw[e2] at e2';cases e2';exact i.inj i'
def zpX{k:List κ}{ys:List Value}(hk:IsTupleKey knd s.heap k b)(hy:∀ y∈ys,∃ k' b',y=.ref b'/\IsTupleKey knd s.heap k' b')(h:Q false s):wpAny (model prog w) A (searchCouldBeSeen (.ref b) ys) Q E s:=by
 unfold searchCouldBeSeen;refine Aa ?_;refine DQ _ (fun rest r s'=>r.1=none/\s'=s/\∀ y∈rest,∃ k' b',y=.ref b'/\IsTupleKey knd s.heap k' b') _ ?_ ?_ _ _ ⟨rfl,rfl,hy⟩
 . rintro v rest r s' ⟨hr,rfl,hall⟩;obtain⟨k',b',rfl,hk'⟩:=hall v Aj;have rst:∀ y∈rest,∃ k' b',y=.ref b'/\IsTupleKey knd s'.heap k' b':=fun u hu'=>hall u<|Ah _ hu';dsimp only;refine Bt (fun _=>Ab ⟨rfl,rfl,rst⟩) fun _=>?_;refine Aa<|F1 hk ?_;simp only[CK,Aw,if_false];refine Aa<|F1 hk' ?_;simp only[CK,Aw,if_false];refine Aa<|zmv hk ?_;simp only[Aw,if_false];refine Aa<|zmv hk' ?_;simp only[Aw,if_false];exact Ab ⟨rfl,rfl,rst⟩
 rintro ⟨r1,r2⟩ s' ⟨hr,rfl,_⟩;simp only at hr;subst hr;exact Ab h
end
variable {t:SetTable}{es:Array (Int×Value)}{hs:List Int}{a:Addr}{o:Obj}{ep:Nat}
section
variable [DecidableEq κ] {knd:KeyKind prog w κ}
def zeH(G:ST.Good t (es.toList.map (·.1))):t.fits es.size=true:=by have h1:=G.size;have h2:=G.room;unfold SetTable.fits SetTable.fill;rw[G.dum];simp at h1 ⊢;omega
def zoJ(G:ST.Good t hs):t.gaveWay=false:=by
 unfold SetTable.gaveWay;have:=G.siz;apply beq_false_of_ne
 rcases this with h | h | h <;> omega
def zl4{i:Nat}{x:Int}(h:(es.toList.map (·.1))[i]?=some x):((es[i]?.map (·.1)).getD 0)=x:=by rw[AB,AD] at h;rw[h];rfl
def zlm{es:Array (Int×Value)}{k:List κ}{K:Nat}{Q:SetFound->Shared->Prop}(hu:A.units < cLine)(ho:s.heap.get? a=some o)(hd:o.data=.set es ep t)(G:ST.Good t (es.toList.map (·.1)))(el:∀ e∈es.toList,∃ k,EntT knd s.heap e k)(hk:IsTupleKey knd s.heap k b)(F:ST.Free t (tupleKeyHash knd k) K)
   (yes:(∃ e∈es.toList,EntT knd s.heap e k)->Q (.there none) s) (no:(¬ ∃ e∈es.toList,EntT knd s.heap e k)->Q (.free (ST.pr t.mask (tupleKeyHash knd k) K).j false) s) :
   ∀ (d fuel kk:Nat) (stand:Option SetTable.Probe),kk+d=K->d < fuel->stand.getD (t.probeStart<|tupleKeyHash knd k)=ST.pr t.mask (tupleKeyHash knd k) kk->(∀ k',k' < kk->∀ i:Nat,t.place[i]?=some (ST.pr t.mask (tupleKeyHash knd k) k').j->∀ e,es[i]?=some e->¬ EntT knd s.heap e k) ->
     wpAny (model prog w) A (setSearchFrom a (.ref b) (tupleKeyHash knd k) true fuel stand) Q E s:=by
 have hf:=zeH G;intro d
 induction d using Hs with
 | ind d ih =>
   intro fuel kk stand hkk hfu hst hbe;obtain⟨fuel,rfl⟩:∃ f,fuel=f+1:=⟨fuel - 1,by omega⟩
   unfold setSearchFrom;refine Aa<|A2 ho hd hf ?_;dsimp only;rw[zoJ G];simp only[Aw,if_false];rw[hst]
   rcases ST.probe_step (k:=kk) (hashAt:=fun i=>(es[i]?.map (·.1)).getD 0) G (fun i x h=>zl4 h) F (by omega) with ⟨e1,e2⟩ | ⟨k1,i,a1,a2,a3,a4,a5,a6⟩
   . have e1':t.probe _ (tupleKeyHash knd k) (ST.pr t.mask (tupleKeyHash knd k) kk)=_:=e1
     first | rw[e1'] | erw[e1']
     dsimp only;refine Ab<|no ?_;rintro ⟨e,he,hE⟩;obtain⟨i,hi⟩:=C8 he;rw[AD] at hi;have hh:(es.toList.map (·.1))[i]?=some (tupleKeyHash knd k):=by rw[AB,AD,hi,<-hE.1];rfl
     obtain⟨k',hk',hp⟩:=G.before F hh
     by_cases c:k' < kk
     . exact hbe k' c i hp e hi hE
     exact e2 k' (by omega) hk' i hp hh
   · first | rw[a5] | erw[a5]
     dsimp only;rw[AB,AD] at a4;obtain⟨⟨hy,y⟩,hes,hyh⟩:=zaj a4;have hmem:(hy,y)∈es.toList:=by rw[<-AD] at hes;exact AW hes
     obtain⟨ky,hEy⟩:=el _ hmem;obtain⟨hh,b',hb',hkb⟩:=id hEy;dsimp only at hb';subst hb';have cont:wpAny (model prog w) A (do
         let some (_,y):=es[i]? | unsupported "internal:set-entry"
         let equal <-holding [y] (eqBool y<|.ref b)
         let (es',_,t') <-setState a
         if true&&equal then return .there none
         let some same:=t'.sameMemory t.moves t.mask | unsupported "set.changed-during-lookup:is-the-new-block-at-the-old-address"
         let still <-match (if same then t'.slot (ST.pr t.mask (tupleKeyHash knd k) k1).j else .empty) with
           | .live i'=>match es'[i']? with
             | some (_,y')=>do pure (if <-isSame y' y then some i' else none)
             | none=>pure none
           | _=>pure none
         match still with
         | none=>rule "set.search.anew";setSearchFrom a (.ref b) (tupleKeyHash knd k) true fuel none
         | some i'=>if equal then return .there (some i') else setSearchFrom a (.ref b) (tupleKeyHash knd k) true fuel (some<|ST.pr t.mask (tupleKeyHash knd k)<|k1+1)) Q E s:=by
       rw[hes];dsimp only;refine Aa<|AS<|wpAny_eqBool_tuple hu hkb hk ?_;refine Aa<|A2 ho hd hf ?_;dsimp only
       by_cases c:ky=k
       . rw[decide_eq_true c];simp only[DO,if_true];exact Ab<|yes ⟨_,hmem,c ▸ hEy⟩
       . rw[decide_eq_false c];simp only[Cd,Aw,if_false];have sm:t.sameMemory t.moves t.mask=some true:=by unfold SetTable.sameMemory;rw[if_pos (by simp)]
         rw[sm];dsimp only;rw[if_pos rfl,ST.slot_live G.rise a3];dsimp only;rw[hes];dsimp only;refine Aa<|wpAny_isSame_ref_self ?_;refine Aa<|Ab ?_;simp only[if_true];refine ih (K - (k1+1)) (by omega) fuel (k1+1) _ (by omega) (by omega) rfl fun k' hk' i' hp' e' he' hE'=>?_
         by_cases q:k' < kk
         . exact hbe k' q i' hp' e' he' hE'
         . by_cases q2:k'=k1
           . subst q2;have:i'=i:=by rw[<-ST.below_at G.rise hp',ST.below_at G.rise a3]
             subst this;rw[hes] at he';cases he';exact c<|hEy.inj hE'
           refine a6 k' (by omega) (by omega) i' hp' ?_;rw[AB,AD,he',<-hE'.1];rfl
     cases hl:t.led with
     | true =>
       simp only[CK,Aw,if_false];exact cont
     | false =>
       simp only[Dz,if_true];refine Aa<|zpX hk (fun y hy=>?_) ?_
       . obtain⟨e,he,rfl⟩:=List.mem_map.mp hy;have he':e∈es.toList:=by
           have:=he;simp at this;exact this.1 |> fun z=>by simpa using z
         obtain⟨k2,_,b2,e2,i2⟩:=el e he';exact⟨k2,b2,e2,i2⟩
       simp only[Aw,if_false];exact cont
end
variable {g:Heap}
section
variable [DecidableEq κ] {knd:KeyKind prog w κ}
def SetT(knd:KeyKind prog w κ)(src:Value->Prop)(g h:Heap)(a:Addr)(ms:List (List κ)):Prop :=
 ∃ o es ep t,h.get? a=some o/\o.ExactSet/\o.data=.set es ep t/\(∀ e∈es.toList,∃ k,EntT knd g e k)/\(∀ k,k∈ms ↔ ∃ e∈es.toList,EntT knd g e k)/\es.size=ms.length/\ST.Good t (es.toList.map (·.1))/\t.place.size*5 < t.mask*3/\(w.params.followText "set-order"=true\/t.led=true)/\∀ e∈es.toList,src e.2
def zkz{p:Bool}(G:ST.Good t hs):ST.Good { t with plain:=p } hs:=⟨G.size,G.dum,G.rise,G.top,G.siz,G.room,G.road⟩
def znU{j:Nat}:(t.put j).1.mask=t.mask/\(t.put j).1.led=t.led/\(t.put j).1.plain=t.plain:=⟨rfl,rfl,rfl⟩
def zgj{es2:Array (Int×Value)}{t2:SetTable}(g:h.get? a=some o)(gd:o.data=.set es ep t):(h.update a<|Dy es2 t2).get? a=some { o with data:=.set es2 (ep+1) t2 }:=by have:=A3 (Dy es2 t2) g (by rw[putSet_of es2 t2 gd];rfl);rw[putSet_of es2 t2 gd] at this;exact this
def EntT.up{k:List κ}(sub:∀ b o,g.get? b=some o->h.get? b=some o)(x:EntT knd g e k):EntT knd h e k:=by obtain⟨e1,b,e2,o',items,n,gg,r⟩:=x;exact⟨e1,b,e2,o',items,n,sub _ _ gg,r⟩
def zou{k:List κ}{b:Addr}(sub:∀ b o,g.get? b=some o->h.get? b=some o)(x:IsTupleKey knd g k b):IsTupleKey knd h k b:=by obtain⟨o',items,n,gg,r⟩:=x;exact⟨o',items,n,sub _ _ gg,r⟩
def zoI{n m:Nat}(hz:ST.Siz (m+1))(h1:n*5 < m*3)(h2:(n+1)*5 ≥ m*3)(h3:n+1 < 64):∃ m',SetTable.sizeAbove (SetTable.grown<|n+1) - 1=m'/\ST.Siz (m'+1)/\n+1<=m'/\(n+1)*5 < m'*3/\SetTable.sizeAbove (SetTable.grown<|n+1)<=1000:=by
 rcases hz with h | h | h
 . have:n=4:=by omega
   subst this;exact⟨31,by decide +kernel,.inr<|.inl rfl,by decide,by decide,by decide +kernel⟩
 . have:n=18:=by omega
   subst this;exact⟨127,by decide +kernel,.inr<|.inr rfl,by decide,by decide,by decide +kernel⟩
 omega
def add_tuple{ms:List (List κ)}{k:List κ}{b:Addr}{src:Value->Prop}{G0:Heap}(hu:A.units < cLine)(sub:∀ b o,G0.get? b=some o->s.heap.get? b=some o)(x:SetT knd src G0 s.heap a ms)(hk:IsTupleKey knd G0 k b)(hsr:src (.ref b))(room:ms.length+1 < 64)
   (q:∀ c h',Be a s.heap h'->SetT knd src G0 h' a (if k∈ms then ms else ms++[k])->Q c { s with heap:=h' }) :
   wpAny (model prog w) A (setAddHashed a (.ref b)<|tupleKeyHash knd k) Q E s:=by
 obtain⟨o,es,ep,t,g,gx,gd,k1,k2,k3,k4,k5,k7,k9⟩:=id x;have hf:=zeH k4;obtain⟨K,F⟩:=k4.free<|tupleKeyHash knd k;have few:K < 100000:=by
   have h1:=F.few;have h2:=k4.siz;unfold SetTable.turns at h1
   rcases h2 with h | h | h <;> omega
 have szs:t.place.size=es.size:=by have:=k4.size;simpa using this
 unfold setAddHashed;refine AS ?_;show wpAny _ _ (setAddHashedIn a (.ref b) (tupleKeyHash knd k)<|99999+1) _ _ _;unfold setAddHashedIn;refine Aa<|A2 g gd hf ?_;dsimp only;have bs:byScan (.ref b) es=false:=rfl;rw[bs];simp only[Aw,if_false];have dn:(∃ e∈es.toList,EntT knd s.heap e k)->∃ e∈es.toList,EntT knd G0 e k:=fun⟨e,he,y⟩=>by obtain⟨k',hk'⟩:=k1 e he;have:=(hk'.up sub).inj y;subst this;exact⟨e,he,hk'⟩
 unfold setSearch;refine Aa<|zlm hu g gd k4 (fun e he=>(k1 e he).elim fun k' y=>⟨k',y.up sub⟩) (zou sub hk) F (fun yes=>?_) (fun no=>?_) K 100000 0 none (by omega) few rfl fun k' hk'=>by omega
 . dsimp only;refine Ab ?_;have hm:=(k2 k).mpr<|dn yes;have es0:s={ s with heap:=s.heap }:=by cases s;rfl
   rw[es0];refine q false s.heap (GQ a s.heap) ?_;rw[if_pos hm];exact x
 . dsimp only;refine Aa<|A2 g gd hf ?_;dsimp only;have hm:k ∉ ms:=fun z=>no<|((k2 k).mp z).elim fun e y=>⟨e,y.1,y.2.up sub⟩;have Gp:=k4.put F (by rw[szs] at k5 ⊢;rcases k4.siz with h | h | h <;> omega);obtain⟨pm,pl,pp⟩:=znU (t:=t) (j:=(ST.pr t.mask (tupleKeyHash knd k) K).j);generalize t.put (ST.pr t.mask (tupleKeyHash knd k) K).j=pt at Gp pm pl pp;obtain⟨t1,p⟩:=pt;dsimp only at Gp pm pl pp ⊢;have el:(SetTable.insertAt es p (tupleKeyHash knd k,AC b)).toList=es.toList.take p++(tupleKeyHash knd k,AC b)::es.toList.drop p:=SetTable.toList_insertAt _ _ _;have ep1:(SetTable.insertAt es p (tupleKeyHash knd k,AC b)).toList.Perm (es.toList++[(tupleKeyHash knd k,AC b)]):=by
     have:=SetTable.insertAt_perm es p (tupleKeyHash knd k,AC b);rw[EG] at this;exact this
   have eh:(SetTable.insertAt es p (tupleKeyHash knd k,AC b)).toList.map (·.1)=(es.toList.map (·.1)).take p++tupleKeyHash knd k::(es.toList.map (·.1)).drop p:=by rw[el,Fv,Ao,List.map_take,Gd]
   rw[<-eh] at Gp;generalize SetTable.insertAt es p (tupleKeyHash knd k,AC b)=es1 at Gp ep1;have sz1:es1.size=es.size+1:=by rw[<-Au,ep1.length_eq];simp
   have new:EntT knd G0 (tupleKeyHash knd k,AC b) k:=⟨rfl,b,rfl,hk⟩
   have m1:∀ e∈es1.toList,∃ k,EntT knd G0 e k:=fun e he=>by
     rcases List.mem_append.mp (ep1.mem_iff.mp he) with he | he
     . exact k1 e he
     rw[List.mem_singleton.mp he];exact⟨k,new⟩
   have m2:∀ k',k'∈ms++[k] ↔ ∃ e∈es1.toList,EntT knd G0 e k':=fun k'=>by
     rw[Hr,Ck,k2 k']
     constructor
     . rintro (⟨e,he,x⟩ | rfl)
       . exact⟨e,ep1.mem_iff.mpr<|Bw _ he,x⟩
       exact⟨_,ep1.mem_iff.mpr<|A0 _ Aj,new⟩
     . rintro ⟨e,he,x⟩
       rcases List.mem_append.mp (ep1.mem_iff.mp he) with he | he
       . exact .inl ⟨e,he,x⟩
       rw[List.mem_singleton.mp he] at x;exact .inr<|x.inj new
   have m9:∀ e∈es1.toList,src e.2:=fun e he=>by
     rcases List.mem_append.mp (ep1.mem_iff.mp he) with he | he
     . exact k9 e he
     rw[List.mem_singleton.mp he];exact hsr
   have m3:es1.size=(ms++[k]).length:=by rw[sz1,k3];simp
   have ps1:t1.place.size=es1.size:=by have:=Gp.size;simpa using this
   have bound:es1.size < 4096:=by rw[m3];simp;omega
   have tail:∀ (t2:SetTable),ST.Good t2 (es1.toList.map (·.1))->t2.mask=t.mask->t2.led=t.led->wpAny (model prog w) A (do
       storeSet a es1 t2
       if (!false&&t2.tooFull)=true then do
           setRelay a (SetTable.grown<|es.size+1)
           pure true
         else pure true) Q E s:=fun t2 G2 e1 e2=>by
     rw[<-e2] at k7;have ps2:t2.place.size=es1.size:=by have:=G2.size;simpa using this
     refine Aa<|DD g gd ?_<|DE bound;have g1:=zgj (es2:=es1) (t2:=t2) g gd;have b1:=AQ s.heap a<|Dy es1 t2;generalize s.heap.update a (Dy es1 t2)=h1 at g1 b1;have full:t2.tooFull=decide ((es.size+1)*5 ≥ t.mask*3):=by unfold SetTable.tooFull SetTable.fill;rw[G2.dum,ps2,sz1,e1];rfl
     rw[full]
     by_cases c:(es.size+1)*5 ≥ t.mask*3
     . rw[decide_eq_true c];simp only[Dz,HD,if_true];obtain⟨m',hm',z1,z2,z3,z4⟩:=zoI (n:=es.size) k4.siz (by rw[<-szs];exact k5) c (by rw[k3];exact room);obtain⟨t3,order,el3,l1,l2,l3,l4,l5,l6⟩:=ST.laid_ok (mask:=m') (finger:=t2.finger) (moves:=t2.movedTo m') (led:=t2.led) (plain:=t2.plain) z1 es1 (by rw[sz1];exact z2);have er:t2.relaid (es1.map (·.1)) (SetTable.grown<|es.size+1)=some (t3,order):=by
         unfold SetTable.relaid;rw[hm'];exact el3
       unfold setRelay;refine Aa<|Aa<|A2 (s:={ s with heap:=h1 }) g1 rfl (zeH G2) ?_;dsimp only;have hs:sizeLine=16777216:=by decide
       rw[if_neg (by omega),er];refine Aa (show wpAny _ _ (if ((order.filterMap (es1[·]?)).size != es1.size)=true then unsupported "internal:set-table-lost-an-element" else pure (order.filterMap (es1[·]?),t3)) _ _ _ from ?_);rw[l4];simp only[bne_self_eq_false,Aw,if_false];refine Ab ?_;dsimp only;generalize order.filterMap (es1[·]?)=es3 at l4 l5 l6;refine DD (s:={ s with heap:=h1 }) g1 rfl ?_<|DE (by rw[l4];exact bound);have w1:∀ e∈es3.toList,∃ k,EntT knd G0 e k:=fun e he=>m1 e<|l5.mem_iff.mp he;have w2:∀ k',k'∈ms++[k] ↔ ∃ e∈es3.toList,EntT knd G0 e k':=fun k'=>(m2 k').trans ⟨fun⟨e,he,u⟩=>⟨e,l5.mem_iff.mpr he,u⟩,fun⟨e,he,u⟩=>⟨e,l5.mem_iff.mp he,u⟩⟩;have k8:w.params.followText "set-order"=true\/t3.led=true:=by rw[l2];exact k7
       have gx1:Obj.ExactSet { o with data:=.set es1 (ep+1) t2 }:=gx;have g3:=zgj (h:=h1) (es2:=es3) (t2:=t3) g1 rfl;refine Ab<|q true _ (b1.trans<|AQ _ a _) ?_;rw[if_neg hm];have ps3:t3.place.size=es3.size:=by have:=l6.size;simpa using this
       exact⟨_,es3,_,t3,g3,gx,rfl,w1,w2,l4.trans m3,l6,by rw[ps3,l4,sz1,l1];exact z3,k8,fun e he=>m9 e (l5.mem_iff.mp he)⟩
     rw[decide_eq_false c];simp only[Dz,Cd,Aw,if_false];refine Ab<|q true _ b1 ?_;rw[if_neg hm];exact⟨_,es1,_,t2,g1,gx,rfl,m1,m2,m3,G2,by rw[ps2,sz1,e1];omega,k7,m9⟩
   have fin:∀ c:Bool,wpAny (model prog w) A (do
       storeSet a es1 (if c=true then t1 else { t1 with plain:=false })
       if (!false&&(if c=true then t1 else { t1 with plain:=false }).tooFull)=true then do
           setRelay a (SetTable.grown<|es.size+1)
           pure true
         else pure true) Q E s:=fun c=>by
     cases c with
     | true=>exact tail t1 Gp pm pl
     | false=>exact tail { t1 with plain:=false } (zkz Gp) pm pl
   cases hp:t1.plain with
   | true =>
     simp only[if_true];exact Aa<|zpx (zou sub hk) fun c=>fin c
   | false =>
     simp only[Aw,if_false];exact Aa<|Ab<|fin true
end
end L2.MP
namespace L2.MP
open PySem PySem.Spec
def zkB(led:Bool):ST.Good (SetTable.fresh 0 0 led) []:=by
 refine⟨rfl,rfl,fun i j _ h=>?_,fun p hp=>?_,.inl rfl,AY _,fun q hq=>?_⟩
 . exact absurd (show j < 0 from h)<|Hj _
 . exact absurd (show p∈([]:List Nat) from hp)<|by simp
 exact absurd (show q∈([]:List (Nat×Int)) from hq)<|by simp
def zkA(led:Bool):(SetTable.fresh 0 0 led).place.size*5 < (SetTable.fresh 0 0 led).mask*3:=by
 show 0*5 < 7*3
 decide
variable {κ:Type}
def zoh[DecidableEq κ](val:Nat->κ)(i:Nat):met val (i+1)=if val i∈met val i then met val i else met val i++[val i]:=by rw[met]
variable {prog:Program}{w:World}{A:Around}{src:Value->Prop}
section
variable {R:Result->Shared->Prop} {I:Addr} {fp wr:List Addr} {G:Array GenState->Array GenState->Prop} {n:Nat} {P:Nat->Value->Prop} {St:Nat->Shared->Prop} [DecidableEq κ] {knd:KeyKind prog w κ}
def zlh(W:WalksS prog w A.in1 I fp wr G n P St)(Z:Addr)(hZ:Z ∉ fp)(val:Nat->List κ){G0:Heap}(hu:A.in1.units < cLine)(hv:∀ i v,P i v->∃ b,v=.ref b/\IsTupleKey knd G0 (val i) b/\src v)(hwr:∀ b∈Z::wr,G0.get? b=none)(hb:n < 63) :
   ∀ (k i:Nat) (s:Shared),n - i=k->i<=n->St i s->(∀ b o,G0.get? b=some o->s.heap.get? b=some o)->SetT knd src G0 s.heap Z (met val i) ->
     (∀ s',Moved (Z::wr) G s s'->SetT knd src G0 s'.heap Z (met val n)->R (.ok<|.ret .none) s') ->
     codeAny (model prog w) A (.builtin "set.update.loop" ⟨[.ref Z,.ref I],[]⟩) R s:=by
 have hw:Z ∉ wr:=fun q=>hZ<|W.sub _ q;have up:∀ b∈wr,b∈Z::wr:=fun b q=>Ah _ q;have keep:∀ {s s':Shared} {ms:List (List κ)},Moved wr G s s'->SetT knd src G0 s.heap Z ms->SetT knd src G0 s'.heap Z ms:=fun hm x=>by obtain⟨o,es,ep,t,ho,r⟩:=x;exact⟨o,es,ep,t,hm.heap Z _ hw ho,r⟩
 have base:∀ {s s':Shared},Moved wr G s s'->(∀ b o,G0.get? b=some o->s.heap.get? b=some o)->∀ b o,G0.get? b=some o->s'.heap.get? b=some o:=fun hm x b o e=>hm.heap b o (fun q=>by rw[hwr b (up b q)] at e;cases e)<|x b o e;intro k
 induction k with
 | zero =>
   intro i s hk hi hs sub x go;have e:i=n:=by omega
   subst e;refine Bs BL ?_;rw[Bi Bj _];show wpAny _ A.in1 (pyNext (.ref I) >>= _) _ _ s;refine Aa<|W.done s _ _ hs fun s' hm=>?_;exact Ab<|go s' (hm.mono up)<|keep hm x
 | succ k ih =>
   intro i s hk hi hs sub x go;have lt:i < n:=by omega
   refine Bs BL ?_;rw[Bi Bj _];show wpAny _ A.in1 (pyNext (.ref I) >>= _) _ _ s;refine Aa<|W.item i s _ _ lt hs fun v s1 hP hs1 hm=>?_;obtain⟨b,rfl,v1,v9⟩:=hv i v hP;have x1:=keep hm x;have sub1:=base hm sub;show wpAny _ A.in1 (holding [_] (setAdd Z _) >>= _) _ _ s1;refine Aa<|AS ?_;unfold setAdd;refine AS<|Aa<|wpAny_pyHash_tuple hu (zou sub1 v1) ?_;have room:(met val i).length+1 < 64:=by have:=zgu val i;omega
   refine add_tuple (s:={ s1 with toks:=s1.toks+((val i).length+1) }) hu sub1 x1 v1 v9 room fun c h' sb x2=>?_;have x3:SetT knd src G0 h' Z (met val<|i+1):=by
     rw[zoh]
     by_cases q:val i∈met val i
     . rw[if_pos q] at x2 ⊢;exact x2
     rw[if_neg q] at x2 ⊢;exact x2
   have zn:G0.get? Z=none:=hwr Z Aj;refine Ab ⟨BX Bj _,ih (i+1) _ (by omega) lt (W.frame _ s1 _ _ hs1 (BY _ _) fun b hb o e=>?_) (fun b o e=>?_) x3 fun s2 hm2 x4=>?_⟩
   . rw[sb.2 b (fun q:b=Z=>hZ (by rw[<-q];exact hb))];exact e
   . rw[sb.2 b (fun q:b=Z=>by rw[q,zn] at e;cases e)];exact sub1 b o e
   refine go s2 (HU W.gtrans ((hm.mono up).then_heap (BY _ _) fun b o hb e=>?_) hm2) x4;rw[sb.2 b (fun q:b=Z=>hb (by rw[q];exact Aj))];exact e
end
variable {s:Shared}
section
variable {E:Value->Shared->Prop}
def zlj[DecidableEq κ]{knd:KeyKind prog w κ}{l:Addr}{its:Array Value}{val:Nat->List κ}{Q:Value->Shared->Prop}(hh:A.handled=none)(hu:A.units+100 < cLine)(hl:s.heap.IsList l its)(hv:∀ (i:Nat) (v:Value),its[i]?=some v->∃ b,v=.ref b/\IsTupleKey knd s.heap (val i) b/\src v)(hb:its.size < 63)
   (go:∀ (h':Heap) (tk:Nat),SetT knd src s.heap h' s.heap.objs.size (met val its.size)->(∀ b o,b < s.heap.objs.size->s.heap.get? b=some o->h'.get? b=some o)->Q (.ref s.heap.objs.size) { s with heap:=h',toks:=tk }) :
   wpAny (model prog w) A (call (.type "set") [.ref l]) Q E s:=by
 obtain⟨c,tl,hmro⟩:=F.called_set.mro;have q1:=F.called_set.made;have q2:=F.called_set.sub;refine G8<|Fx ?_;show wpAny _ _ (callAny (.type "set") _) _ _ _;refine Ab ⟨GD _<|by decide +kernel,Bs F.entry_type_call ?_⟩;rw[GF (FZ "set" [.ref l] []) rfl];have q3:=F.called_set.notType;have q4:=F.called_set.canCreate;have q5:=F.typeCall_set_1<|.ref l
 repeat (any_goals (first | assumption | wp_step))
 refine CW (zju (.ref l) (E:=E) (Q₁:=fun obj s₁=>∃ led:Bool,led=(!w.params.followText "set-order")/\obj=.ref s.heap.objs.size/\s₁={ s with heap:=s.heap.push (zfl led) }) ⟨_,rfl,rfl,rfl⟩) fun r s1 hr=>?_
 cases r with
 | error e=>exact hr
 | ok fl =>
   cases fl with
   | ret obj =>
     obtain⟨led,hled,rfl,rfl⟩:=hr;have at0:(s.heap.push<|zfl led).get? s.heap.objs.size=some (zfl led):=Al _ rfl;have ty:Shared.TypeIs { s with heap:=s.heap.push (zfl led) } (.ref s.heap.objs.size) "set":=⟨_,at0,rfl⟩
     have q6:=F.called_set.init.lookup;have q7:=F.called_set.init.bind<|.ref s.heap.objs.size
     repeat (any_goals (first | assumption | wp_step))
     refine CW (Ga (R:=wants (fun r s₂=>r=.none/\∃ h' tk,s₂={ s with heap:=h',toks:=tk }/\SetT knd src s.heap h' s.heap.objs.size (met val its.size)/\(∀ b o,b < s.heap.objs.size->s.heap.get? b=some o->h'.get? b=some o)) E) F.called_set.init.plain F.entry_set_init<|check_set_init_1 ty ?_) fun r2 s2 hr2=>?_
     . obtain⟨u,hu,hc,m,hd⟩:=hl;obtain⟨uc,ud,ux,us⟩:=u;simp only at hc hd;subst hc;subst hd;have at1:(s.heap.push<|zfl led).get? l=some { cls:=.type "list",dict:=ud,data:=.seq its m,slots:=us }:=Ad _ hu;have l1:(s.heap.push<|zfl led).IsList l its:=⟨_,at1,rfl,m,rfl⟩
       have z1:=F.sub_list_set;have z2:=F.sub_list_frozenset;have z3:(Cr "list"==Cr "dict")=false:=by decide
       unfold Builtin.«set.__init__» noKeywords Ef;generalize hPI:pyIter=PI
       wp_walk
       subst hPI;refine CS l1<|Aa<|FY ?_;have ll:l < s.heap.objs.size:=Am hu;have h3:A.in1.in1.in1.handled=none:=by simp[hh]
       have n1:l≠(s.heap.push<|zfl led).objs.size:=by rw[A4];exact Ap<|B1 ll
       have n2:s.heap.objs.size ∉ [(s.heap.push<|zfl led).objs.size,l]:=by
         rw[A4,AI,Ck];rintro (z | z)
         . exact absurd z<|Ap<|EW _
         exact absurd z<|AJ ll
       refine zlh (G0:=s.heap) ((Hg h3 _ l n1 its).toS) s.heap.objs.size n2 val (by simp only[PyProof.Rows.units_in1];omega) hv ?wr hb (its.size - 0) 0 _ (by omega) (AY _) ⟨⟨_,Al _ rfl,rfl,rfl⟩,(l1.push _)⟩ (fun b o e=>Ad _ (Ad _ e)) ?first ?rest
       case wr =>
         intro b hb;have hsz:s.heap.objs.size<=b:=by
           rcases List.mem_cons.mp hb with rfl | hb
           . exact Af _
           rw[List.mem_singleton.mp hb,A4];exact BM _
         cases e:s.heap.get? b with
         | none=>rfl
         | some u=>exact absurd (Am e)<|Nat.not_lt.mpr hsz
       case first =>
         have g:((s.heap.push<|zfl led).push { cls:=.type "list_iterator",data:=.fields #[.ref l,.int 0 0] }).get? s.heap.objs.size=some (zfl led):=Ad _ at0;exact⟨_,#[],0,_,g,⟨rfl,rfl,rfl⟩,rfl,fun e he=>(by simp at he),fun k=>(by simp[met]),rfl,zkB led,zkA led,(by rw[hled];cases w.params.followText "set-order";exact .inr rfl;exact .inl rfl),fun e he=>(by simp at he)⟩
       case rest =>
         intro s' hm x;obtain⟨h',g',d',tk',os'⟩:=s';have eg:g'=s.gens:=hm.gens;have ed:d'=s.drawn:=hm.drawn;have eo:os'=s.os:=hm.os;subst eg;subst ed;subst eo;show wpAny _ _ _ _ _ _;refine Ab ?_;show wpAny _ _ (ret AZ) _ _ _;refine Ab ⟨rfl,h',tk',rfl,x,fun b o hb e=>?_⟩;refine hm.heap b o ?_<|Ad _<|Ad _ e;rw[A4,AI,Ck];rintro (z | z)
         . exact absurd z<|Ap hb
         exact absurd z<|Ap<|B1 hb
     . cases r2 with
       | error e=>exact hr2
       | ok fl2 =>
         cases fl2 with
         | ret r =>
           obtain⟨rfl,h',tk,rfl,x,k⟩:=hr2
           repeat (any_goals (first | assumption | wp_step))
           exact go _ _ x k
         | _=>exact hr2.elim
   | _=>exact hr.elim
end
open PyProof.Rows
def zjK(ts:List (List Int)):List (List Int):=met (fun i=>ts.getD i []) ts.length
def refOf:Value->Addr
 | .ref b=>b
 | _=>0
inductive SetY (w:World) (a:Addr) (as:List Addr) (h:Heap):Prop
 | mk (o:Obj) (es:Array (Int×Value)) (ep:Nat) (t:SetTable) (h1:h.get? a=some o) (h2:o.ExactSet) (h3:o.data=.set es ep t) (h4:es.toList.map (·.2)=as.map AC) (h5:ST.Rise t.place) (h6:t.fits es.size=true) (h7:es.size < 64) (h8:∃ b:Bool,w.params.followText "set-order"=b/\(b=true\/t.led=true))
variable {P:Program}{H:Hp}{h:Heap}{as:List Addr}
def zpT{a:Addr}{w':World}(x:SetY w' a as h):zdN P w H h a (.ext<|SetY w' a as):=by have y:=x;obtain⟨o,es,ep,t,h1⟩:=y;refine⟨x,⟨o,h1⟩,?_⟩;rintro g1 g2 ⟨o,es,ep,t,h1,h2,h3,h4,h5,h6,h7,h8⟩ k;exact⟨o,es,ep,t,k o h1,h2,h3,h4,h5,h6,h7,h8⟩
def zgz{P:Program}{w:World}:∀ {t:List Int} {its:List Value},Vals (t.map V.int) its->ItemsAre (intKind P w) t its
 | [],its,h=>by cases h;exact .nil
 | z::t,its,h=>by
   cases h with
   | cons h1 h2 =>
     obtain⟨tk,rfl⟩:=h1;exact .cons (intKind_is P w z tk)<|zgz h2
def zi3:∀ as:List Addr,Vals (as.map V.ref) (as.map AC)
 | []=>.nil
 | _::as=>.cons rfl<|zi3 as
def zk4{as':List Addr}(p:as'.Perm as):∀ {ks:List (List Int)},zdc H (as.map V.ref) ks->∃ ks',ks'.Perm ks/\zdc H (as'.map V.ref) ks':=by
 induction p with
 | nil=>exact fun T=>⟨_,C2 _,T⟩
 | cons x _ ih =>
   intro ks T
   cases T with
   | cons h1 h2 =>
     obtain⟨ks',p',T'⟩:=ih h2;exact⟨_,p'.cons _,.cons h1 T'⟩
 | swap x y l =>
   intro ks T
   cases T with
   | cons h1 h2 =>
     cases h2 with
     | cons h3 h4=>exact⟨_,Hv ..,.cons h3<|.cons h1 h4⟩
 | trans _ _ ih1 ih2 =>
   intro ks T;obtain⟨k2,p2,T2⟩:=ih2 T;obtain⟨k1,p1,T1⟩:=ih1 T2;exact⟨k1,p1.trans p2,T1⟩
def zhJ{H:Hp}{xs:List V}{ts:List (List Int)}(T:zdc H xs ts):∀ {q:List Nat},(∀ i∈q,i < ts.length)->zdc H (q.map fun i=>xs.getD i .non) (q.map fun i=>ts.getD i [])
 | [],_=>.nil
 | i::q,h=>by obtain⟨a,e1,e2,e3⟩:=zeN T<|h i Aj;refine .cons ⟨a,?_,e2,e3⟩<|zhJ T fun j hj=>h j (Ah _ hj);show xs.getD i .non=_;rw[Ar,e1];rfl
def zfN{a b:List (List Int)}(h:a.Perm b)(hs:b.Pairwise fun x y=>tle x y=true):zfO a=b :=
 zdf ((Bg _ _).trans h) (Bd (fun a b c=>zcv a b c) zc3 a) hs fun x _ y _=>zg8
variable {X:Cx}
def zmu{pins:List (Addr×Obj)}{M:List (Option V)}(I:Inv X pins M H s){b:Addr}{t:List Int}(h:H b=some (.tup<|t.map V.int)):IsTupleKey (intKind X.prog X.w) s.heap t b:=by obtain⟨_,its,rv,o,g,c,_,n,d⟩:=I.hok b _ h;exact⟨o,its.toArray,n,g,c,d,zgz rv⟩
inductive SetLT (w:World) (K:Ae) (H:Hp) (Q:VK):List V->Prop
 | mk (a:Addr) (xs:List V) (ts:List (List Int)) (h1:SqL K H a xs) (h2:zdc H xs ts) (h3:ts.length < 63) (h4:∀ p as ks,H p=none->ks.Perm (zjK ts)->zdc H (as.map V.ref) ks->Q (.ref p) (upd H p (.ext (SetY w p as)))):SetLT w K H Q [.ref a]
def zif{P:Program}{w:World}{H:Hp}{h:Heap}(hI:∀ b (t:List Int),H b=some (.tup<|t.map V.int)->IsTupleKey (intKind P w) h t b):∀ {l:List (Int×Value)},(∀ e∈l,∃ k,EntT (intKind P w) h e k)->(∀ e∈l,∃ b t,e.2=.ref b/\H b=some (.tup<|t.map V.int)/\t≠[]) ->
   ∃ (as:List Addr) (ks:List (List Int)),l.map (·.2)=as.map AC/\zdc H (as.map V.ref) ks/\ks.length=l.length/\∀ e∈l,∀ k,EntT (intKind P w) h e k->k∈ks
 | [],_,_=>⟨[],[],rfl,.nil,rfl,fun e he=>by simp at he⟩
 | e::l,h1,h2=>by
   obtain⟨as,ks,e1,e2,e3,e4⟩:=zif hI (l:=l) (fun x hx=>h1 x (Ah _ hx)) fun x hx=>h2 x<|Ah _ hx;obtain⟨b,t,e5,e6,e7⟩:=h2 e Aj;refine⟨b::as,t::ks,by rw[Ao,Ao,e1,e5],.cons ⟨b,rfl,e6,e7⟩ e2,by simp[e3],fun x hx k hk=>?_⟩
   rcases List.mem_cons.mp hx with rfl | hx
   . obtain⟨_,b',e8,i⟩:=hk;rw[e5] at e8;cases e8;rw[(hI b t e6).inj i];exact Aj
   exact Ah _<|e4 x hx k hk
def zkM(hc:X.calm=true)(hu:X.A.units+100 < cLine):zgU X (.type "set") (fun xs H Q=>SetLT X.w X.K H Q xs):=by
 rintro pins s M H xs us Q I r ⟨a,zs,ts,h1,h2,h3,h4⟩;obtain⟨u,rfl,ru⟩:=r.one;cases ru;obtain⟨its,rv,pl,hz⟩:=I.list h1;have hlt:zs.length=ts.length:=BF h2;have hl:its.length=ts.length:=by rw[<-hlt];exact rv.length.symm
 have sz:its.toArray.size=ts.length:=by rw[Aq];exact hl
 refine zlj (knd:=intKind X.prog X.w) (val:=fun i=>ts.getD i []) (src:=fun v=>∃ b t,v=.ref b/\H b=some (.tup<|t.map V.int)/\t≠[]) (I.ok.hd hc) hu pl.isList (fun i v e=>?_) (by rw[sz];exact h3) fun h' tk hs hk=>?_
 . rw[CZ] at e;have hi:i < ts.length:=by rw[<-hl];exact (List.getElem?_eq_some_iff.mp e).1
   obtain⟨b,e1,e2,e3⟩:=zeN h2 hi;obtain⟨y,hy,ry⟩:=rv.get e1;rw[e] at hy;cases hy;cases ry;exact⟨b,rfl,zmu I e2,b,_,rfl,e2,e3⟩
 . rw[sz] at hs;obtain⟨o,es,ep,t,g,gx,gd,k1,k2,k3,k4,k5,k7,k9⟩:=hs;obtain⟨as,ks,e1,e2,e3,e4⟩:=zif (fun b t=>zmu I) k1 k9;have pk:ks.Perm (zjK ts):=zfT (zdo _ _) (fun k hk=>by
     obtain⟨e,he,y⟩:=(k2 k).mp hk;exact e4 e he k y) (by rw[e3,Au];exact k3)
   refine⟨.ref s.heap.objs.size,_,I.laid (t':=tk) (fun b o q=>hk b o (Am q) q) (Af _)<|zpT (w':=X.w) (as:=as) ⟨o,es,ep,t,g,gx,gd,e1,k4.rise,zeH k4,?_,⟨_,rfl,k7⟩⟩,rfl,?_⟩
   . rw[k3];have:=zgu (fun i=>ts.getD i []) ts.length;omega
   exact h4 _ as ks (I.hok.fresh<|Af _) pk e2
inductive SrtY (w:World) (H:Hp) (Q:VK):List V->Prop
 | mk (a:Addr) (as:List Addr) (ks:List (List Int)) (h1:H a=some (.ext (SetY w a as))) (h2:zdc H (as.map V.ref) ks) (h4:∀ l ys,H l=none->zdc H ys (zfO ks)->Q (.ref l) (upd H l (.lst ys))):SrtY w H Q [.ref a]
def zmd(hc:X.calm=true):zgU X (.builtin "sorted") (fun xs H Q=>SrtY X.w H Q xs):=by
 rintro pins s M H xs us Q I r ⟨a,as,ks,hH,h2,h4⟩;obtain⟨u,rfl,ru⟩:=r.one;cases ru;obtain⟨⟨o,es,ep,t,e1,e2,e3,e4,e5,e6,e7,⟨_,rfl,e8⟩⟩,_,_⟩:=I.hok a _ hH;refine Dk kind_sorted plain_sorted entry_sorted (Gx _) ?_;unfold Builtin.«sorted»;refine Aa (m:=checkCount "sorted" 1 1 _) (Ab<|Aa<|zeU (A:=X.A.in1) (I.ok.hd hc) e1 e2 e3 e6 rfl (by omega) (.inr e5) e8 fun h' d tk vs hk hsz hv=>?_);rw[e4] at hv;obtain⟨as',ev,pa⟩:∃ as':List Addr,vs=as'.map AC/\as'.Perm as:=by
   have all:∀ v∈vs,v=AC (refOf v):=fun v hm=>by obtain⟨b,_,rfl⟩:=List.mem_map.mp<|hv.mem_iff.mp hm;rfl
   refine⟨vs.map refOf,?_,?_⟩
   . rw[A9]
     conv=>lhs;rw[<-Eh vs]
     exact CC fun v hm=>all v hm
   . have:=hv.map refOf;rw[A9] at this;have ei:as.map (refOf ∘ AC)=as:=by
       conv=>rhs;rw[<-Eh as]
       rfl
     rw[ei] at this;exact this
 obtain⟨ks',pk,T'⟩:=zk4 pa h2;have hlk:ks'.length=as'.length:=by have:=BF T';rw[Ai] at this;exact this.symm
 have hn:as'.length < 64:=by
   have h1:vs.length=es.size:=by rw[hv.length_eq,<-e4,Ai,Au]
   rw[ev,Ai] at h1;omega
 have rv:Vals (as'.map V.ref) vs:=by rw[ev];exact zi3 as'
 have sk:zfO ks'=zfO ks:=zfN (pk.trans (Bg _ _).symm)<|Bd (fun a b c=>zcv a b c) zc3 ks;refine Aa<|DN ?_ (by rw[ev,Ai];exact lt64 hn);have g0:(h'.push<|seqObj "list" vs.toArray 0).get? h'.objs.size=some (seqObj "list" vs.toArray 0):=Al _ rfl;have fr:s.heap.get? h'.objs.size=none:=by
   cases e:s.heap.get? h'.objs.size with
   | none=>rfl
   | some u=>exact absurd (Am<|hk _ _ e)<|AX _
 have I2:Inv X pins M H { s with drawn:=d,toks:=tk }:=(zks I d).tok tk;have key:wpAny (model X.prog X.w) X.A.in1.in1 (Builtin.«list.sort» ⟨[.ref h'.objs.size],[]⟩) (fun f s'=>f=.done (.ret .none)/\EP X pins M Q (.ref h'.objs.size) s') (fun _ _=>False) { s with heap:=h'.push (seqObj "list" vs.toArray 0),drawn:=d,toks:=tk }:=by
   by_cases c:ks'.length < 2
   . refine zny (s:={ s with drawn:=d,toks:=tk }) I2 rv (by rw[Ai,<-hlk];exact c) (fun b u e=>Ad _ (hk b u e)) fr g0 fun p hp=>h4 p _ hp ?_;have:zfO ks=ks':=by
       rw[<-sk];refine zfN (C2 _) ?_
       cases ks' with
       | nil=>exact .nil
       | cons x r =>
         cases r with
         | nil=>simp
         | cons y r=>simp at c;omega
     rw[this];exact T'
   . refine znx (s:={ s with drawn:=d,toks:=tk }) I2 rv T' (by omega) (by omega) (fun b u e=>Ad _ (hk b u e)) fr g0 fun q p hq hu hp=>h4 p _ hp ?_;have hm:∀ i∈q.toList,i < ks'.length:=fun i hi=>by
       have:=(Array.perm_iff_toList_perm.mp hq).mem_iff.mp hi;simpa using this
     have tp:=zhJ T' hm;rw[zfw hq hu,sk] at tp;exact tp
 refine Aa<|AS<|AG FS ⟨_,g0,rfl⟩ Ft (BG key (fun f s' ⟨e,r⟩=>?_) fun _ _ x=>x.elim)<|FT _;subst e;exact⟨_,rfl,Ab ⟨_,rfl,r⟩⟩
def zjj(d:D)(s:Sto):Option (D×Sto):=match d with
 | .ref n=>(zbY s n).bind fun ds=>(rowsOf ds).bind fun ts=>if decide (ts.length < 63)=true then some (.ref s.length,s++[.lst ((zfO<|zjK ts).map tupD)]) else none
 | _=>none
def zsZ(m:ME):ME:=fun U st=>(m U st).bind fun (d,s)=>zjj d s
variable {p p2 pos2:Pos}{o:Expr}
section
variable {K:Ae} {io:List Addr} {st st':Sto} {pos:Pos} {m:ME}
def zrg(t:List Int):Reps K H io (t.map V.int) (t.map D.int):=by
 induction t with
 | nil=>rfl
 | cons z t ih=>exact⟨_,_,rfl,rfl,ih⟩
def zmt:∀ {ys:List V} {rows:List (List Int)},zdc H ys rows->Reps K H io ys (rows.map tupD)
 | _,_,.nil=>rfl
 | _,_,.cons ⟨a,e1,e2,_⟩ T=>by subst e1;exact⟨_,_,rfl,⟨a,_,rfl,e2,zrg _⟩,zmt T⟩
def zja{p:Addr}{o:HO}(hp:H p=none):∀ {ys:List V} {rows:List (List Int)},zdc H ys rows->zdc (upd H p o) ys rows
 | _,_,.nil=>.nil
 | _,_,.cons ⟨a,e1,e2,e3⟩ T=>.cons ⟨a,e1,by rw[zaV (fun z=>by rw[z,hp] at e2;cases e2)];exact e2,e3⟩<|zja hp T
def zpZ(hc:X.calm=true)(hu:X.A.units+100 < cLine)(hg:Gl X "sorted")(hm:X.mg "sorted"=none)(hg2:Gl X "set")(hm2:X.mg "set"=none)(ho:SE X o m)
   (ho2:starEach [o] X.env=(false,eval o X.env)::starEach [] X.env:=by rfl) (hp2:(backTo pos2<|starEach [] X.env).any (·.1)=false:=by rfl)
   (he:starEach [Hw (.Name "set" p2) [o] [] pos2] X.env=(false,eval (.Call (.Name "set" p2) [o] [] pos2) X.env)::starEach [] X.env:=by rfl) (hpl:(backTo pos<|starEach [] X.env).any (·.1)=false:=by rfl) :
   SE X (.Call (.Name "sorted" p) [.Call (.Name "set" p2) [o] [] pos2] [] pos) (zsZ m) :=
 PE.imp (zfW (zmd hc) hg hm zeI (zeZ (zfV (zkM hc hu) hg2 hm2 zrw (zeZ ho ziE ho2) (by decide) (by decide) ho2 hp2) ziE he) (by decide) (by decide) he hpl) <| by
   rintro M H Q ⟨U,st,io,d,st',E,S,e,k⟩;obtain⟨⟨x,s1⟩,e1,f1⟩:=zae e;clear e;refine⟨U,st,io,x,s1,E,S,e1,fun v H1 k1 X1 S1 R1=>?_⟩;unfold zjj at f1
   cases x with
   | ref n =>
     dsimp only at f1;obtain⟨ds,e2,f2⟩:=zae f1;obtain⟨ts,e3,f3⟩:=zae f2;obtain⟨hl,e⟩:=zau f3;cases e;obtain⟨a,rfl,ha⟩:=R1;obtain⟨xs,hq,r⟩:=zbq S1 ha e2;obtain⟨T,hd⟩:=zjw r e3;refine⟨a,xs,ts,hq,T,of_decide_eq_true hl,fun p as ks hp pk T2=>?_⟩;obtain⟨E2,S2⟩:=zfx (o:=.ext (SetY X.w p as)) S1 hp;refine⟨p,as,ks,zbP,zja hp T2,fun l ys hf Ty=>?_⟩;have es:zfO ks=zfO (zjK ts):=zfN (pk.trans (Bg _ _).symm)<|Bd (fun a b c=>zcv a b c) zc3 _;rw[es] at Ty;exact ((k.on S1 X1).on S2 E2).lst S2 (zmt Ty) hf
   | _=>cases f1
def zlO(m:ME):ME:=fun U st=>orO (zok m U st)<|zsZ m U st
def zmD(hc:X.calm=true)(hu:X.A.units+100 < cLine)(hg:Gl X "sorted")(hm:X.mg "sorted"=none)(hg2:Gl X "set")(hm2:X.mg "set"=none)(ho:SE X o m)
   (ho2:starEach [o] X.env=(false,eval o X.env)::starEach [] X.env:=by rfl) (hp2:(backTo pos2<|starEach [] X.env).any (·.1)=false:=by rfl)
   (he:starEach [Hw (.Name "set" p2) [o] [] pos2] X.env=(false,eval (.Call (.Name "set" p2) [o] [] pos2) X.env)::starEach [] X.env:=by rfl) (hpl:(backTo pos<|starEach [] X.env).any (·.1)=false:=by rfl) :
   SE X (.Call (.Name "sorted" p) [.Call (.Name "set" p2) [o] [] pos2] [] pos) (zlO m):=by
 rintro pins s M H Q I ⟨U,st,io,d,st',E,S,e0,k⟩
 rcases zcu e0 with e0 | e0
 . exact zpY hc hg hm hg2 hm2 ho ho2 hp2 he hpl pins s M H Q I ⟨U,st,io,d,st',E,S,e0,k⟩
 exact zpZ hc hu hg hm hg2 hm2 ho ho2 hp2 he hpl pins s M H Q I ⟨U,st,io,d,st',E,S,e0,k⟩
end
end L2.MP
namespace L2.MP
open PySem PyProof.Rows
section
open PySem.SeqAt
open PySem.MeetsSeq PySem.MeetsSeq2 PySem.MeetsSeq3
end
end L2.MP
namespace L2.MP.Hb
open PySem L2.MP
end L2.MP.Hb
namespace L2.MP
open PySem
end L2.MP
namespace L2.MP.Hb
open PySem L2.MP
def zrj{neg:Bool}{x z:Str}{st:Sto}:inD neg (.str x) (.str z) st=none:=by
 unfold inD;rw[toP,toP]
 by_cases h1:AK x=true
 . by_cases h2:AK z=true
   . simp[h1,h2,memP]
   simp[h1,h2]
 simp[h1]
theorem zfG{ds:List D}{st:Sto}:tyName st (.tup ds)=some "tuple":=rfl
theorem ty_str{x:Str}{st:Sto}:tyName st (.str x)=some "str":=rfl
theorem ty_int{i:Int}{st:Sto}:tyName st (.int i)=some "int":=rfl
end L2.MP.Hb
namespace L2.MP.Hd
open PySem L2.MP
end L2.MP.Hd
namespace L2.MP
open PySem
@[simp] theorem zuB(n:Nat)(ds:List D):rho n ds=ds.map some++Cw (n - ds.length) none:=rfl
@[simp] theorem ztH(U:Rho)(n:Nat)(l:List Nat):rho0 U n l=Cw n none++l.map fun (j:Nat)=>(U[j]?).join:=rfl
variable {a b:Int}{st:Sto}
@[simp] theorem zuI:ltD (.int a) (.int b) st=some (.bl (decide (a < b)),st):=rfl
@[simp] theorem zuJ:leD (.int a) (.int b) st=some (.bl (decide (a<=b)),st):=rfl
@[simp] theorem zuM:gtD (.int a) (.int b) st=some (.bl (decide (b < a)),st):=rfl
@[simp] theorem zuN:geD (.int a) (.int b) st=some (.bl (decide (b<=a)),st):=rfl
@[simp] theorem zuL:intC [.int a] st=some (.int a,st):=rfl
@[simp] theorem zuK{b:Bool}:intC [.bl b] st=some (.int (if b then 1 else 0),st):=rfl
end L2.MP
namespace L2.MP.Hd
open PySem L2.MP
variable {m:ME}{U:Rho}{st:Sto}
theorem zpa{c:MT}{n:ME}:mIte c m n U st=(c U st).bind fun p=>if p.1=true then m U p.2 else n U p.2:=rfl
variable {k:Nat}
def zsl(e:m U st=some (.int (k:Int),st))(hk:k<=1000):mR1 m U st=some (⟨run 0 k,[]⟩,st):=by have sm:small (k:Int)=true:=zc4 (by omega) (by omega);rw[zb6,e,Ac];simp only[sm,if_true];rw[Ba]
def zsm{s1:Sto}{Mq:Int}(hM:Mq=(k:Int))(e:m U st=some (.int Mq,s1))(hk:k<=1000):mR1 m U st=some (⟨run 0 k,[]⟩,s1):=by have sm:small Mq=true:=zc4 (by omega) (by omega);rw[zb6,e,Ac];simp only[sm,if_true];rw[hM,Ba]
def run_map(k:Nat):run 0 k=(AV k).map fun (i:Nat)=>D.int (i:Int):=by unfold run;apply CC;intro i _;rw[Int.zero_add]
def zqh{j:Nat}{d:D}(h:(run 0 j)[k]?=some d):k < j/\d=.int (k:Int):=by have hk:=getElem?_lt h;rw[zdg] at hk;rw[run_map,AB,Dc hk] at h;exact⟨hk,by cases h;rfl⟩
open L2.MP.Hn (zet)
def kvS(p:Str×Int):Key×D:=(.inr p.1,.int p.2)
def stD(stk:List (Str×Int)):List (Key×D):=zfn []<|stk.map kvS
def zmr{κ:Type}[DecidableEq κ]:∀ (kvs:List (κ×D)) (k q:κ) (d:D),valD (putD kvs k d) q=if q=k then some d else valD kvs q:=by
 intro kvs k q d;unfold putD
 by_cases h:(kvs.any fun kv=>decide (kv.1=k))=true
 . rw[if_pos h]
   induction kvs with
   | nil=>simp at h
   | cons p r ih =>
     unfold valD at *;rw[Ao,Bx,Bx]
     by_cases hp:p.1=k
     . simp only[hp,if_true]
       by_cases hq:q=k
       . simp[hq]
       . have:¬ k=q:=fun e=>hq e.symm;simp only[this,decide_false,hq,if_false];clear h ih
         induction r with
         | nil=>rfl
         | cons u r ih2 =>
           rw[Ao,Bx,Bx]
           by_cases hu:u.1=k
           . simp only[hu,if_true,this,decide_false];exact ih2
           . simp only[hu,if_false]
             by_cases huq:u.1=q
             . simp[huq]
             simp only[huq,decide_false];exact ih2
     . simp only[hp,if_false]
       by_cases hpq:p.1=q
       . have:¬ q=k:=fun e=>hp<|hpq.trans e;simp[hpq,this]
       simp only[hpq,decide_false];refine ih ?_;rw[CJ] at h;simpa[hp] using h
 . rw[if_neg h];unfold valD;rw[List.find?_append]
   by_cases hq:q=k
   . subst hq;have:kvs.find? (fun kv=>decide (kv.1=q))=none:=by
       rw[List.find?_eq_none];intro x hx hx2;exact h<|List.any_eq_true.mpr ⟨x,hx,hx2⟩
     simp[this]
   have:¬ k=q:=fun e=>hq e.symm;simp[hq,this]
def zmJ:∀ stk:List (Str×Int),zpk (stk.map zbK)=some (stk.map kvS)
 | []=>rfl
 | p::r=>by have ih:=zmJ r;rw[Ao,zpk,ih];rfl
def zgG{stk:List (Str×Int)}(hl:stk.length<=1000):zrp [.tup (stk.map zbK)] st=some (.ref st.length,st++[.dk (stD stk)]):=by have fk:fits (stk.map kvS).length=true:=zaH (by rw[Ai];omega);have e1:zrP [.tup (stk.map zbK)] st=none:=rfl;unfold zrp orN;rw[e1,zbA];unfold zrO;simp only[zmJ,Ac,fk,if_true];rfl
end L2.MP.Hd
namespace L2.MP
open PySem
def ztI{W:Wk}{g:MG}{c:MT}{m:ME}{α:Type}{f h:α->D}{R:Rho->Prop}:∀ {as:List α} {U:Rho} {st:Sto},R U->(∀ s,Gr st s->walked W s=true)->(∀ a∈as,∀ U s,R U->Gr st s->∃ U1 s1,g (f a) U s=some (U1,s)/\c U1 s=some (true,s)/\m U1 s=some (h a,s1)/\Gr s s1/\R U1) ->
   ∃ s',mCI W g c m (as.map f) U st=some (as.map h,s')/\Gr st s'
 | [],U,st,r,wk,_=>⟨st,by unfold mCI;rw[Cz];simp only[wk st (Gr.refl st),if_true,Cz],Gr.refl st⟩
 | a::as,U,st,r,wk,hs=>by obtain⟨U1,s1,e1,e2,e3,g1,r1⟩:=hs a Aj U st r<|Gr.refl st;obtain⟨s',e,g'⟩:=ztI (W:=W) (g:=g) (c:=c) (m:=m) (f:=f) (h:=h) (R:=R) (as:=as) (st:=s1) r1 (fun s q=>wk s (g1.trans q)) fun b hb U s q z=>hs b (Ah _ hb) U s q<|g1.trans z;refine⟨s',?_,g1.trans g'⟩;rw[Ao];unfold mCI;rw[if_pos (wk st<|Gr.refl st),e1];simp only[Ac,e2,if_true,e3,e,Ag,Ao]
def itos(i:Int):Str:=Bf<|toString i
def zkl{i:Int}(h0:0<=i):(itos i).cps.toList=(Nat.toDigits 10 i.toNat).map Char.toNat:=by obtain⟨m,rfl⟩:=DA h0;have:=PyProof.Rows.text_ofNat m;show (Bf<|toString<|Hy m).cps.toList=_;rw[this];simp
def zox{i:Int}(h0:0<=i):∀ c∈(itos i).cps.toList,48<=c/\c<=57:=by intro c hc;rw[zkl h0] at hc;obtain⟨ch,hch,e⟩:=List.mem_map.mp hc;have r:=Fd<|Er (by decide) (by decide) hch;rw[<-e];exact r
end L2.MP
namespace L2.MP.Ce
open PySem L2.MP
end L2.MP.Ce
namespace L2.MP.Hx
open PySem L2 L2.MP PySem.W PyProof.Rows
def frag(h:Heap):Frag:=(AV h.objs.size).filterMap fun a=>(h.get? a).map fun o=>(a,o)
def zkc{g:Addr->Option Obj}(a:Addr):∀ l:List Addr,(l.filterMap fun b=>(g b).map fun o=>(b,o)).lookup a=if a∈l then g a else none
 | []=>rfl
 | b::l=>by
   rw[BU]
   by_cases h:a=b
   . subst h;rw[if_pos Aj]
     cases hg:g a with
     | none =>
       simp only[Fw];rw[zkc a l,hg]
       split <;> rfl
     | some o=>simp only[Ag,Bk,beq_self_eq_true]
   . have e:(a==b)=false:=beq_false_of_ne h;have e2:(if a∈b::l then g a else none)=if a∈l then g a else none:=by simp only[AI,h,false_or]
     rw[e2,<-zkc a l]
     cases hg:g b with
     | none=>simp only[Fw]
     | some o=>simp only[Ag,Bk,e]
def zie(h:Heap)(a:Addr):(frag h).lookup a=h.get? a:=by
 unfold frag;rw[zkc]
 split
 . rfl
 . rename_i hn
   cases hg:h.get? a with
   | none=>rfl
   | some o=>exact absurd (List.mem_range.mpr<|Am hg) hn
def zrk(h:Heap):(frag h).In h:=fun a o e=>(zie h a).symm.trans e
def nsL(g:Addr->Option Obj)(ns:Addr)(x:Str):Option (Option Value):=match g ns with
 | some ⟨_,_,.dict es _,_⟩=>(match es.toList.find? (·.key.isStr x) with
     | some e=>some<|some e.val
     | none=>if es.toList.any (·.refKey) then none else some none)
 | _=>none
def zuF(g:Addr->Option Obj)(cd:Value)(q:Str):Bool:=match cd with
 | .ref c=>(match g c with
     | some ⟨_,_,.fields vs,_⟩=>(match vs.toList with | _::.str n _::_=>n==q | _=>false)
     | _=>false)
 | _=>false
def fnL(g:Addr->Option Obj)(x:Str):Option (FuncData×Bool):=match nsL g mainGlobals x with
 | some (some<|.ref f)=>(match g f with
     | some ⟨_,_,.func fd,_⟩=>some ({ fd with kwdefaults:=.none,doc:=.none,pyModule:=.none,annotations:=none,code:=.none,closureTuple:=.none },zuF g fd.code x)
     | _=>none)
 | _=>none
def fnD(x:Str)(st:Stmt):Option (FuncData×Bool):=some (fnOf x x (zeo st) (zcF st) (zaO st) .none .none .none .none none .none .none,true)
def coL(v:Option (Option Value)):Option (Str ⊕ Int):=match v with
 | some (some<|.str s _)=>some<|.inl s
 | some (some<|.int i _)=>some<|.inr i
 | _=>none
def CoIn(K:Frag)(x:Str):Str ⊕ Int->Prop
 | .inl s=>∃ t,nsIn K mainGlobals x=some (some<|.str s t)
 | .inr i=>∃ t,nsIn K mainGlobals x=some (some<|.int i t)
variable {K:Frag}
def zq9{f:Addr}{oc:Value}{od:Option Addr}{fd:FuncData}{sl:Array (Option Value)}(h:K.lookup f=some ⟨oc,od,.func fd,sl⟩):keepIn K (.ref f)=true:=by unfold keepIn;dsimp only;rw[h]
variable {x:Str}
def zuz{st:Stmt}(e:fnL (K.lookup ·) x=fnD x st):∃ f,FdIn K x st f:=by
 unfold fnL fnD at e
 cases hn:nsL (K.lookup ·) mainGlobals x with
 | none=>rw[hn] at e;cases e
 | some v =>
   cases v with
   | none=>rw[hn] at e;cases e
   | some v =>
     cases v with
     | ref f =>
       rw[hn] at e;dsimp only at e
       cases hg:K.lookup f with
       | none=>rw[hg] at e;cases e
       | some o =>
         rw[hg] at e;obtain⟨oc,od,da,sl⟩:=o
         cases da with
         | func fd =>
           dsimp only at e;obtain⟨a1,a2⟩:=Cu<|Ax e;obtain⟨n,q,p,b,sc,gl,cl,df,kd,dc,pm,an,cd,ct,bu⟩:=fd;cases a1;exact⟨f,zuA hn hg a2<|zq9 hg⟩
         | _=>cases e
     | _=>rw[hn] at e;cases e
def zuG{c:Str ⊕ Int}(e:coL (nsL (K.lookup ·) mainGlobals x)=some c):CoIn K x c:=by
 unfold coL at e
 cases hn:nsL (K.lookup ·) mainGlobals x with
 | none=>rw[hn] at e;cases e
 | some v =>
   cases v with
   | none=>rw[hn] at e;cases e
   | some v =>
     rw[hn] at e
     cases v with
     | str s t=>cases e;exact⟨t,hn⟩
     | int i t=>cases e;exact⟨t,hn⟩
     | _=>cases e
structure Has(K:Frag)(fns:List (Str×Stmt))(bl:List Str)(co:List (Str×(Str ⊕ Int))):Prop where
 fn:∀ p∈fns,∃ f,FdIn K p.1 p.2 f
 bl:∀ x∈bl,nsIn K mainGlobals x=some none
 co:∀ c∈co,CoIn K c.1 c.2
def zmn{α β:Type}{f g:α->β}:∀ {l:List α},l.map f=l.map g->∀ a∈l,f a=g a
 | [],_,a,h=>by cases h
 | b::l,e,a,h=>by
   obtain⟨e1,e2⟩:=List.cons.inj e
   rcases List.mem_cons.mp h with rfl | h
   . exact e1
   exact zmn e2 a h
def ztz(g:Addr->Option Obj)(fns:List (Str×Stmt))(bl:List Str)(co:List (Str×(Str ⊕ Int))):List (Option<|FuncData×Bool)×List (Option<|Option Value)×List (Option<|Str ⊕ Int) :=
 (fns.map fun p=>fnL g p.1,bl.map fun x=>nsL g mainGlobals x,co.map fun c=>coL (nsL g mainGlobals c.1))
def dueG(fns:List (Str×Stmt))(bl:List Str)(co:List (Str×(Str ⊕ Int))):List (Option<|FuncData×Bool)×List (Option<|Option Value)×List (Option<|Str ⊕ Int) :=
 (fns.map fun p=>fnD p.1 p.2,bl.map fun _=>some none,co.map fun c=>some c.2)
variable {bl:List Str}{co:List (Str×(Str ⊕ Int))}
def ztg{fns:List (Str×Stmt)}(e:ztz (K.lookup ·) fns bl co=dueG fns bl co):Has K fns bl co:=by obtain⟨e1,e2⟩:=Cu e;obtain⟨e2,e3⟩:=Cu e2;exact⟨fun p hp=>zuz (zmn e1 p hp),fun x hx=>zmn e2 x hx,fun c hc=>zuG (zmn e3 c hc)⟩
def hook(fns:List (Str×Stmt))(bl:List Str)(co:List (Str×(Str ⊕ Int))):Hook where
 α:=List (Option<|FuncData×Bool)×List (Option<|Option Value)×List (Option<|Str ⊕ Int)
 obs s:=ztz s.heap.get? fns bl co
 val _:=dueG fns bl co
 says _ h:=∃ K:Frag,K.In h/\Has K fns bl co
 of w s e:=⟨frag s.heap,zrk _,ztg (by rw[funext (zie s.heap)];exact e)⟩
 keeps w h h':=fun⟨K,a,b⟩ k=>⟨K,a.keeps k,b⟩
def walk_has{l:OpenLaw}{n k:Nat}{q:Program}{loose:List Str}{XP:(Str->Option Value)->Heap->Prop}{fns:List (Str×Stmt)}{d:DefRec}{CX:CXT}{sp:Frag->Sp}
   (hn:l.most=some n) (hn2:n<=sizeLine) (hdf:d.params.defaults=[]) (hr:Room k callerA)
   (F:∀ (K:Frag) (w:World) (mg:Str->Option Value) (fa:Addr) (h:Heap),Has K fns bl co->K.In h->h.Ns mainGlobals mg->mg d.name=some (.ref fa) ->
     ∃ fd:FuncData,(∀ (s:Shared) (u:Value),BindsTo s fd ⟨[u],[]⟩ [(x,u)])/\∀ base:Heap,K.In base->base.Ns mainGlobals mg->FnOk l.prog w K mg base CX k fa fd [x] (sp K))
   (hsp:∀ (K:Frag) (H:Hp) (a:Addr) (ns:List Int),ns.length<=n->Only H->SqL K H a (ns.map V.int)->sp K [.ref a] H (fun v _=>v=.bl true) fun _ _ _=>False)
   (hCX:∀ (H:Hp) (s:Shared) (e:Value) (s':Shared),CX [] H s (fun _ _ _=>False) e s'->False) :
   WalkO q loose XP (hook fns bl co).says l.row.toRowW d [] (fun f vs=>Hc f vs):=by
 intro w s₀ s₁ mg mb G Y;obtain⟨K,hK,hH⟩:=Y;exact L2.walk_of (K:=fun _=>K) (CX:=fun _=>CX) (sp:=fun _=>sp K) (YP:=fun _ h=>K.In h) hn hn2 hdf hr (fun _ _ y=>y) (fun w mg fa h a b c=>F K w mg fa h hH a b c) (fun _ H a ns h1 h2 h3=>hsp K H a ns h1 h2 h3) (fun _ H s e s'=>hCX H s e s') w s₀ s₁ mg mb G hK
end L2.MP.Hx
namespace L2.MP
open PySem L2 PySem.W PyProof.Rows
variable {bl ps:List Str}{co:List (Str×(Str ⊕ Int))}{x:Str}{st:Stmt}{P:Program}{w:World}{base:Heap}{k j:Nat}{m:MS}
section
variable {K:Frag} {mg:Str->Option Value} {fns:List (Str×Stmt)}
structure En(K:Frag)(mg:Str->Option Value)(fns:List (Str×Stmt))(bl:List Str)(co:List (Str×(Str ⊕ Int))):Prop where
 b:∀ x∈bl,mg x=none
 c:∀ c∈co,match c.2 with
   | .inl s=>∃ t,mg c.1=some (.str s t)
   | .inr i=>∃ t,mg c.1=some (.int i t)
 l:∀ p∈fns,∃ f,FdIn K p.1 p.2 f/\mg p.1=some (.ref f)
def En.of{h:Heap}(A:Hx.Has K fns bl co)(X:K.In h)(G:h.Ns mainGlobals mg):En K mg fns bl co:=by
 refine⟨fun x hx=>mg_none_of X G (A.bl x hx),fun c hc=>?_,fun p hp=>?_⟩
 . have q:=A.co c hc;obtain⟨x,c⟩:=c
   cases c with
   | inl s=>obtain⟨t,q⟩:=q;exact⟨t,mg_of X G q⟩
   | inr i=>obtain⟨t,q⟩:=q;exact⟨t,mg_of X G q⟩
 obtain⟨f,q⟩:=A.fn p hp;exact⟨f,q,mg_of X G q.ns⟩
def En.b1(Z:En K mg fns bl co)(h:x∈bl:=by decide +kernel):mg x=none:=Z.b x h
def En.cs(Z:En K mg fns bl co){s:Str}(i:Nat)(h:co[i]?=some (x,.inl s):=by rfl):∃ t,mg x=some (.str s t):=Z.c _<|AW h
def scB(N ps:List Str)(sc:Scope):Bool:=decide (sc.kind=.function)&&decide (sc.isCoroutine=false)&&decide (sc.isGenerator=false)&&decide N.Nodup&&decide (N.take ps.length=ps)&&ps.all (fun x=>decide (sc.names.lookup x=some .local\/sc.names.lookup x=some .cell))&&sc.names.all fun y=>decide (y.2≠.free)
def zpj{N:List Str}{sc:Scope}(h:scB N ps sc=true):FnScope N ps sc:=by unfold scB at h;simp only[An,decide_eq_true_eq,BD] at h;obtain⟨⟨⟨⟨⟨⟨a,b⟩,c⟩,d⟩,e⟩,f⟩,g⟩:=h;exact⟨a,b,c,d,e,f,g⟩
noncomputable abbrev Bnd (x:Str) (st:Stmt) (ps:List Str):Prop:=∀ (kV doc pm:Value) (an:Option Addr) (cdv ct:Value) (us:List Value),us.length=ps.length->bindArgs (Ci x x (zeo st) (zcF st) (zaO st) .none kV doc pm an cdv ct) ⟨us,[]⟩=pure (ps.zip us)
def En.laid{i:Nat}(Z:En K mg fns bl co)(hi:fns[i]?=some (x,st))(b:Bnd x st ps):Laid K mg x st ps:=by obtain⟨f,F,hm⟩:=Z.l _<|AW hi;obtain⟨⟨oc,od,kV,dc,pm,an,cd,ct,sl,l,c⟩,a,k⟩:=F;exact⟨_,_,zoK l c k,hm,(zoK l c k).binds b⟩
def zbi(Z:En K mg fns bl co)(st:Stmt)(i:Nat)(N ps:List Str)
   (hbody:N.Nodup->∀ (f:Addr) (cdv:Value) (A:Around) (outer:List Env) (s:Shared) (H:Hp) (E:XK),Room k (A.deeper<|envOfC x (zaO st) s.heap.objs.size f cdv) ->
     SSs (cxOf CX0 P w K mg base N x (zaO st) f cdv A outer s H E).nox (zcF st) m) (hi:fns[i]?=some (x,st):=by rfl)
   (S:scB N ps (zaO st)=true:=by decide +kernel) (b:Bnd x st ps:=by intro _ _ _ _ _ _;first | exact len1 fun _=>rfl | exact len2 fun _ _=>rfl | exact len3 fun _ _ _=>rfl | exact len4 fun _ _ _ _=>rfl | exact len5 fun _ _ _ _ _=>rfl):zc2 P w K mg base (k+1) x ps.length (fnM N.length m) :=
 zrq (Z.laid hi b) (zpj S) (hbody (zpj S).nd)
def zoZ{G:GN->MS}(Z:En K mg fns bl co)(st:Stmt)(i:Nat)(N ps:List Str)(n:Nat)
   (hbody:N.Nodup->∀ (i:Nat) (g:GN),zc2 P w K mg base (j+i) x ps.length g->∀ (f:Addr) (cdv:Value) (A:Around) (outer:List Env) (s:Shared) (H:Hp) (E:XK),Room (j+i) (A.deeper<|envOfC x (zaO st) s.heap.objs.size f cdv) ->
     SSs (cxOf CX0 P w K mg base N x (zaO st) f cdv A outer s H E).nox (zcF st) (G g)) (hi:fns[i]?=some (x,st):=by rfl)
   (S:scB N ps (zaO st)=true:=by decide +kernel) (b:Bnd x st ps:=by intro _ _ _ _ _ _;first | exact len1 fun _=>rfl | exact len2 fun _ _=>rfl | exact len3 fun _ _ _=>rfl | exact len4 fun _ _ _ _=>rfl | exact len5 fun _ _ _ _ _=>rfl):zc2 P w K mg base (j+n) x ps.length (recG N.length G n) :=
 zm8 (Z.laid hi b) (zpj S) (hbody (zpj S).nd) n
def zux{qual:Str}{f:Addr}{fd:FuncData}(F:Fun K x qual st f fd)(N ps:List Str)
   (hbody:N.Nodup->∀ (cdv:Value) (A:Around) (outer:List Env) (s:Shared) (H:Hp) (E:XK),Room k (A.deeper<|envOfC qual (zaO st) s.heap.objs.size f cdv) ->
     SSs (cxOf CX0 P w K mg base N qual (zaO st) f cdv A outer s H E).nox (zcF st) m) (S:scB N ps (zaO st)=true:=by decide +kernel):FnOk P w K mg base CX0 (k+1) f fd ps (spM K ps.length<|fnM N.length m):=fn_m F (zpj S) (hbody (zpj S).nd)
end
variable {g:GN}{T:String}
section
variable {X:Cx} {e:Expr} {es:List Expr} {m:ME} {mm:MA} {pos pos' p p2:Pos} {y:Str}
def sgn(i:Nat)(hN:X.N.Nodup)(hi:X.N[i]?=some x:=by rfl)(hx:Loc X.env.scope x:=by first | exact Co rfl | exact B8 rfl)(hf:X.fn x=true\/X.env.scope.names.lookup x=some .local:=by first | exact .inl rfl | exact .inr rfl | assumption):SG X (.Name x pos) (gNm i):=zpS hN hi hx hf
def sst(i:Nat)(hN:X.N.Nodup)(he:SE X e m)(hi:X.N[i]?=some x:=by rfl)(hx:Loc X.env.scope x:=by first | exact Co rfl | exact B8 rfl)(hs:swapsWith e (some<|.Name x pos') pos.line X.env=pure false:=by rfl)(hf:X.fn x=true\/X.env.scope.names.lookup x=some .local:=by first | exact .inl rfl | exact .inr rfl | assumption):SS X (.Assign [.Name x pos'] e pos) (mAsg m<|gNm i):=zpI hN hi hx he hs hf
def zbn{n:Nat}(F:zc2 X.prog X.w X.K X.mg X.base k x n g)(hr:Room j X.A)(ha:SA X (e::es) mm)(hj:k<=j:=by decide)(hg:Gl X x:=by rfl)(hl:zfi n mm:=by repeat (first | exact zfi.nil | refine zfi.cons ?_))(hdb:(x==("__debug__":Str))=false:=by decide)
   (he:starEach (e::es) X.env=(false,eval e X.env)::starEach es X.env:=by rfl) (hpl:(backTo pos<|starEach es X.env).any (·.1)=false:=by rfl) (hn:(e::es).length=n:=by rfl):SE X (.Call (.Name x p) (e::es) [] pos) (zal g mm):=zeV F (hr.mono hj) hg ha hl hdb he hpl hn
variable {fns:List (Str×Stmt)}
def isiE(Z:En X.K X.mg fns bl co)(ha:SE X e m)(hv:bootBuiltins y=some (.type T))(hT:T∈kinds:=by decide)(hg:Gl X "isinstance":=by rfl)(hm:("isinstance":Str)∈bl:=by decide +kernel)(hgy:Gl X y:=by rfl)(hmy:y∈bl:=by decide +kernel)(hny:y≠"__name__":=by decide)(hdy:(y==("__debug__":Str))=false:=by decide)
   (hs:starEach [e,.Name y p2] X.env=(false,eval e X.env)::starEach [.Name y p2] X.env:=by rfl) (hs2:starEach [.Name y p2] X.env=[(false,eval (.Name y p2) X.env)]:=by rfl) (hpl:(backTo pos<|starEach [.Name y p2] X.env).any (·.1)=false:=by rfl):SE X (.Call (.Name "isinstance" p) [e,.Name y p2] [] pos) (mIsi T m) :=
 zsf (x:="isinstance") hT hg (Z.b _ hm) ha hgy (Z.b _ hmy) hv hny hdy hs hs2 hpl
def cBE{id:String}(Z:En X.K X.mg fns bl co)(hc:zed X (.builtin id) g)(hv:bootBuiltins x=some (.builtin id))(ha:SA X (e::es) mm)(hg:Gl X x:=by rfl)(hm:x∈bl:=by decide +kernel)(hn:x≠"__name__":=by decide)(hdb:(x==("__debug__":Str))=false:=by decide)
   (he:starEach (e::es) X.env=(false,eval e X.env)::starEach es X.env:=by rfl) (hpl:(backTo pos<|starEach es X.env).any (·.1)=false:=by rfl):SE X (.Call (.Name x p) (e::es) [] pos) (zal g mm):=znK hc hg (Z.b _ hm) hv ha hn hdb he hpl
def cTE(Z:En X.K X.mg fns bl co)(hc:zed X (.type T) g)(hv:bootBuiltins x=some (.type T))(ha:SA X (e::es) mm)(hg:Gl X x:=by rfl)(hm:x∈bl:=by decide +kernel)(hn:x≠"__name__":=by decide)(hdb:(x==("__debug__":Str))=false:=by decide)
   (he:starEach (e::es) X.env=(false,eval e X.env)::starEach es X.env:=by rfl) (hpl:(backTo pos<|starEach es X.env).any (·.1)=false:=by rfl):SE X (.Call (.Name x p) (e::es) [] pos) (zal g mm):=zlr hc hg (Z.b _ hm) hv ha hn hdb he hpl
def cS{scope:Scope}(N':List Str)(nt:Nat)(fr:List Nat)(fs:List Str)(kind:scope.kind=.function:=by rfl)(nd:(scope.names.map (·.1)).Nodup:=by decide +kernel)(hf:scope.names.all (fun p=>!(p.2==AN) || fs.contains p.1)=true:=by decide +kernel)
   (hb:fs.all (fun x=>scope.names.contains (x,AN))=true:=by decide +kernel) (len:N'.length=nt+fr.length:=by rfl) (cap:Caps X fs fr (N'.drop nt):=by trivial) (out:Outs X fs:=by trivial):CompS X scope N' nt fr:=zdi fs kind nd hf hb len cap out
end
end L2.MP
namespace L2.MP.T0
open PySem L2.MP L2.MP.Hn
def zgY:MS:=mRet (zem (mIsi "int"<|mVar 0)<|zem (zq4<|mIsi "bool"<|mVar 0)<|zdb leD leD (mVar 1) (mVar 0)<|mVar 2)
def zbC:GN:=fnM 3 zgY
def zgZ:MS:=mRet (zem (mIsi "tuple"<|mVar 0)<|mBin eqD (zal lenD<|zab (mVar 0)<|mNil)<|mVar 1)
def zbf:GN:=fnM 2 zgZ
def zc6:ME:=mBin ltB (mVar 0)<|mVar 1
def zkX:MS:=mRet<|zal allC<|zab (zdR (mZip (mVar 0)<|mSlC (mVar 0) (zcL<|mCon<|.int 1)<|zcM) 2 [] (gTp 2<|gC (gNm 0)<|gC (gNm 1)<|gN0) zcV<|zc6)<|mNil
def zgT:GN:=fnM 1 zkX
def zee:ME:=mBin inA (mVar 0) (mCon<|.str "abcdefghijklmnopqrstuvwxyz")
def zdX:MS:=mRet (zem (mIsi "str"<|mVar 0)<|zem (zdb leD leD (mCon<|.int 1) (zal lenD<|zab (mVar 0)<|mNil)<|mCon<|.int 8)<|zal allC<|zab (zdR (mWA<|mVar 0) 1 [] (gNm 0) zcV<|zee)<|mNil)
def zeK:GN:=fnM 1 zdX
def zfg:MS:=mRet<|zem (zal zbf<|zab (mVar 0)<|zab (mCon<|.int 2)<|mNil)<|zem (zal zeK<|zab (mBin ixA (mVar 0)<|mCon<|.int 0)<|mNil)<|zal zbC<|zab (mBin ixA (mVar 0)<|mCon<|.int 1)<|zab (mCon<|.int 1)<|zab (mCon<|.int 4)<|mNil
def zdV:GN:=fnM 1 zfg
def zc7:ME:=zal zdV<|zab (mVar 0)<|mNil
def zbW:ME:=mBin ixA (mVar 0)<|mCon<|.int 0
def zc8:MS:=mSeq (mIf (mOrT (zcN<|mTst<|mIsi "tuple"<|mVar 0)<|zcN<|mTst<|zal allC<|zab (zdR (mWA<|mVar 0) 1 [] (gNm 0) zcV<|zc7)<|mNil) (mRet<|mCon<|.bl false)<|zcf) (mRet<|zal zgT<|zab (zdR (mWA<|mVar 0) 1 [] (gNm 0) zcV<|zbW)<|mNil)
def zb2:GN:=fnM 1 zc8
def zit:MS:=mRet (zem (mIsi "str"<|mVar 0)<|zem (mBin leD (zal lenD<|zab (mVar 0)<|mNil)<|mCon<|.int 1)<|mBin inA (mVar 0)<|mCon<|.str "abcdefghijklmnopqrstuvwxyz0123456789")
def zge:GN:=fnM 1 zit
def zis:MS:=mRet (zem (mIsi "str"<|mVar 0)<|mOrV (mBin eqD (mVar 0)<|mCon<|.str "")<|mBin inA (mVar 0)<|mVar 1)
def zgd:GN:=fnM 2 zis
def zef:ME:=zal zgd<|zab (mVar 0)<|zab (mVar 1)<|mNil
def zeM:MS:=mRet<|zem (zal zbf<|zab (mVar 0)<|zab (mCon<|.int 5)<|mNil)<|zem (zal zge<|zab (mBin ixA (mVar 0)<|mCon<|.int 0)<|mNil)<|zal allC<|zab (zdR (mWA<|mSlC (mVar 0) (zcL<|mCon<|.int 1)<|zcM) 1 [1] (gNm 0) zcV<|zef)<|mNil
def zeL:GN:=fnM 2 zeM
def zdK:ME:=zal zeL<|zab (mVar 0)<|zab (mVar 1)<|mNil
def zce:MS:=mSeq (mIf (mOrT (zcN<|mTst<|zal zbf<|zab (mVar 0)<|zab (mCon<|.int 3)<|mNil)<|mOrT (zcN<|mTst<|zal zbC<|zab (mBin ixA (mVar 0)<|mCon<|.int 0)<|zab (mCon<|.int 1)<|zab (mCon<|.int 4)<|mNil)<|zcN<|mTst<|zal zb2<|zab (mBin ixA (mVar 0)<|mCon<|.int 1)<|mNil) (mRet<|mCon<|.bl false)<|zcf) (mSeq (mAsg (mBin ixA (mVar 0)<|mCon<|.int 2)<|gNm 1)<|mSeq (mIf (mOrT (zcN<|mTst<|mIsi "tuple"<|mVar 1)<|mTst<|mBin eqD (zal lenD<|zab (mVar 1)<|mNil)<|mCon<|.int 0) (mRet<|mCon<|.bl false)<|zcf)<|mSeq (mAsg (zal zrp<|zab (mBin ixA (mVar 0)<|mCon<|.int 1)<|mNil)<|gNm 2)<|mRet<|zal allC<|zab (zdR (mWA<|mVar 1) 1 [2] (gNm 0) zcV<|zdK)<|mNil)
def zc0:GN:=fnM 3 zce
def zg1:MS:=mRet<|zem (zal zbf<|zab (mVar 0)<|zab (mCon<|.int 2)<|mNil)<|zem (zal zbC<|zab (mBin ixA (mVar 0)<|mCon<|.int 0)<|zab (mCon<|.int 1)<|zab (mCon<|.int 12)<|mNil)<|zal zbC<|zab (mBin ixA (mVar 0)<|mCon<|.int 1)<|zab (mCon<|.int 1)<|zab (mCon<|.int 12)<|mNil
def zdW:GN:=fnM 1 zg1
def zg0:MS:=mSeq (mAsg (mBin ixA (mVar 0)<|mCon<|.int 1)<|gNm 2)<|mRet<|zem (zal zbf<|zab (mVar 1)<|zab (mCon<|.int 2)<|mNil)<|zem (zal zbC<|zab (mBin ixA (mVar 1)<|mCon<|.int 0)<|zab (mCon<|.int 0)<|zab (mBin subD (mBin ixA (mVar 2)<|mCon<|.int 0)<|mCon<|.int 1)<|mNil)<|zal zbC<|zab (mBin ixA (mVar 1)<|mCon<|.int 1)<|zab (mCon<|.int 0)<|zab (mBin subD (mBin ixA (mVar 2)<|mCon<|.int 1)<|mCon<|.int 1)<|mNil
def zff:GN:=fnM 3 zg0
def zir:MS:=mSeq (mAsg (mBin ixA (mBin ixA (mVar 0)<|mCon<|.int 0)<|mCon<|.int 2)<|gNm 2)<|mRet<|zem (zal zbf<|zab (mVar 1)<|zab (mCon<|.int 3)<|mNil)<|zem (zal zff<|zab (mVar 0)<|zab (mSlC (mVar 1) zcM<|zcL<|mCon<|.int 2)<|mNil)<|zal zbC<|zab (mBin ixA (mVar 1)<|mCon<|.int 2)<|zab (mCon<|.int 0)<|zab (mBin subD (zal lenD<|zab (mVar 2)<|mNil)<|mCon<|.int 1)<|mNil
def zgc:GN:=fnM 3 zir
def zcX:ME:=zal zgc<|zab (mVar 1)<|zab (mVar 0)<|mNil
def zcb:ME:=mSlC (mVar 0) zcM<|zcL<|mCon<|.int 2
def zcS:MS:=mSeq (mIf (mOrT (zcN<|mTst<|mIsi "tuple"<|mVar 1)<|zcN<|mTst<|zal allC<|zab (zdR (mWA<|mVar 1) 1 [0] (gNm 0) zcV<|zcX)<|mNil) (mRet<|mCon<|.bl false)<|zcf) (mRet<|zal zgT<|zab (zdR (mWA<|mVar 1) 1 [] (gNm 0) zcV<|zcb)<|mNil)
def zcR:GN:=fnM 2 zcS
def zfh:MS:=mSeq (mIf (mOrT (zcN<|mTst<|zal zbf<|zab (mVar 0)<|zab (mCon<|.int 3)<|mNil)<|mOrT (zcN<|mTst<|zal zc0<|zab (mBin ixA (mVar 0)<|mCon<|.int 0)<|mNil)<|zcN<|mTst<|zal zdW<|zab (mBin ixA (mVar 0)<|mCon<|.int 1)<|mNil) (mRet<|mCon<|.bl false)<|zcf)<|mRet<|zal zcR<|zab (mVar 0)<|zab (mBin ixA (mVar 0)<|mCon<|.int 2)<|mNil
def zgf:GN:=fnM 1 zfh
def zeg:MS:=mSeq (mAsg (mLst<|zab (mCon .non)<|zab (mCon<|.bl true)<|zab (mCon<|.bl false)<|zab (mCon<|.int 0)<|zab (mCon<|.int 1)<|zab (mNeg<|mCon<|.int 1)<|zab (mCon<|.int 4)<|zab (mCon<|.int 5)<|zab (mCon<|.int 12)<|zab (mCon<|.int 13)<|zab (mBin powB (mCon<|.int 10)<|mCon<|.int 30)<|zab (mCon<|.str "")<|zab (mCon<|.str "a")<|zab (mCon<|.str "A")<|zab (mCon<|.str "-")<|zab (mCon<|.str "z9")<|zab (mCon<|.str "ab cd")<|zab (mBin mulA (mCon<|.str "a")<|mCon<|.int 9)<|zab (mCon<|.str "0")<|zab (mCon<|.str "\n")<|mNil)<|gNm 1) (mSeq (mAsg (mBin addD (mVar 1)<|mLst<|zab (mCon<|.str "{")<|zab (mCon<|.str "`")<|zab (mCon<|.str "/")<|zab (mCon<|.str ":")<|zab (mTup<|mNil)<|zab (mLst<|mNil)<|zab (ziZ false)<|zab (mTup<|zab (mCon<|.int 0)<|mNil)<|zab (mTup<|zab (mCon<|.int 1)<|zab (mCon<|.int 1)<|mNil)<|zab (mLst<|zab (mCon<|.str "a")<|zab (mCon<|.int 1)<|mNil)<|zab (mTup<|zab (mCon<|.str "a")<|zab (mCon<|.int 1)<|mNil)<|zab (mTup<|zab (mCon<|.str "")<|zab (mCon<|.str "")<|zab (mCon<|.str "")<|zab (mCon<|.str "")<|zab (mCon<|.str "")<|mNil)<|zab (mTup<|zab (mTup<|mNil)<|mNil)<|mNil)<|gNm 1)<|mRet<|zal zax<|zab (mVar 0)<|zab (mVar 1)<|mNil)
def zcZ:GN:=fnM 2 zeg
def zas:MS:=mSeq (mIf (zgw (mTst<|mIsi "tuple"<|mVar 1)<|mTst<|mBin gtD (zal zag<|zab (mVar 0)<|zab (mCon<|.int 4)<|mNil)<|mCon<|.int 0) (mSeq (mAsg (mLst<|zab (zal zke<|zab (mVar 1)<|mNil)<|zab (mSlC (mVar 1) zcM<|zcL<|mNeg<|mCon<|.int 1)<|zab (mSlC (mVar 1) (zcL<|mCon<|.int 1)<|zcM)<|zab (mBin addE (mVar 1)<|mSlC (mVar 1) (zcL<|mNeg<|mCon<|.int 1)<|zcM)<|zab (zh8 (mVar 1)<|mNeg<|mCon<|.int 1)<|zab (mBin addE (mVar 1)<|mTup<|zab (mCon .non)<|mNil)<|zab (mTup<|zab (mVar 1)<|mNil)<|mNil)<|gNm 2)<|mRet<|zal zax<|zab (mVar 0)<|zab (mVar 2)<|mNil)<|zcf) (mSeq (mIf (mOrT (mTst<|mIsi "bool"<|mVar 1)<|mTst<|mBin isBD (mVar 1)<|mCon .non) (mRet<|zal zcZ<|zab (mVar 0)<|mNil)<|zcf)<|mSeq (mIf (zgw (mTst<|mIsi "int"<|mVar 1)<|mTst<|mBin gtD (zal zag<|zab (mVar 0)<|zab (mCon<|.int 4)<|mNil)<|mCon<|.int 0) (mRet<|zal zax<|zab (mVar 0)<|zab (mLst<|zab (mBin addD (mVar 1)<|mCon<|.int 1)<|zab (mBin subD (mVar 1)<|mCon<|.int 1)<|zab (mNeg<|mVar 1)<|zab (zal strC<|zab (mVar 1)<|mNil)<|zab (mBin eqD (mVar 1)<|mCon<|.int 1)<|zab (mBin addD (mVar 1)<|mCon<|.int 12)<|zab (mLst<|zab (mVar 1)<|mNil)<|zab (mBin addD (mVar 1)<|mCon<|.int 4)<|mNil)<|mNil)<|zcf)<|mSeq (mIf (zgw (mTst<|mIsi "str"<|mVar 1)<|mTst<|mBin gtD (zal zag<|zab (mVar 0)<|zab (mCon<|.int 4)<|mNil)<|mCon<|.int 0) (mSeq (mAsg (mLst<|zab (mBin addD (mVar 1)<|mCon<|.str "a")<|zab (mSlC (mVar 1) zcM<|zcL<|mNeg<|mCon<|.int 1)<|zab (mUp<|mVar 1)<|zab (mBin addD (mVar 1)<|mCon<|.str " ")<|zab (mBin addD (mVar 1)<|mCon<|.str "bcdefgh")<|zab (mLst<|zab (mVar 1)<|mNil)<|zab (mTup<|zab (mVar 1)<|mNil)<|zab (zh8 (mVar 1)<|mNeg<|mCon<|.int 1)<|mNil)<|gNm 2)<|mRet<|zal zax<|zab (mVar 0)<|zab (mVar 2)<|mNil)<|zcf)<|mRet<|zal zcZ<|zab (mVar 0)<|mNil)
def zbM:GN:=fnM 3 zas
def zak(g:GN):MS:=mSeq (mIf (mOrT (mTst<|mBin eqD (mVar 2)<|mCon<|.int 0)<|mOrT (zcN<|mTst<|mIsi "tuple"<|mVar 1)<|mOrT (mTst<|mBin eqZ (mVar 1)<|mTup<|mNil)<|mTst<|mBin eqD (zal zag<|zab (mVar 0)<|zab (mCon<|.int 5)<|mNil)<|mCon<|.int 0) (mRet<|zal zbM<|zab (mVar 0)<|zab (mVar 1)<|mNil)<|zcf) (mSeq (mAsg (zal zag<|zab (mVar 0)<|zab (zal lenD<|zab (mVar 1)<|mNil)<|mNil)<|gNm 3)<|mRet<|mBin addD (mBin addE (mSlC (mVar 1) zcM<|zcL<|mVar 3)<|mTup<|zab (zal g<|zab (mVar 0)<|zab (mBin ixA (mVar 1)<|mVar 3)<|zab (mBin subD (mVar 2)<|mCon<|.int 1)<|mNil)<|mNil)<|mSlC (mVar 1) (zcL<|mBin addD (mVar 3)<|mCon<|.int 1)<|zcM)
def zbu:GN:=recG 4 zak 12
def zgV:MS:=mRet (zem (mIsi "int"<|mVar 0)<|zem (zq4<|mIsi "bool"<|mVar 0)<|zdb leD leD (mVar 1) (mVar 0)<|mVar 2)
def zaT:GN:=fnM 3 zgV
def zdz:MS:=mRet (zem (mIsi "str"<|mVar 0)<|zem (zdb ltD ltD (mCon<|.int 0) (zal lenD<|zab (mVar 0)<|mNil)<|mCon<|.int 9)<|mBin eqD (zpl ziv (mVar 0)<|zab (mCon<|.str "abcdefghijklmnopqrstuvwxyz")<|mNil)<|mCon<|.str "")
def zb9:GN:=fnM 1 zdz
def zaG:MS:=mSeq (mIf (mOrT (zcN<|mTst<|mIsi "tuple"<|mVar 2)<|mOrT (mTst<|mBin neD (zal lenD<|zab (mVar 2)<|mNil)<|mCon<|.int 2)<|zcN<|mTst<|zal zb9<|zab (mBin ixA (mVar 2)<|mCon<|.int 0)<|mNil) (mRet<|mCon<|.bl false)<|zcf) (mSeq (mIf (zcN<|mTst<|zal zaT<|zab (mBin ixA (mVar 2)<|mCon<|.int 1)<|zab (mCon<|.int 1)<|zab (mCon<|.int 4)<|mNil) (mRet<|mCon<|.bl false)<|zcf)<|mExp<|mApp (mVar 1)<|zab (mBin ixA (mVar 2)<|mCon<|.int 0)<|mNil)
def zc1:ME:=mIsi "str" (mVar 0)
def zb4:ME:=mOrV (mBin eqD (mVar 0)<|mCon<|.str "") (mBin inA (mVar 0)<|mVar 1)
def zbH:MS:=mSeq (mIf (mOrT (zcN<|mTst<|mIsi "tuple"<|mVar 3)<|mOrT (mTst<|mBin neD (zal lenD<|zab (mVar 3)<|mNil)<|mCon<|.int 5)<|zcN<|mTst<|zal allC<|zab (zdR (mWA<|mVar 3) 1 [] (gNm 0) zcV<|zc1)<|mNil) (mRet<|mCon<|.bl false)<|zcf) (mSeq (mIf (mOrT (mTst<|mBin gtD (zal lenD<|zab (mBin ixA (mVar 3)<|mCon<|.int 0)<|mNil)<|mCon<|.int 1)<|mTst<|mBin zjV (mBin ixA (mVar 3)<|mCon<|.int 0)<|mCon<|.str "abcdefghijklmnopqrstuvwxyz0123456789") (mRet<|mCon<|.bl false)<|zcf)<|mIf (zcN<|mTst<|zal allC<|zab (zdR (mWA<|mSlC (mVar 3) (zcL<|mCon<|.int 1)<|zcM) 1 [1] (gNm 0) zcV<|zb4)<|mNil) (mRet<|mCon<|.bl false)<|zcf)
def zaI:MS:=mSeq (mIf (mOrT (zcN<|mTst<|mIsi "tuple"<|mVar 0)<|mOrT (mTst<|mBin neD (zal lenD<|zab (mVar 0)<|mNil)<|mCon<|.int 3)<|zcN<|mTst<|zal zaT<|zab (mBin ixA (mVar 0)<|mCon<|.int 0)<|zab (mCon<|.int 1)<|zab (mCon<|.int 4)<|mNil) (mRet<|mCon<|.bl false)<|zcf) (mSeq (mAsg (mLst<|mNil)<|gNm 1)<|mSeq (mIf (mOrT (zcN<|mTst<|mIsi "tuple"<|mBin ixA (mVar 0)<|mCon<|.int 1)<|mOrT (zcN<|mTst<|mIsi "tuple"<|mBin ixA (mVar 0)<|mCon<|.int 2)<|mTst<|mBin eqD (zal lenD<|zab (mBin ixA (mVar 0)<|mCon<|.int 2)<|mNil)<|mCon<|.int 0) (mRet<|mCon<|.bl false)<|zcf)<|mSeq (mFor (mWA<|mBin ixA (mVar 0)<|mCon<|.int 1) (gNm 2)<|zaG)<|mSeq (mIf (mTst<|mBin neD (mVar 1)<|zlO<|mVar 1) (mRet<|mCon<|.bl false)<|zcf)<|mSeq (mFor (mWA<|mBin ixA (mVar 0)<|mCon<|.int 2) (gNm 3)<|zbH)<|mRet<|mCon<|.bl true)
def zbr:GN:=fnM 4 zaI
def zbp:MS:=mSeq (mIf (mOrT (zcN<|mTst<|mIsi "tuple"<|mVar 3)<|mOrT (mTst<|mBin neD (zal lenD<|zab (mVar 3)<|mNil)<|mCon<|.int 3)<|zcN<|mTst<|zal zaT<|zab (mBin ixA (mVar 3)<|mCon<|.int 0)<|zab (mCon<|.int 0)<|zab (mBin subD (mBin ixA (mVar 1)<|mCon<|.int 0)<|mCon<|.int 1)<|mNil) (mRet<|mCon<|.bl false)<|zcf) (mIf (mOrT (zcN<|mTst<|zal zaT<|zab (mBin ixA (mVar 3)<|mCon<|.int 1)<|zab (mCon<|.int 0)<|zab (mBin subD (mBin ixA (mVar 1)<|mCon<|.int 1)<|mCon<|.int 1)<|mNil)<|zcN<|mTst<|zal zaT<|zab (mBin ixA (mVar 3)<|mCon<|.int 2)<|zab (mCon<|.int 0)<|zab (mBin subD (zal lenD<|zab (mBin ixA (mVar 0)<|mCon<|.int 2)<|mNil)<|mCon<|.int 1)<|mNil) (mRet<|mCon<|.bl false)<|zcf)
def zbJ:ME:=mTup<|zab (mVar 0)<|zab (mVar 1)<|mNil
def zby:MS:=mSeq (mIf (zcN<|mTst<|mIsi "tuple"<|mVar 2) (mRet<|mCon<|.bl false)<|zcf) (mSeq (mFor (mWA<|mVar 2) (gNm 3)<|zbp)<|mSeq (mAsg (zdR (mWA<|mVar 2) 3 [] (gTp 3<|gC (gNm 0)<|gC (gNm 1)<|gC (gNm 2)<|gN0) zcV<|zbJ)<|gNm 4)<|mRet<|mBin eqD (mVar 4)<|zlO<|mVar 4)
def zbx:GN:=fnM 5 zby
def zcH:ME:=zal zaT<|zab (mVar 0)<|zab (mCon<|.int 1)<|zab (mCon<|.int 12)<|mNil
def zbk:MS:=mSeq (mIf (mOrT (zcN<|mTst<|mIsi "tuple"<|mVar 0)<|mOrT (mTst<|mBin neD (zal lenD<|zab (mVar 0)<|mNil)<|mCon<|.int 3)<|zcN<|mTst<|zal zbr<|zab (mBin ixA (mVar 0)<|mCon<|.int 0)<|mNil) (mRet<|mCon<|.bl false)<|zcf) (mSeq (mIf (mOrT (zcN<|mTst<|mIsi "tuple"<|mBin ixA (mVar 0)<|mCon<|.int 1)<|mOrT (mTst<|mBin neD (zal lenD<|zab (mBin ixA (mVar 0)<|mCon<|.int 1)<|mNil)<|mCon<|.int 2)<|zcN<|mTst<|zal allC<|zab (zdR (mWA<|mBin ixA (mVar 0)<|mCon<|.int 1) 1 [] (gNm 0) zcV<|zcH)<|mNil) (mRet<|mCon<|.bl false)<|zcf)<|mRet<|zal zbx<|zab (mBin ixA (mVar 0)<|mCon<|.int 0)<|zab (mBin ixA (mVar 0)<|mCon<|.int 1)<|zab (mBin ixA (mVar 0)<|mCon<|.int 2)<|mNil)
def zcA:GN:=fnM 1 zbk
def zcz:MS:=mAsg (mIte (mTst<|mVar 1) (mLst<|zab (mVar 2)<|mNil)<|mTup<|zab (mVar 2)<|mNil)<|gNm 2
def zdM:MS:=mSeq (mAsg (mTup<|mNil)<|gNm 2)<|mSeq (mFor (mR1<|mVar 0) (gNm 3)<|zcz)<|mRet<|mVar 2
def zbl:GN:=fnM 4 zdM
def zgS:MS:=mSeq (mAsg (zal zbu<|zab (mVar 2)<|zab (mVar 3)<|zab (mBin addD (mCon<|.int 1)<|zal zag<|zab (mVar 2)<|zab (mCon<|.int 5)<|mNil)<|mNil)<|gNm 6)<|mSeq (mIf (mTst<|mBin eqD (zal zag<|zab (mVar 2)<|zab (mCon<|.int 4)<|mNil)<|mCon<|.int 0) (mAsg (zal zbu<|zab (mVar 2)<|zab (mVar 6)<|zab (mBin addD (mCon<|.int 1)<|zal zag<|zab (mVar 2)<|zab (mCon<|.int 5)<|mNil)<|mNil)<|gNm 6)<|zcf)<|mExp<|mApp (mVar 4)<|zab (mVar 6)<|mNil
def ziq:MS:=mSeq (mAsg (zal zgf<|zab (mVar 7)<|mNil)<|gNm 8) (mIf (mOrT (zcN<|mTst<|mIsi "bool"<|mVar 8)<|mTst<|mBin neD (mVar 8)<|zal zcA<|zab (mVar 7)<|mNil) (mRet<|mCon<|.bl false)<|zcf)
def zio:MS:=mSeq (mAsg (zal zeb<|zab (mVar 0)<|zab (mVar 1)<|mNil)<|gNm 2) (mSeq (mAsg (zal zec<|zab (mVar 2)<|zab (zal zax<|zab (mVar 2)<|zab (mLst<|zab (mCon<|.int 1)<|zab (mCon<|.int 3)<|zab (mCon<|.int 6)<|mNil)<|mNil)<|mNil)<|gNm 3)<|mSeq (mAsg (mLst<|zab (mVar 3)<|zab (mTup<|zab (mVar 3)<|mNil)<|zab (mSlC (mVar 3) zcM<|zcL<|mNeg<|mCon<|.int 1)<|zab (mBin addD (mVar 3)<|mTup<|zab (mCon<|.int 1)<|mNil)<|zab (zal zke<|zab (mVar 3)<|mNil)<|zab (mCon .non)<|zab (mTup<|mNil)<|zab (mCon<|.str "bed")<|zab (mCon<|.bl true)<|zab (mCon<|.int 4)<|zab (ziZ false)<|mNil)<|gNm 4)<|mSeq (mAsg (mBin addD (mVar 4)<|mLst<|zab (zal zbl<|zab (mCon<|.int 55)<|zab (mCon<|.bl true)<|mNil)<|zab (zal zbl<|zab (mCon<|.int 55)<|zab (mCon<|.bl false)<|mNil)<|zab (mTup<|zab (mVar 3)<|zab (mVar 3)<|zab (mVar 3)<|mNil)<|mNil)<|gNm 4)<|mSeq (mFor (mR1<|mCon<|.int 14) (gNm 5)<|zgS)<|mFor (mWA<|mVar 4) (gNm 7)<|ziq)
def ztK:MS:=mSeq (mFor (mR1<|zal zq3<|zab (mCon<|.int 1)<|zab (zal zq2<|zab (zal lenD<|zab (mVar 0)<|mNil)<|zab (mCon<|.int 12)<|mNil)<|mNil) (gNm 1)<|zio)<|mRet<|mCon<|.bl true
def ztt:GN:=fnM 9 ztK
open L2 PySem.Spec PyProof.Rows
def top(i:Nat):Stmt:=PySem.Challenge.pw_stickytiles_k02_beds_or_not.main.body.getD i<|.Pass ⟨0,0,0,0⟩
def fns:List (Str×Stmt):=("is_whole",top 3)::("is_tuple",top 4)::("rises",top 5)::("is_name",top 6)::("is_stick",top 7)::("are_sticks",top 8)::("is_face",top 9)::("is_side",top 10)::("is_kind",top 11)::("is_house",top 12)::("is_floor",top 13)::("is_place",top 14)::("is_tile",top 15)::("is_standing",top 16)::("is_bed",top 17)::("_law_pot",top 19)::("_law_next",top 20)::("_law_of",top 21)::("_law_names",top 22)::("_law_house",top 23)::("_law_floor",top 24)::("_law_standing",top 25)::("_law_bed",top 26)::("_law_odd",top 27)::("_law_changed",top 28)::("_law_spoilt",top 29)::("_law_whole",top 30)::("_law_is_name",top 31)::("_law_is_house",top 32)::("_law_is_standing",top 33)::("_law_is_bed",top 34)::("_law_deep",top 35)::("law",top 36)::[]
def bls:List Str:=["isinstance","int","bool","tuple","len","zip","all","str","dict","abs","range","sorted","list","set","min","max"]
def cos:List (Str×(Str ⊕ Int)):=[("LETTERS",.inl "abcdefghijklmnopqrstuvwxyz"),("FACE_SIGNS",.inl "abcdefghijklmnopqrstuvwxyz0123456789")]
section
variable {P:Program} {w:World} {K:Ae} {mg:Str->Option Value} {base:Heap} (Z:En K mg fns bls cos)
def nd_0:(["one","other"]:List Str).Nodup:=by decide +kernel
def nd_1:(["sign"]:List Str).Nodup:=by decide +kernel
def nd_2:(["part"]:List Str).Nodup:=by decide +kernel
def nd_3:(["stick"]:List Str).Nodup:=by decide +kernel
def nd_4:(["part","names"]:List Str).Nodup:=by decide +kernel
def nd_8:(["part","bed"]:List Str).Nodup:=by decide +kernel
def nd_9:(["tile"]:List Str).Nodup:=by decide +kernel
def zul:(["_law_k","_law_letters","_law_pot_here"]:List Str).Nodup:=by decide +kernel
def zuk:(["_law_name","_law_pot_here"]:List Str).Nodup:=by decide +kernel
def zuj:(["_law_side","_law_pot_here","_law_sides"]:List Str).Nodup:=by decide +kernel
def ztC:(["_law_place","_law_kind"]:List Str).Nodup:=by decide +kernel
def zui:(["_law_part"]:List Str).Nodup:=by decide +kernel
def zuh:(["_law_side","_law_names_here"]:List Str).Nodup:=by decide +kernel
def zsY:(["_law_x","_law_y","_law_kind"]:List Str).Nodup:=by decide +kernel
def zug:(["_law_one"]:List Str).Nodup:=by decide +kernel
def zb0:zc2 P w K mg base 1 "is_whole" 3 zbC :=
 zbi (k:=0) Z (top 3) 0 ["thing","least","most"] ["thing","least","most"] fun nd f cdv A outer s H E hr=>JSs.out (zam<|JS.mk<|zaQ<|zcI (isiE Z (zac 0) ziW)<|zcI (zqa<|isiE Z (zac 0) zij)<|zc9<|zfQ zhk zhk (zac 1) (zac 0)<|zac 2)
def zb1:zc2 P w K mg base 1 "is_tuple" 2 zbf :=
 zbi (k:=0) Z (top 4) 1 ["thing","size"] ["thing","size"] fun nd f cdv A outer s H E hr=>JSs.out (zam<|JS.mk<|zaQ<|zcI (isiE Z (zac 0) zbt)<|zc9<|zeu (zdE<|za4 hr) (cBE Z zaZ zcW<|zaa (zac 0)<|zaf) (zac 1) rfl)
def zjM:zc2 P w K mg base 1 "rises" 1 zgT :=
 zbi (k:=0) Z (top 5) 2 ["parts"] ["parts"] fun nd f cdv A outer s H E hr=>JSs.out (zam<|JS.mk<|zaQ<|cBE Z (zcy rfl) zga<|zaa (zcE rfl rfl (cS ["one","other"] 2 [] []) (zr9 rfl Z.b1 (zac 0)<|zbO (zac 0) (zcB<|zad)<|zcC) (fun C s0 H0 fp=>znH rfl (zdC (sgn 0 nd_0)<|zdC (sgn 1 nd_0)<|zjt)) (fun C s0 H0 fp=>zdu) fun C s0 H0 fp=>zeu (zsP<|za4 hr) (zac 0) (zac 1) rfl)<|zaf)
def zjP:zc2 P w K mg base 1 "is_name" 1 zeK :=
 zbi (k:=0) Z (top 6) 3 ["thing"] ["thing"] fun nd f cdv A outer s H E hr=>JSs.out (zam<|JS.mk<|zaQ<|zcI (isiE Z (zac 0) zhD)<|zcI (zfQ zhk zhk zad (cBE Z zaZ zcW<|zaa (zac 0)<|zaf)<|zad)<|zc9<|cBE Z (zcy rfl) zga<|zaa (zcE rfl rfl (cS ["sign"] 1 [] []) (zbQ<|zac 0) (fun C s0 H0 fp=>sgn 0 nd_1) (fun C s0 H0 fp=>zdu) fun C s0 H0 fp=>zlq (za4 hr) (zac 0) (zmF rfl (Z.cs 0).choose_spec))<|zaf)
def ziH:zc2 P w K mg base 2 "is_stick" 1 zdV :=
 zbi (k:=1) Z (top 7) 4 ["thing"] ["thing"] fun nd f cdv A outer s H E hr=>JSs.out (zam<|JS.mk<|zaQ<|zcI (zbn (zb1 Z) hr<|zaa (zac 0)<|zaa zad<|zaf)<|zcI (zbn (zjP Z) hr<|zaa (zaR (zbS hr) (zac 0)<|zad)<|zaf)<|zc9<|zbn (zb0 Z) hr<|zaa (zaR (zbS hr) (zac 0)<|zad)<|zaa zad<|zaa zad<|zaf)
def zgs:zc2 P w K mg base 3 "are_sticks" 1 zb2 :=
 zbi (k:=2) Z (top 8) 5 ["thing"] ["thing"] fun nd f cdv A outer s H E hr=>JSs.out (zai (zdG (SW.sb<|zdY (zbL<|zda<|isiE Z (zac 0) zbt)<|zde<|zbL<|zda<|cBE Z (zcy rfl) zga<|zaa (zcE rfl rfl (cS ["part"] 1 [] []) (zbQ<|zac 0) (fun C s0 H0 fp=>sgn 0 nd_2) (fun C s0 H0 fp=>zdu) fun C s0 H0 fp=>zbn (ziH Z) hr (zaa (zac 0)<|zaf))<|zaf) (zam<|JS.mk<|zaQ<|zei)<|zbh)<|zam<|JS.mk<|zaQ<|zbn (zjM Z) hr<|zaa (zcE rfl rfl (cS ["stick"] 1 [] []) (zbQ<|zac 0) (fun C s0 H0 fp=>sgn 0 nd_3) (fun C s0 H0 fp=>zdu) fun C s0 H0 fp=>zaR (zbS hr) (zac 0) zad)<|zaf)
def zjR:zc2 P w K mg base 1 "is_face" 1 zge :=
 zbi (k:=0) Z (top 9) 6 ["thing"] ["thing"] fun nd f cdv A outer s H E hr=>JSs.out (zam<|JS.mk<|zaQ<|zcI (isiE Z (zac 0) zhD)<|zcI (zeu zhk (cBE Z zaZ zcW<|zaa (zac 0)<|zaf) zad rfl)<|zc9<|zlq (za4 hr) (zac 0)<|zmF rfl (Z.cs 1).choose_spec)
def zjO:zc2 P w K mg base 1 "is_side" 2 zgd :=
 zbi (k:=0) Z (top 10) 7 ["thing","names"] ["thing","names"] fun nd f cdv A outer s H E hr=>JSs.out (zam<|JS.mk<|zaQ<|zcI (isiE Z (zac 0) zhD)<|zc9<|ztA (zeu (zdE<|za4 hr) (zac 0) zbI rfl)<|zp9<|zlq (za4 hr) (zac 0)<|zac 1)
def zjQ:zc2 P w K mg base 2 "is_kind" 2 zeL :=
 zbi (k:=1) Z (top 11) 8 ["thing","names"] ["thing","names"] fun nd f cdv A outer s H E hr=>JSs.out (zam<|JS.mk<|zaQ<|zcI (zbn (zb1 Z) hr<|zaa (zac 0)<|zaa zad<|zaf)<|zcI (zbn (zjR Z) hr<|zaa (zaR (zbS hr) (zac 0)<|zad)<|zaf)<|zc9<|cBE Z (zcy rfl) zga<|zaa (zcE rfl rfl (zdi (N':=["part","names"]) (nt:=1) (fr:=[1]) ["names"] rfl (by decide +kernel) (by decide +kernel) (by decide +kernel) rfl ⟨⟨rfl,by decide⟩,trivial⟩ ⟨by first | exact Co rfl | exact B8 rfl,trivial⟩) (zbQ<|zbO (zac 0) (zcB<|zad)<|zcC) (fun C s0 H0 fp=>sgn 0 nd_4) (fun C s0 H0 fp=>zdu) fun C s0 H0 fp=>zbn (zjO Z) hr (zaa (zac 0)<|zaa (zac 1)<|zaf))<|zaf)
def ziJ:zc2 P w K mg base 4 "is_house" 1 zc0 :=
 zbi (k:=3) Z (top 12) 9 ["thing","kinds","names"] ["thing"] fun nd f cdv A outer s H E hr=>JSs.out (zai (zdG (SW.sb<|zdY (zbL<|zda<|zbn (zb1 Z) hr<|zaa (zac 0)<|zaa zad<|zaf)<|zdY (zbL<|zda<|zbn (zb0 Z) hr<|zaa (zaR (zbS hr) (zac 0)<|zad)<|zaa zad<|zaa zad<|zaf)<|zde<|zbL<|zda<|zbn (zgs Z) hr<|zaa (zaR (zbS hr) (zac 0)<|zad)<|zaf) (zam<|JS.mk<|zaQ<|zei)<|zbh)<|zai (JS.mk<|sst 1 nd<|zaR (zbS hr) (zac 0)<|zad)<|zai (zdG (SW.sb<|zdY (zbL<|zda<|isiE Z (zac 1) zbt)<|zde<|zbR (zdE<|za4 hr) (cBE Z zaZ zcW<|zaa (zac 1)<|zaf) zad rfl) (zam<|JS.mk<|zaQ<|zei)<|zbh)<|zai (JS.mk<|sst 2 nd<|cTE Z (ziV rfl) zrx<|zaa (zaR (zbS hr) (zac 0)<|zad)<|zaf)<|zam<|JS.mk<|zaQ<|cBE Z (zcy rfl) zga<|zaa (zcE rfl rfl (zdi (N':=["part","names"]) (nt:=1) (fr:=[2]) ["names"] rfl (by decide +kernel) (by decide +kernel) (by decide +kernel) rfl ⟨⟨rfl,by decide⟩,trivial⟩ ⟨by first | exact Co rfl | exact B8 rfl,trivial⟩) (zbQ<|zac 1) (fun C s0 H0 fp=>sgn 0 nd_4) (fun C s0 H0 fp=>zdu) fun C s0 H0 fp=>zbn (zjQ Z) hr (zaa (zac 0)<|zaa (zac 1)<|zaf))<|zaf)
def ziK:zc2 P w K mg base 2 "is_floor" 1 zdW :=
 zbi (k:=1) Z (top 13) 10 ["thing"] ["thing"] fun nd f cdv A outer s H E hr=>JSs.out (zam<|JS.mk<|zaQ<|zcI (zbn (zb1 Z) hr<|zaa (zac 0)<|zaa zad<|zaf)<|zcI (zbn (zb0 Z) hr<|zaa (zaR (zbS hr) (zac 0)<|zad)<|zaa zad<|zaa zad<|zaf)<|zc9<|zbn (zb0 Z) hr<|zaa (zaR (zbS hr) (zac 0)<|zad)<|zaa zad<|zaa zad<|zaf)
def ziI:zc2 P w K mg base 2 "is_place" 2 zff :=
 zbi (k:=1) Z (top 14) 11 ["bed","thing","floor"] ["bed","thing"] fun nd f cdv A outer s H E hr=>JSs.out (zai (JS.mk<|sst 2 nd<|zaR (zbS hr) (zac 0)<|zad)<|zam<|JS.mk<|zaQ<|zcI (zbn (zb1 Z) hr<|zaa (zac 1)<|zaa zad<|zaf)<|zcI (zbn (zb0 Z) hr<|zaa (zaR (zbS hr) (zac 1)<|zad)<|zaa zad<|zaa (zaJ zej (zaR (zbS hr) (zac 2)<|zad)<|zad)<|zaf)<|zc9<|zbn (zb0 Z) hr<|zaa (zaR (zbS hr) (zac 1)<|zad)<|zaa zad<|zaa (zaJ zej (zaR (zbS hr) (zac 2)<|zad)<|zad)<|zaf)
def zjN:zc2 P w K mg base 3 "is_tile" 2 zgc :=
 zbi (k:=2) Z (top 15) 12 ["bed","thing","kinds"] ["bed","thing"] fun nd f cdv A outer s H E hr=>JSs.out (zai (JS.mk<|sst 2 nd<|zaR (zbS hr) (zaR (zbS hr) (zac 0)<|zad)<|zad)<|zam<|JS.mk<|zaQ<|zcI (zbn (zb1 Z) hr<|zaa (zac 1)<|zaa zad<|zaf)<|zcI (zbn (ziI Z) hr<|zaa (zac 0)<|zaa (zbO (zac 1) zcC<|zcB<|zad)<|zaf)<|zc9<|zbn (zb0 Z) hr<|zaa (zaR (zbS hr) (zac 1)<|zad)<|zaa zad<|zaa (zaJ zej (cBE Z zaZ zcW<|zaa (zac 2)<|zaf)<|zad)<|zaf)
def zf2:zc2 P w K mg base 4 "is_standing" 2 zcR :=
 zbi (k:=3) Z (top 16) 13 ["bed","thing"] ["bed","thing"] fun nd f cdv A outer s H E hr=>JSs.out (zai (zdG (SW.sb<|zdY (zbL<|zda<|isiE Z (zac 1) zbt)<|zde<|zbL<|zda<|cBE Z (zcy rfl) zga<|zaa (zcE rfl rfl (zdi (N':=["part","bed"]) (nt:=1) (fr:=[0]) ["bed"] rfl (by decide +kernel) (by decide +kernel) (by decide +kernel) rfl ⟨⟨rfl,by decide⟩,trivial⟩ ⟨by first | exact Co rfl | exact B8 rfl,trivial⟩) (zbQ<|zac 1) (fun C s0 H0 fp=>sgn 0 nd_8) (fun C s0 H0 fp=>zdu) fun C s0 H0 fp=>zbn (zjN Z) hr (zaa (zac 1)<|zaa (zac 0)<|zaf))<|zaf) (zam<|JS.mk<|zaQ<|zei)<|zbh)<|zam<|JS.mk<|zaQ<|zbn (zjM Z) hr<|zaa (zcE rfl rfl (cS ["tile"] 1 [] []) (zbQ<|zac 1) (fun C s0 H0 fp=>sgn 0 nd_9) (fun C s0 H0 fp=>zdu) fun C s0 H0 fp=>zbO (zac 0) zcC (zcB<|zad))<|zaf)
def zlK:zc2 P w K mg base 5 "is_bed" 1 zgf :=
 zbi (k:=4) Z (top 17) 14 ["thing"] ["thing"] fun nd f cdv A outer s H E hr=>JSs.out (zai (zdG (SW.sb<|zdY (zbL<|zda<|zbn (zb1 Z) hr<|zaa (zac 0)<|zaa zad<|zaf)<|zdY (zbL<|zda<|zbn (ziJ Z) hr<|zaa (zaR (zbS hr) (zac 0)<|zad)<|zaf)<|zde<|zbL<|zda<|zbn (ziK Z) hr<|zaa (zaR (zbS hr) (zac 0)<|zad)<|zaf) (zam<|JS.mk<|zaQ<|zei)<|zbh)<|zam<|JS.mk<|zaQ<|zbn (zf2 Z) hr<|zaa (zac 0)<|zaa (zaR (zbS hr) (zac 0)<|zad)<|zaf)
def zhm:zc2 P w K mg base 1 "_law_pot" 2 zeb :=
 zbi (k:=0) Z (top 19) 15 ["_law_script","_law_k","_law_cell","_law_number","_law_part","_law_mixed"] ["_law_script","_law_k"] fun nd f cdv A outer s H E hr=>JSs.out (zai (JS.mk<|sst 2 nd<|zad)<|zai (zdG (zbR ziF (zac 1) (cBE Z zaZ zcW<|zaa (zac 0)<|zaf) rfl) (zam<|JS.mk<|sst 2 nd<|zaR (zbS hr) (zac 0)<|zac 1)<|zbh)<|zai (JS.mk<|sst 3 nd<|zaJ zbj (zaJ zdw zad<|zaJ zgp (cBE Z zmk zto<|zaa (zac 2)<|zaf)<|zaJ zh3 (zaJ zh3 zad<|zad)<|zad)<|cTE Z zf9 ziW<|zaa (zeu ziF (zac 2) zad rfl)<|zaf)<|zai (JS.mk<|sst 4 nd<|zaJ zgp (zac 3)<|zad)<|zai (JS.mk<|sst 5 nd<|zaJ zgp (zaJ zbj (zaJ zbj (zaJ zdw (zac 4)<|zad)<|zaJ zdw zad<|zac 1)<|zad)<|zad)<|zam<|JS.mk<|zaQ<|zcd<|zaa (zaJ zdw (zac 3)<|cTE Z zf9 ziW<|zaa (zeu zsS (zac 3) (zaJ zdw zad<|zaJ zh3 zad<|zad) rfl)<|zaf)<|zaa (zac 5)<|zaf)
def zar:zc2 P w K mg base 1 "_law_next" 2 zag :=
 zbi (k:=0) Z (top 20) 16 ["_law_pot_here","_law_many","_law_digit"] ["_law_pot_here","_law_many"] fun nd f cdv A outer s H E hr=>JSs.out (zai (zdG (zbR ziG (zaR (zbS hr) (zac 0)<|zad) zad rfl) (zai (JS.mk<|sst 2 nd<|zaJ zgp (zaR (zbS hr) (zac 0)<|zad)<|zac 1)<|zai (JS.mk<|znu (zbS hr) (zac 0) zad<|zaJ zhl (zaR (zbS hr) (zac 0)<|zad)<|zac 1)<|zam<|JS.mk<|zaQ<|zac 2)<|zbh)<|zai (JS.mk<|znu (zbS hr) (zac 0) zad<|zaJ zgp (zaJ zbj (zaJ zdw (zaR (zbS hr) (zac 0)<|zad)<|zad)<|zad)<|zad)<|zam<|JS.mk<|zaQ<|zaJ zhl (zaJ zdw (zaJ zhl (zaR (zbS hr) (zac 0)<|zad)<|zad)<|zac 1)<|zad)
def zaW:zc2 P w K mg base 2 "_law_of" 2 zax :=
 zbi (k:=1) Z (top 21) 17 ["_law_pot_here","_law_some"] ["_law_pot_here","_law_some"] fun nd f cdv A outer s H E hr=>JSs.out (zam<|JS.mk<|zaQ<|zaR (zbS hr) (zac 1)<|zbn (zar Z) hr<|zaa (zac 0)<|zaa (cBE Z zaZ zcW<|zaa (zac 1)<|zaf)<|zaf)
def zfZ:zc2 P w K mg base 3 "_law_names" 2 zcQ :=
 zbi (k:=2) Z (top 22) 18 ["_law_pot_here","_law_many","_law_letters","_law_found","_law_turn","_law_way","_law_name"] ["_law_pot_here","_law_many"] fun nd f cdv A outer s H E hr=>JSs.out (zai (JS.mk<|sst 2 nd<|zbI)<|zai (JS.mk<|sst 3 nd<|zcd<|zaf)<|zai (zfp BJ rfl (zcK rfl Z.b1<|zaJ zdw zad<|zac 1) (sgn 4 nd)<|zai (JS.mk<|sst 5 nd<|zbn (zar Z) hr<|zaa (zac 0)<|zaa zad<|zaf)<|zai (JS.mk<|sst 6 nd<|zqc zbI<|zaa (zcE rfl rfl (zdi (N':=["_law_k","_law_letters","_law_pot_here"]) (nt:=1) (fr:=[2,0]) ["_law_letters","_law_pot_here"] rfl (by decide +kernel) (by decide +kernel) (by decide +kernel) rfl ⟨⟨rfl,by decide⟩,⟨⟨rfl,by decide⟩,trivial⟩⟩ ⟨by first | exact Co rfl | exact B8 rfl,⟨by first | exact Co rfl | exact B8 rfl,trivial⟩⟩) (zcK rfl Z.b1<|zbn (zaW Z) hr<|zaa (zac 0)<|zaa (zcd<|JA.out<|zah zad<|zah zad<|zah zad<|zah zad<|zah zad<|zd6)<|zaf) (fun C s0 H0 fp=>sgn 0 zul) (fun C s0 H0 fp=>zdu) fun C s0 H0 fp=>zaR (zbS hr) (zac 1) (zbn (zar Z) hr<|zaa (zac 2)<|zaa zad<|zaf))<|zaf)<|zai (zdG (SW.sb<|zhb (zbR (ze0<|za4 hr) (zac 3) (zcd<|zaf) rfl)<|zeQ<|zbR (zdE<|za4 hr) (zac 5) zad rfl) (zam<|JS.mk<|sst 6 nd<|zeE (zaJ zbj (zbn (zaW Z) hr<|zaa (zac 0)<|zaa (zac 3)<|zaf)<|zac 6) zcC<|zcB<|zad)<|zbh)<|zai (zdG (SW.sb<|zhb (zbR (ze0<|za4 hr) (zac 3) (zcd<|zaf) rfl)<|zeQ<|zbR (zdE<|za4 hr) (zac 5) zad rfl) (zam<|JS.mk<|sst 6 nd<|zaJ zbj (zeE (zbn (zaW Z) hr<|zaa (zac 0)<|zaa (zac 3)<|zaf) zcC<|zcB<|zfP<|zad)<|zeE (zac 6) zcC<|zcB<|zad)<|zbh)<|zam<|zdG (SW.sb<|zhb (zbR ziF (cBE Z zaZ zcW<|zaa (zac 3)<|zaf) (zac 1) rfl)<|zeQ<|zhS (za4 hr) (zac 6)<|zac 3) (zam<|JS.mk<|zhP<|zeF (zac 3)<|zaa (zac 6)<|zaf)<|zbh)<|zam<|JS.mk<|zaQ<|zac 3)
def zf0:zc2 P w K mg base 4 "_law_house" 2 zdk :=
 zbi (k:=3) Z (top 23) 19 ["_law_pot_here","_law_most","_law_names_here","_law_sticks","_law_signs","_law_sides","_law_kinds","_law_k","_law_face","_law_kind"] ["_law_pot_here","_law_most"] fun nd f cdv A outer s H E hr=>JSs.out (zai (JS.mk<|sst 2 nd<|cBE Z zfc zeI<|zaa (zbn (zfZ Z) hr<|zaa (zac 0)<|zaa (zbn (zaW Z) hr<|zaa (zac 0)<|zaa (zcd<|JA.out<|zah zad<|zah zad<|zah zad<|zah zad<|zah zad<|zah zad<|zd6)<|zaf)<|zaf)<|zaf)<|zai (JS.mk<|sst 3 nd<|cTE Z zds zbt<|zaa (zcE rfl rfl (zdi (N':=["_law_name","_law_pot_here"]) (nt:=1) (fr:=[0]) ["_law_pot_here"] rfl (by decide +kernel) (by decide +kernel) (by decide +kernel) rfl ⟨⟨rfl,by decide⟩,trivial⟩ ⟨by first | exact Co rfl | exact B8 rfl,trivial⟩) (zmB<|zac 2) (fun C s0 H0 fp=>sgn 0 zuk) (fun C s0 H0 fp=>zdu) fun C s0 H0 fp=>zcc (zaa (zac 0)<|zaa (zaJ zbj zad<|zbn (zar Z) hr<|zaa (zac 1)<|zaa (zbn (zaW Z) hr<|zaa (zac 1)<|zaa (zcd<|zaa zad<|zaa zad<|zaa zad<|zaf)<|zaf)<|zaf)<|zaf))<|zaf)<|zai (JS.mk<|sst 4 nd<|zbI)<|zai (JS.mk<|sst 5 nd<|zaJ zbj (zaJ zbj (zaJ zbj (zcd<|zaa zbI<|zaf)<|zac 2)<|zac 2)<|zac 2)<|zai (JS.mk<|sst 6 nd<|zcd<|zaf)<|zai (zfp BJ rfl (zcK rfl Z.b1<|zaJ zbj zad<|zbn (zar Z) hr<|zaa (zac 0)<|zaa (zac 1)<|zaf) (sgn 7 nd)<|zai (JS.mk<|sst 8 nd<|zaJ zdw (zaR (zbS hr) (zac 4)<|zbn (zar Z) hr<|zaa (zac 0)<|zaa zad<|zaf)<|cTE Z zf9 ziW<|zaa (zeu ziG (zbn (zar Z) hr<|zaa (zac 0)<|zaa zad<|zaf) zad rfl)<|zaf)<|zai (JS.mk<|sst 9 nd<|zaJ zbj (zcc<|zaa (zac 8)<|zaf)<|cTE Z zds zbt<|zaa (zcE rfl rfl (zdi (N':=["_law_side","_law_pot_here","_law_sides"]) (nt:=1) (fr:=[0,5]) ["_law_pot_here","_law_sides"] rfl (by decide +kernel) (by decide +kernel) (by decide +kernel) rfl ⟨⟨rfl,by decide⟩,⟨⟨rfl,by decide⟩,trivial⟩⟩ ⟨by first | exact Co rfl | exact B8 rfl,⟨by first | exact Co rfl | exact B8 rfl,trivial⟩⟩) (zcK rfl Z.b1<|zad) (fun C s0 H0 fp=>sgn 0 zuj) (fun C s0 H0 fp=>zdu) fun C s0 H0 fp=>zbn (zaW Z) hr (zaa (zac 1)<|zaa (zac 2)<|zaf))<|zaf)<|zai (zdG (SW.sb<|zhb (zbR (ze0<|za4 hr) (zac 6) (zcd<|zaf) rfl)<|zeQ<|zbR (zdE<|za4 hr) (zbn (zar Z) hr<|zaa (zac 0)<|zaa zad<|zaf) zad rfl) (zam<|JS.mk<|sst 9 nd<|zbn (zaW Z) hr<|zaa (zac 0)<|zaa (zac 6)<|zaf)<|zbh)<|zam<|JS.mk<|zhP<|zeF (zac 6)<|zaa (zac 9)<|zaf)<|zam<|JS.mk<|zaQ<|zcc<|zaa (zbn (zaW Z) hr<|zaa (zac 0)<|zaa (zcd<|JA.out<|zah zad<|zah zad<|zah zad<|zah zad<|zah zad<|zd6)<|zaf)<|zaa (zac 3)<|zaa (cTE Z zds zbt<|zaa (zac 6)<|zaf)<|zaf)
def zf1:zc2 P w K mg base 3 "_law_floor" 1 zdl :=
 zbi (k:=2) Z (top 24) 20 ["_law_pot_here","_law_most"] ["_law_pot_here"] fun nd f cdv A outer s H E hr=>JSs.out (zai (JS.mk<|sst 1 nd<|zbn (zaW Z) hr<|zaa (zac 0)<|zaa (zcd<|JA.out<|zah zad<|zah zad<|zah zad<|zah zad<|zah zad<|zah zad<|zah zad<|zah zad<|zd6)<|zaf)<|zam<|JS.mk<|zaQ<|zcc<|zaa (zaJ zbj zad<|zbn (zar Z) hr<|zaa (zac 0)<|zaa (zac 1)<|zaf)<|zaa (zaJ zbj zad<|zbn (zar Z) hr<|zaa (zac 0)<|zaa (zac 1)<|zaf)<|zaf)
def zew:zc2 P w K mg base 2 "_law_standing" 4 zbV :=
 zbi (k:=1) Z (top 25) 21 ["_law_pot_here","_law_house_here","_law_floor_here","_law_most","_law_there","_law_k"] ["_law_pot_here","_law_house_here","_law_floor_here","_law_most"] fun nd f cdv A outer s H E hr=>JSs.out (zai (JS.mk<|sst 4 nd<|znJ)<|zai (zfp BJ rfl (zcK rfl Z.b1<|zbn (zar Z) hr<|zaa (zac 0)<|zaa (zaJ zbj (zac 3)<|zad)<|zaf) (sgn 5 nd)<|zam<|JS.mk<|znu (zbS hr) (zac 4) (zcc<|zaa (zbn (zar Z) hr<|zaa (zac 0)<|zaa (zaR (zbS hr) (zac 2)<|zad)<|zaf)<|zaa (zbn (zar Z) hr<|zaa (zac 0)<|zaa (zaR (zbS hr) (zac 2)<|zad)<|zaf)<|zaf)<|zbn (zar Z) hr<|zaa (zac 0)<|zaa (cBE Z zaZ zcW<|zaa (zaR (zbS hr) (zac 1)<|zad)<|zaf)<|zaf)<|zam<|JS.mk<|zaQ<|cTE Z zds zbt<|zaa (cBE Z zfc zeI<|zaa (zcE rfl rfl (cS ["_law_place","_law_kind"] 2 [] []) (znG<|zac 4) (fun C s0 H0 fp=>znH rfl (zdC (sgn 0 ztC)<|zdC (sgn 1 ztC)<|zjt)) (fun C s0 H0 fp=>zdu) fun C s0 H0 fp=>zaJ zbj (zac 0) (zcc<|zaa (zac 1)<|zaf))<|zaf)<|zaf)
def zhn:zc2 P w K mg base 5 "_law_bed" 2 zec :=
 zbi (k:=4) Z (top 26) 22 ["_law_pot_here","_law_most","_law_house_here","_law_floor_here"] ["_law_pot_here","_law_most"] fun nd f cdv A outer s H E hr=>JSs.out (zai (JS.mk<|zr0 (i:=2) (j:=3) rfl nd rfl rfl (by decide) rfl rfl<|zaa (zbn (zf0 Z) hr<|zaa (zac 0)<|zaa (zac 1)<|zaf)<|zaa (zbn (zf1 Z) hr<|zaa (zac 0)<|zaf)<|zaf)<|zam<|JS.mk<|zaQ<|zcc<|zaa (zac 2)<|zaa (zac 3)<|zaa (zbn (zew Z) hr<|JA.out<|zah (zac 0)<|zah (zac 2)<|zah (zac 3)<|zah (zbn (zaW Z) hr<|zaa (zac 0)<|zaa (zcd<|JA.out<|zah zad<|zah zad<|zah zad<|zah zad<|zd6)<|zaf)<|zd6)<|zaf)
def ze1:zc2 P w K mg base 3 "_law_odd" 1 zcZ :=
 zbi (k := 2) Z (top 27) 23 ["_law_pot_here","_law_some"] ["_law_pot_here"] fun nd f cdv A outer s H E hr=>by
   refine JSs.out ?_;refine zai ?_ ?_
   . refine zmV (i:=1) nd rfl (by first | exact Co rfl | exact B8 rfl) ?_;refine zah zlp ?_;refine zah zei ?_;refine zah zei ?_;refine zah zad ?_;refine zah zad ?_;refine zah (zfP<|zad) ?_;refine zah zad ?_;refine zah zad ?_;refine zah zad ?_;refine zah zad ?_;refine zah ?_ ?_
     . exact zaJ zh3 zad<|zad
     . refine zah zbI ?_;refine zah zbI ?_;refine zah zbI ?_;refine zah zbI ?_;refine zah zbI ?_;refine zah zbI ?_;refine zah ?_ ?_
       . exact zaJ zdw zbI<|zad
       exact zah zbI<|zah zbI<|zd6
   . refine zai ?_ ?_
     . refine JS.mk ?_;refine sst 1 nd ?_;refine zaJ zbj (zac 1) ?_;refine zcd ?_;refine JA.out ?_;refine zah zbI ?_;refine zah zbI ?_;refine zah zbI ?_;refine zah zbI ?_;refine zah (zcc<|zaf) ?_;refine zah (zcd<|zaf) ?_;refine zah zjv ?_;refine zah ?_ ?_
       . exact zcc<|zaa zad<|zaf
       . refine zah ?_ ?_
         . exact zcc<|zaa zad<|zaa zad<|zaf
         . refine zah ?_ ?_
           . exact zcd<|zaa zbI<|zaa zad<|zaf
           . refine zah ?_ ?_
             . exact zcc<|zaa zbI<|zaa zad<|zaf
             . refine zah ?_ ?_
               . refine zcc ?_;refine JA.out ?_;refine zah zbI ?_;refine zah zbI ?_;refine zah zbI ?_;exact zah zbI<|zah zbI<|zd6
               refine zah ?_<|zd6;exact zcc<|zaa (zcc<|zaf)<|zaf
     refine zam ?_;refine JS.mk ?_;refine zaQ ?_;refine zbn (zaW Z) hr ?_;exact zaa (zac 0)<|zaa (zac 1)<|zaf
def ze3:zc2 P w K mg base 4 "_law_changed" 2 zbM :=
 zbi (k:=3) Z (top 28) 24 ["_law_pot_here","_law_thing","_law_some"] ["_law_pot_here","_law_thing"] fun nd f cdv A outer s H E hr=>JSs.out (zai (zdG (SW.sb<|zhb (zda<|isiE Z (zac 1) zbt)<|zeQ<|zbR ziG (zbn (zar Z) hr<|zaa (zac 0)<|zaa zad<|zaf) zad rfl) (zai (JS.mk<|sst 2 nd<|zcd<|JA.out<|zah (cTE Z (zgL rfl) zne<|zaa (zac 1)<|zaf)<|zah (zbO (zac 1) zcC<|zcB<|zfP<|zad)<|zah (zbO (zac 1) (zcB<|zad)<|zcC)<|zah (zaJ zjJ (zac 1)<|zbO (zac 1) (zcB<|zfP<|zad)<|zcC)<|zah (zmE (zac 1)<|zfP<|zad)<|zah (zaJ zjJ (zac 1)<|zcc<|zaa zlp<|zaf)<|zah (zcc<|zaa (zac 1)<|zaf)<|zd6)<|zam<|JS.mk<|zaQ<|zbn (zaW Z) hr<|zaa (zac 0)<|zaa (zac 2)<|zaf)<|zbh)<|zai (zdG (SW.sb<|zdY (zda<|isiE Z (zac 1) zij)<|zde<|zbR zqM (zac 1) zlp rfl) (zam<|JS.mk<|zaQ<|zbn (ze1 Z) hr<|zaa (zac 0)<|zaf)<|zbh)<|zai (zdG (SW.sb<|zhb (zda<|isiE Z (zac 1) ziW)<|zeQ<|zbR ziG (zbn (zar Z) hr<|zaa (zac 0)<|zaa zad<|zaf) zad rfl) (zam<|JS.mk<|zaQ<|zbn (zaW Z) hr<|zaa (zac 0)<|zaa (zcd<|JA.out<|zah (zaJ zbj (zac 1)<|zad)<|zah (zaJ zej (zac 1)<|zad)<|zah (zfP<|zac 1)<|zah (cTE Z zmc zhD<|zaa (zac 1)<|zaf)<|zah (zeu (zdE<|za4 hr) (zac 1) zad rfl)<|zah (zaJ zbj (zac 1)<|zad)<|zah (zcd<|zaa (zac 1)<|zaf)<|zah (zaJ zbj (zac 1)<|zad)<|zd6)<|zaf)<|zbh)<|zai (zdG (SW.sb<|zhb (zda<|isiE Z (zac 1) zhD)<|zeQ<|zbR ziG (zbn (zar Z) hr<|zaa (zac 0)<|zaa zad<|zaf) zad rfl) (zai (JS.mk<|sst 2 nd<|zcd<|JA.out<|zah (zaJ zbj (zac 1)<|zbI)<|zah (zbO (zac 1) zcC<|zcB<|zfP<|zad)<|zah (ztZ<|zac 1)<|zah (zaJ zbj (zac 1)<|zbI)<|zah (zaJ zbj (zac 1)<|zbI)<|zah (zcd<|zaa (zac 1)<|zaf)<|zah (zcc<|zaa (zac 1)<|zaf)<|zah (zmE (zac 1)<|zfP<|zad)<|zd6)<|zam<|JS.mk<|zaQ<|zbn (zaW Z) hr<|zaa (zac 0)<|zaa (zac 2)<|zaf)<|zbh)<|zam<|JS.mk<|zaQ<|zbn (ze1 Z) hr<|zaa (zac 0)<|zaf)
def zdx:zc2 P w K mg base 16 "_law_spoilt" 3 zbu :=
 zoZ (j:=4) Z (top 29) 25 ["_law_pot_here","_law_thing","_law_deep_here","_law_at"] ["_law_pot_here","_law_thing","_law_deep_here"] 12 (fun nd i g hself f cdv A outer s H E hr=>JSs.out (zai (zdG (SW.sb<|zdY (zbR (zdE<|za4 hr) (zac 2) zad rfl)<|zdY (zbL<|zda<|isiE Z (zac 1) zbt)<|zdY (zbR (zsT<|za4 hr) (zac 1) (zcc<|zaf) rfl)<|zde<|zbR (zdE<|za4 hr) (zeV (zar Z) (hr.mono<|by omega) rfl (zaa (zac 0)<|zaa zad<|zaf)<|zfi.cons<|zfi.cons zfi.nil) zad rfl) (zam<|JS.mk<|zaQ<|zeV (ze3 Z) (hr.mono<|by omega) rfl (zaa (zac 0)<|zaa (zac 1)<|zaf)<|zfi.cons<|zfi.cons zfi.nil)<|zbh)<|zai (JS.mk<|sst 3 nd<|zeV (zar Z) (hr.mono<|by omega) rfl (zaa (zac 0)<|zaa (cBE Z zaZ zcW<|zaa (zac 1)<|zaf)<|zaf)<|zfi.cons<|zfi.cons zfi.nil)<|zam<|JS.mk<|zaQ<|zaJ zbj (zaJ zjJ (zbO (zac 1) zcC<|zcB<|zac 3)<|zcc<|zaa (zeV hself hr rfl (zaa (zac 0)<|zaa (zaR (zbS hr) (zac 1)<|zac 3)<|zaa (zaJ zej (zac 2)<|zad)<|zaf)<|zfi.cons<|zfi.cons<|zfi.cons zfi.nil)<|zaf)<|zbO (zac 1) (zcB<|zaJ zbj (zac 3)<|zad)<|zcC))
def zbE:zc2 P w K mg base 1 "_law_whole" 3 zaT :=
 zbi (k:=0) Z (top 30) 26 ["_law_thing","_law_least","_law_most"] ["_law_thing","_law_least","_law_most"] fun nd f cdv A outer s H E hr=>JSs.out (zam<|JS.mk<|zaQ<|zcI (isiE Z (zac 0) ziW)<|zcI (zqa<|isiE Z (zac 0) zij)<|zc9<|zfQ zhk zhk (zac 1) (zac 0)<|zac 2)
def ze2:zc2 P w K mg base 1 "_law_is_name" 1 zb9 :=
 zbi (k:=0) Z (top 31) 27 ["_law_thing"] ["_law_thing"] fun nd f cdv A outer s H E hr=>JSs.out (zam<|JS.mk<|zaQ<|zcI (isiE Z (zac 0) zhD)<|zcI (zfQ ziF ziF zad (cBE Z zaZ zcW<|zaa (zac 0)<|zaf)<|zad)<|zc9<|zeu (zdE<|za4 hr) (zqb PySem.F.slot_str_strip PySem.F.type_str_strip zlN (zac 0)<|zaa zbI<|zaf) zbI rfl)
def zex:zc2 P w K mg base 2 "_law_is_house" 1 zbr :=
 zbi (k:=1) Z (top 32) 28 ["_law_thing","_law_names_here","_law_stick","_law_kind"] ["_law_thing"] fun nd f cdv A outer s H E hr=>JSs.out (zai (zdG (SW.sb<|zdY (zbL<|zda<|isiE Z (zac 0) zbt)<|zdY (zbR (ze0<|za4 hr) (cBE Z zaZ zcW<|zaa (zac 0)<|zaf) zad rfl)<|zde<|zbL<|zda<|zbn (zbE Z) hr<|zaa (zaR (zbS hr) (zac 0)<|zad)<|zaa zad<|zaa zad<|zaf) (zam<|JS.mk<|zaQ<|zei)<|zbh)<|zai (JS.mk<|sst 1 nd<|zcd<|zaf)<|zai (zdG (SW.sb<|zdY (zbL<|zda<|isiE Z (zaR (zbS hr) (zac 0)<|zad) zbt)<|zdY (zbL<|zda<|isiE Z (zaR (zbS hr) (zac 0)<|zad) zbt)<|zde<|zbR (zdE<|za4 hr) (cBE Z zaZ zcW<|zaa (zaR (zbS hr) (zac 0)<|zad)<|zaf) zad rfl) (zam<|JS.mk<|zaQ<|zei)<|zbh)<|zai (zfp BJ rfl (zbQ<|zaR (zbS hr) (zac 0)<|zad) (sgn 2 nd)<|zai (zdG (SW.sb<|zdY (zbL<|zda<|isiE Z (zac 2) zbt)<|zdY (zbR (ze0<|za4 hr) (cBE Z zaZ zcW<|zaa (zac 2)<|zaf) zad rfl)<|zde<|zbL<|zda<|zbn (ze2 Z) hr<|zaa (zaR (zbS hr) (zac 2)<|zad)<|zaf) (zam<|JS.mk<|zaQ<|zei)<|zbh)<|zai (zdG (zbL<|zda<|zbn (zbE Z) hr<|zaa (zaR (zbS hr) (zac 2)<|zad)<|zaa zad<|zaa zad<|zaf) (zam<|JS.mk<|zaQ<|zei)<|zbh)<|zam<|JS.mk<|zhP<|zeF (zac 1)<|zaa (zaR (zbS hr) (zac 2)<|zad)<|zaf)<|zai (zdG (zbR (ze0<|za4 hr) (zac 1) (zmD rfl (za4 hr) rfl Z.b1 rfl Z.b1<|zac 1) rfl) (zam<|JS.mk<|zaQ<|zei)<|zbh)<|zai (zfp BJ rfl (zbQ<|zaR (zbS hr) (zac 0)<|zad) (sgn 3 nd)<|zai (zdG (SW.sb<|zdY (zbL<|zda<|isiE Z (zac 3) zbt)<|zdY (zbR (ze0<|za4 hr) (cBE Z zaZ zcW<|zaa (zac 3)<|zaf) zad rfl)<|zde<|zbL<|zda<|cBE Z (zcy rfl) zga<|zaa (zcE rfl rfl (cS ["_law_part"] 1 [] []) (zbQ<|zac 3) (fun C s0 H0 fp=>sgn 0 zui) (fun C s0 H0 fp=>zdu) fun C s0 H0 fp=>isiE Z (zac 0) zhD)<|zaf) (zam<|JS.mk<|zaQ<|zei)<|zbh)<|zai (zdG (SW.sb<|zdY (zbR ziG (cBE Z zaZ zcW<|zaa (zaR (zbS hr) (zac 3)<|zad)<|zaf) zad rfl)<|zde<|zlt (za4 hr) (zaR (zbS hr) (zac 3)<|zad)<|zbI) (zam<|JS.mk<|zaQ<|zei)<|zbh)<|zam<|zdG (zbL<|zda<|cBE Z (zcy rfl) zga<|zaa (zcE rfl rfl (zdi (N':=["_law_side","_law_names_here"]) (nt:=1) (fr:=[1]) ["_law_names_here"] rfl (by decide +kernel) (by decide +kernel) (by decide +kernel) rfl ⟨⟨rfl,by decide⟩,trivial⟩ ⟨by first | exact Co rfl | exact B8 rfl,trivial⟩) (zbQ<|zbO (zac 3) (zcB<|zad)<|zcC) (fun C s0 H0 fp=>sgn 0 zuh) (fun C s0 H0 fp=>zdu) fun C s0 H0 fp=>ztA (zeu (zdE<|za4 hr) (zac 0) zbI rfl) (zp9<|zlq (za4 hr) (zac 0)<|zac 1))<|zaf) (zam<|JS.mk<|zaQ<|zei)<|zbh)<|zam<|JS.mk<|zaQ<|zei)
def zdF:zc2 P w K mg base 2 "_law_is_standing" 3 zbx :=
 zbi (k:=1) Z (top 33) 29 ["_law_house_here","_law_floor_here","_law_thing","_law_tile","_law_places"] ["_law_house_here","_law_floor_here","_law_thing"] fun nd f cdv A outer s H E hr=>JSs.out (zai (zdG (zbL<|zda<|isiE Z (zac 2) zbt) (zam<|JS.mk<|zaQ<|zei)<|zbh)<|zai (zfp BJ rfl (zbQ<|zac 2) (sgn 3 nd)<|zai (zdG (SW.sb<|zdY (zbL<|zda<|isiE Z (zac 3) zbt)<|zdY (zbR (ze0<|za4 hr) (cBE Z zaZ zcW<|zaa (zac 3)<|zaf) zad rfl)<|zde<|zbL<|zda<|zbn (zbE Z) hr<|zaa (zaR (zbS hr) (zac 3)<|zad)<|zaa zad<|zaa (zaJ zej (zaR (zbS hr) (zac 1)<|zad)<|zad)<|zaf) (zam<|JS.mk<|zaQ<|zei)<|zbh)<|zam<|zdG (SW.sb<|zdY (zbL<|zda<|zbn (zbE Z) hr<|zaa (zaR (zbS hr) (zac 3)<|zad)<|zaa zad<|zaa (zaJ zej (zaR (zbS hr) (zac 1)<|zad)<|zad)<|zaf)<|zde<|zbL<|zda<|zbn (zbE Z) hr<|zaa (zaR (zbS hr) (zac 3)<|zad)<|zaa zad<|zaa (zaJ zej (cBE Z zaZ zcW<|zaa (zaR (zbS hr) (zac 0)<|zad)<|zaf)<|zad)<|zaf) (zam<|JS.mk<|zaQ<|zei)<|zbh)<|zai (JS.mk<|ziy (i:=4) rfl rfl (cS ["_law_x","_law_y","_law_kind"] 3 [] []) (zbQ<|zac 2) (fun C s0 H0 fp=>znH rfl (zdC (sgn 0 zsY)<|zdC (sgn 1 zsY)<|zdC (sgn 2 zsY)<|zjt)) (fun C s0 H0 fp=>zdu) (fun C s0 H0 fp=>zcc (zaa (zac 0)<|zaa (zac 1)<|zaf)) nd rfl rfl)<|zam<|JS.mk<|zaQ<|zeu (zdE<|za4 hr) (zac 4) (zmD rfl (za4 hr) rfl Z.b1 rfl Z.b1<|zac 4) rfl)
def zfk:zc2 P w K mg base 3 "_law_is_bed" 1 zcA :=
 zbi (k:=2) Z (top 34) 30 ["_law_thing"] ["_law_thing"] fun nd f cdv A outer s H E hr=>JSs.out (zai (zdG (SW.sb<|zdY (zbL<|zda<|isiE Z (zac 0) zbt)<|zdY (zbR (ze0<|za4 hr) (cBE Z zaZ zcW<|zaa (zac 0)<|zaf) zad rfl)<|zde<|zbL<|zda<|zbn (zex Z) hr<|zaa (zaR (zbS hr) (zac 0)<|zad)<|zaf) (zam<|JS.mk<|zaQ<|zei)<|zbh)<|zai (zdG (SW.sb<|zdY (zbL<|zda<|isiE Z (zaR (zbS hr) (zac 0)<|zad) zbt)<|zdY (zbR (ze0<|za4 hr) (cBE Z zaZ zcW<|zaa (zaR (zbS hr) (zac 0)<|zad)<|zaf) zad rfl)<|zde<|zbL<|zda<|cBE Z (zcy rfl) zga<|zaa (zcE rfl rfl (cS ["_law_one"] 1 [] []) (zbQ<|zaR (zbS hr) (zac 0)<|zad) (fun C s0 H0 fp=>sgn 0 zug) (fun C s0 H0 fp=>zdu) fun C s0 H0 fp=>zbn (zbE Z) hr (zaa (zac 0)<|zaa zad<|zaa zad<|zaf))<|zaf) (zam<|JS.mk<|zaQ<|zei)<|zbh)<|zam<|JS.mk<|zaQ<|zbn (zdF Z) hr<|zaa (zaR (zbS hr) (zac 0)<|zad)<|zaa (zaR (zbS hr) (zac 0)<|zad)<|zaa (zaR (zbS hr) (zac 0)<|zad)<|zaf)
def zek:zc2 P w K mg base 1 "_law_deep" 2 zbl :=
 zbi (k:=0) Z (top 35) 31 ["_law_many","_law_by_list","_law_thing","_law_k"] ["_law_many","_law_by_list"] fun nd f cdv A outer s H E hr=>JSs.out (zai (JS.mk<|sst 2 nd<|zcc<|zaf)<|zai (zfp BJ rfl (zcK rfl Z.b1<|zac 0) (sgn 3 nd)<|zam<|JS.mk<|sst 2 nd<|zse (zda<|zac 1) (zcd<|zaa (zac 2)<|zaf)<|zcc<|zaa (zac 2)<|zaf)<|zam<|JS.mk<|zaQ<|zac 2)
def zti{f:Addr}{fd:FuncData}(F:Fun K "law" "law" (top 36) f fd):FnOk P w K mg base CX0 17 f fd ["_law_script"] (spM K 1 ztt) :=
 zux (k:=16) F ["_law_script","_law_k","_law_pot_here","_law_right","_law_things","_law_turn","_law_bent","_law_thing","_law_found"] ["_law_script"] fun nd cdv A outer s H E hr=>JSs.out (zai (zfp BJ rfl (zcK rfl Z.b1<|cBE Z (zmi rfl) ztn<|zaa zad<|zaa (cBE Z (zmg rfl) ztm<|zaa (cBE Z zaZ zcW<|zaa (zac 0)<|zaf)<|zaa zad<|zaf)<|zaf) (sgn 1 nd)<|zai (JS.mk<|sst 2 nd<|zbn (zhm Z) hr<|zaa (zac 0)<|zaa (zac 1)<|zaf)<|zai (JS.mk<|sst 3 nd<|zbn (zhn Z) hr<|zaa (zac 2)<|zaa (zbn (zaW Z) hr<|zaa (zac 2)<|zaa (zcd<|zaa zad<|zaa zad<|zaa zad<|zaf)<|zaf)<|zaf)<|zai (zmV (i:=4) nd rfl (by first | exact Co rfl | exact B8 rfl)<|zah (zac 3)<|zah (zcc<|zaa (zac 3)<|zaf)<|zah (zbO (zac 3) zcC<|zcB<|zfP<|zad)<|zah (zaJ zbj (zac 3)<|zcc<|zaa zad<|zaf)<|zah (cTE Z (zgL rfl) zne<|zaa (zac 3)<|zaf)<|zah zlp<|zah (zcc<|zaf)<|zah zbI<|zah zei<|zah zad<|zah zjv<|zd6)<|zai (JS.mk<|sst 4 nd<|zaJ zbj (zac 4)<|zcd<|zaa (zbn (zek Z) hr<|zaa zad<|zaa zei<|zaf)<|zaa (zbn (zek Z) hr<|zaa zad<|zaa zei<|zaf)<|zaa (zcc<|zaa (zac 3)<|zaa (zac 3)<|zaa (zac 3)<|zaf)<|zaf)<|zai (zfp BJ rfl (zcK rfl Z.b1<|zad) (sgn 5 nd)<|zai (JS.mk<|sst 6 nd<|zbn (zdx Z) hr<|zaa (zac 2)<|zaa (zac 3)<|zaa (zaJ zbj zad<|zbn (zar Z) hr<|zaa (zac 2)<|zaa zad<|zaf)<|zaf)<|zai (zdG (zbR (zdE<|za4 hr) (zbn (zar Z) hr<|zaa (zac 2)<|zaa zad<|zaf) zad rfl) (zam<|JS.mk<|sst 6 nd<|zbn (zdx Z) hr<|zaa (zac 2)<|zaa (zac 6)<|zaa (zaJ zbj zad<|zbn (zar Z) hr<|zaa (zac 2)<|zaa zad<|zaf)<|zaf)<|zbh)<|zam<|JS.mk<|zhP<|zeF (zac 4)<|zaa (zac 6)<|zaf)<|zam<|zfp BJ rfl (zbQ<|zac 4) (sgn 7 nd)<|zai (JS.mk<|sst 8 nd<|zbn (zlK Z) hr<|zaa (zac 7)<|zaf)<|zam<|zdG (SW.sb<|zdY (zbL<|zda<|isiE Z (zac 8) zij)<|zde<|zbR (ze0<|za4 hr) (zac 8) (zbn (zfk Z) hr<|zaa (zac 7)<|zaf) rfl) (zam<|JS.mk<|zaQ<|zei)<|zbh)<|zam<|JS.mk<|zaQ<|zei)
end
end L2.MP.T0
namespace L2.MP.T0
open PySem L2.MP L2.MP.Hn
open L2.MP.Hb (zfG ty_str ty_int)
def big(m:Nat):Nat:=1000000000000000000000000000000+100*m
inductive Fit (n m:Nat) (st:Sto):D->Prop
 | non:Fit n m st .non
 | bl (b:Bool):Fit n m st (.bl b)
 | int (i:Int) (h:i.natAbs<=big m):Fit n m st (.int i)
 | str (z:Str) (h:z.cps.toList.length<=50+10*m) (ok:∀ c∈z.cps.toList,c < 128):Fit n m st (.str z)
 | tup (ds:List D) (h:ds.length<=20+5*m) (f:∀ d∈ds,Fit n m st d):Fit n m st (.tup ds)
 | lst (k:Nat) (xs:List D) (h:st[k]?=some (.lst xs)) (h1:k≠n):Fit n m st (.ref k)
 | dk (k:Nat) (xs:List (Key×D)) (h:st[k]?=some (.dk xs)) (h1:k≠n):Fit n m st (.ref k)
variable {n m:Nat}{st st':Sto}{d:D}
def Fit.fr(F:Fr n st st')(h:Fit n m st d):Fit n m st' d:=by
 induction h with
 | non=>exact .non
 | bl b=>exact .bl b
 | int i h=>exact .int i h
 | str z h ok=>exact .str z h ok
 | tup ds h f ih=>exact .tup ds h ih
 | lst k xs h h1=>exact .lst k xs ((F.old k (getElem?_lt h) h1).trans h) h1
 | dk k xs h h1=>exact .dk k xs ((F.old k (getElem?_lt h) h1).trans h) h1
def Fit.gr(g:Gr st st')(h:Fit n m st d):Fit n m st' d:=h.fr<|g.fr n
def zrA{a b:Nat}(h:a<=b):big a<=big b:=by unfold big;omega
variable {k:Nat}
def Fit.up(h:Fit n m st d)(hk:m<=k):Fit n k st d:=by
 induction h with
 | non=>exact .non
 | bl b=>exact .bl b
 | int i h=>exact .int i<|AR h<|zrA hk
 | str z h ok=>exact .str z (by omega) ok
 | tup ds h f ih=>exact .tup ds (by omega) ih
 | lst k xs h h1=>exact .lst k xs h h1
 | dk k xs h h1=>exact .dk k xs h h1
variable {ds:List D}
def Fit.at{ds:List D}(h:Fit n m st (.tup ds)):∀ d∈ds,Fit n m st d:=by
 cases h with
 | tup ds h f=>exact f
def Fit.ln(h:Fit n m st (.tup ds)):ds.length<=20+5*m:=by
 cases h with
 | tup ds h f=>exact h
variable {z:Str}
def Fit.tx{z:Str}(h:Fit n m st (.str z)):z.cps.toList.length<=50+10*m/\∀ c∈z.cps.toList,c < 128:=by
 cases h with
 | str z h f=>exact⟨h,f⟩
def zrF{z:Str}(h:∀ c∈z.cps.toList,c < 128):AK z=true:=by unfold AK;rw[<-Array.all_toList,BD];intro c hc;have:=h c hc;simp;omega
variable {b:Bool}{U:Rho}{i:Nat}{lo hi:Int}
theorem zpu:tyName st .non=some "NoneType":=rfl
theorem zrT:tyName st (.bl b)=some "bool":=rfl
def znj{xs:List D}(h:st[k]?=some (.lst xs)):tyName st (.ref k)=some "list":=by unfold tyName;simp only[h]
def zrS{xs:List (Key×D)}(h:st[k]?=some (.dk xs)):tyName st (.ref k)=some "dict":=by unfold tyName;simp only[h]
def istB:D->Bool
 | .tup _=>true
 | _=>false
def issB:D->Bool
 | .str _=>true
 | _=>false
def isiB:D->Bool
 | .int _=>true
 | .bl _=>true
 | _=>false
def isbB:D->Bool
 | .bl _=>true
 | _=>false
def zpg(h:Fit n m st d):∃ ty,tyName st d=some ty/\subT ty "tuple"=istB d/\subT ty "str"=issB d/\subT ty "int"=isiB d/\subT ty "bool"=isbB d:=by
 cases h with
 | non=>exact⟨_,rfl,by simp[subT,istB,issB,isiB,isbB]⟩
 | bl b=>exact⟨_,rfl,by simp[subT,istB,issB,isiB,isbB]⟩
 | int x=>exact⟨_,rfl,by simp[subT,istB,issB,isiB,isbB]⟩
 | str z h ok=>exact⟨_,rfl,by simp[subT,istB,issB,isiB,isbB]⟩
 | tup ds h f=>exact⟨_,rfl,by simp[subT,istB,issB,isiB,isbB]⟩
 | lst k xs h h1=>exact⟨_,znj h,by simp[subT,istB,issB,isiB,isbB]⟩
 | dk k xs h h1=>exact⟨_,zrS h,by simp[subT,istB,issB,isiB,isbB]⟩
def zfq(h:Fit n m st d)(hr:U[i]?=some (some d)):mIsi "tuple" (mVar i) U st=some (.bl (istB d),st):=by obtain⟨ty,e,e1,_⟩:=zpg h;simp[hr,e,e1]
def zlZ(h:Fit n m st d)(hr:U[i]?=some (some d)):mIsi "str" (mVar i) U st=some (.bl (issB d),st):=by obtain⟨ty,e,_,e1,_⟩:=zpg h;simp[hr,e,e1]
def zrc(h:Fit n m st d)(hr:U[i]?=some (some d)):mIsi "int" (mVar i) U st=some (.bl (isiB d),st):=by obtain⟨ty,e,_,_,e1,_⟩:=zpg h;simp[hr,e,e1]
def zte(h:Fit n m st d)(hr:U[i]?=some (some d)):mIsi "bool" (mVar i) U st=some (.bl (isbB d),st):=by obtain⟨ty,e,_,_,_,e1⟩:=zpg h;simp[hr,e,e1]
def whB(lo hi:Int):D->Bool
 | .int x=>decide (lo<=x)&&decide (x<=hi)
 | _=>false
def zdd(h:Fit n m st d):zbC [d,.int lo,.int hi] st=some (.bl (whB lo hi d),st):=by
 refine zbv ?_;unfold zgY
 cases h with
 | non=>simp[zpu,subT,whB]
 | bl b=>simp[zrT,subT,whB]
 | int x _ =>
   unfold whB
   by_cases h1:lo<=x
   . by_cases h2:x<=hi
     . simp[zdb,ty_int,subT,h1,h2]
     simp[zdb,ty_int,subT,h1,h2]
   simp[zdb,ty_int,subT,h1]
 | str z h ok=>simp[ty_str,subT,whB]
 | tup ds h f=>simp[zfG,subT,whB]
 | lst k xs h h1=>simp[znj h,subT,whB]
 | dk k xs h h1=>simp[zrS h,subT,whB]
def zdp(h:Fit n m st d):zaT [d,.int lo,.int hi] st=some (.bl (whB lo hi d),st):=zdd h
def tupB(N:Int):D->Bool
 | .tup ds=>(ds.length:Int)==N
 | _=>false
def zdZ{N:Int}(h:Fit n m st d):zbf [d,.int N] st=some (.bl (tupB N d),st):=by
 refine zbv ?_;unfold zgZ
 cases h with
 | non=>simp[zpu,subT,tupB]
 | bl b=>simp[zrT,subT,tupB]
 | int x _=>simp[ty_int,subT,tupB]
 | str z h ok=>simp[ty_str,subT,tupB]
 | tup ds h f=>simp[zfG,subT,tupB,zcO,eq_int]
 | lst k xs h h1=>simp[znj h,subT,tupB]
 | dk k xs h h1=>simp[zrS h,subT,tupB]
variable {α:Type}
def znf{α:Type}(f:α->Bool):∀ as:List α,zo8 (as.map fun a=>D.bl (f a))=some (as.map f)
 | []=>rfl
 | a::as=>by show (zo8<|as.map fun a=>D.bl (f a)).map _=_;rw[znf f as];rfl
def zpb{f:α->Bool}{as:List α}(h:st[n]?=some (.lst<|as.map fun a=>D.bl (f a))):allC [.ref n] st=some (.bl (as.all f),st):=by unfold allC;simp only[zbY,h,Ac,znf,Ag,HL];rfl
def zdj{mi:MI}{b:D->Bool}{as:List D}{fr:List Nat}{m:ME}{U0:Rho}{gd:List (Nat×List D)}(hw:mi U st=some (⟨as,gd⟩,st))(hg:∀ s,Gr st s->walked ⟨as,gd⟩ s=true)(hU:rho0 U 1 fr=none::U0)(hl:as.length<=10000)
   (h:∀ a∈as,∀ s,Gr st s->∃ s1,m (some a::U0) s=some (.bl (b a),s1)/\Gr s s1) :
   ∃ st',zal allC (zab (zdR mi 1 fr (gNm 0) zcV m) mNil) U st=some (.bl (as.all b),st')/\Gr st st':=by
 obtain⟨s1,e,g⟩:=ztI (W:=⟨as,gd⟩) (g:=gNm 0) (c:=zcV) (m:=m) (f:=fun x:D=>x) (h:=fun a=>D.bl (b a)) (R:=fun r=>∃ x,r=x::U0) (as:=as) (U:=none::U0) (st:=st) ⟨none,rfl⟩ hg (fun a ha r s hr gs=>by obtain⟨x,rfl⟩:=hr;obtain⟨s1,e,g⟩:=h a ha s gs;exact⟨some a::U0,s1,rfl,rfl,e,g,_,rfl⟩)
 rw[List.map_id'] at e;have fl:fits (as.map fun a=>D.bl (b a)).length=true:=zaH (by rw[Ai];exact hl);have ec:zdR mi 1 fr (gNm 0) zcV m U st=some (.ref s1.length,s1++[.lst (as.map fun a=>D.bl (b a))]):=by rw[zaw,hw];simp only[Ac];rw[hU,e];simp only[Ac,fl,if_true]
 refine⟨_,?_,g.trans<|Gr.app s1 [.lst (as.map fun a=>D.bl (b a))]⟩;simp only[zav,zat,zaK,ec,Ac];exact zpb<|zbg s1 _
variable {a:MS}{t:MT}{s1:Sto}
def ifB(h:t U st=some (b,s1)):mIf t a zcf U st=if b=true then a U s1 else some (.nx U,s1):=by simp only[zbZ,h,Ac,zay]
def ifT{r:Option (Fl×Sto)}(h:t U st=some (true,s1))(k:a U s1=r):mIf t a zcf U st=r:=by rw[ifB h,if_pos rfl];exact k
def ifF(h:t U st=some (false,s1)):mIf t a zcf U st=some (.nx U,s1):=by rw[ifB h,if_neg (by decide)]
def tstB{m:ME}(h:m U st=some (.bl b,s1)):mTst m U st=some (b,s1):=by simp only[za1,h,Ac]
def notB{m:ME}(h:m U st=some (.bl b,s1)):zcN (mTst m) U st=some (!b,s1):=by simp only[zaB,za1,h,Ac,Ag]
def orL{a b:MT}(h1:a U st=some (true,s1)):mOrT a b U st=some (true,s1):=by simp only[za2,h1,Ac,if_true]
def orR{a b:MT}{r:Option (Bool×Sto)}(h1:a U st=some (false,s1))(h2:b U s1=r):mOrT a b U st=r:=by simp only[za2,h1,Ac,Aw,if_false,h2]
def andL{a b:ME}(h1:a U st=some (.bl false,s1)):zem a b U st=some (.bl false,s1):=by simp[zaA,h1]
def andR{a b:ME}{r:Option (D×Sto)}(h1:a U st=some (.bl true,s1))(h2:b U s1=r):zem a b U st=r:=by simp[zaA,h1,h2]
def zbX{m:ME}{s:Sto}(h:m U st=some (d,s)):mRet m U st=some (.rt d,s):=by rw[zaX,h];rfl
open L2.MP.Hd (stD zgG kvS)
noncomputable abbrev LET:Str:="abcdefghijklmnopqrstuvwxyz"
noncomputable abbrev FAC:Str:="abcdefghijklmnopqrstuvwxyz0123456789"
def zrM(h:z.cps.toList.length<=1000):lenD [.str z] st=some (.int (z.cps.toList.length:Int),st):=by have hf:fits z.length=true:=zaH (by rw[len_list];omega);show (if fits z.length=true then _ else _)=_;rw[if_pos hf];rfl
def zoB{a b:Str}:inA (.str a) (.str b) st=some (.bl (!(BC b a 0 b.length 1).isEmpty),st):=by
 have e:inD false (.str a) (.str b) st=none:=by
   unfold inD
   cases h1:toP 50 st (.str a) with
   | none=>rfl
   | some p =>
     cases h2:toP 50 st (.str b) with
     | none=>rfl
     | some q =>
       have:q=.str b:=by
         rw[toP] at h2
         split at h2
         . cases h2;rfl
         . cases h2
       subst this;rfl
 unfold inA orG;rw[e,zbA];rfl
def zmZ{c:Nat}:inA (.str ⟨#[c]⟩) (.str z) st=some (.bl (decide (c∈z.cps.toList)),st):=by rw[zoB,StrLaws.found_one z c]
def zoQ:(BC FAC ("":Str) 0 FAC.length 1).isEmpty=false:=by decide +kernel
def zpE{l:List Nat}(h:z.cps.toList=l):z=⟨l.toArray⟩:=zjf<|by rw[h]
def zmQ(z:Str):Bool:=decide (1<=z.cps.toList.length)&&decide (z.cps.toList.length<=8)&&z.cps.toList.all (fun c=>decide (c∈LET.cps.toList))
def zj0:D->Bool
 | .str z=>zmQ z
 | _=>false
def zmO(h:issB d=false):zj0 d=false:=by cases d <;> first | rfl | cases h
def zq1(h:Fit n m st d)(hm:m<=5):∃ st',zeK [d] st=some (.bl (zj0 d),st')/\Gr st st':=by
 have ei:=zlZ (U:=[some d]) (i:=0) h rfl
 cases hs:issB d with
 | false =>
   rw[hs] at ei;refine⟨st,zbv ?_,Gr.refl st⟩;unfold zdX;rw[zmO hs];exact zbX<|andL ei
 | true =>
   rw[hs] at ei
   cases h with
   | str z hl ok =>
     have el:=zrM (z:=z) (st:=st) (by omega);show ∃ st',zeK [.str z] st=some (.bl (zmQ z),st')/\Gr st st';obtain⟨k,hk⟩:∃ k,z.cps.toList.length=k:=⟨_,rfl⟩
     unfold zmQ;rw[hk] at el ⊢
     by_cases h1:1<=k
     . by_cases h2:k<=8
       . obtain⟨s1,ea,g1⟩:=zdj (mi:=mWA (mVar 0)) (b:=fun x=>match x with | .str y=>y.cps.toList.all (fun c=>decide (c∈LET.cps.toList)) | _=>false) (as:=L2.MP.signs z) (fr:=[]) (m:=zee) (U0:=[]) (U:=[some (.str z)]) (st:=st) (gd:=[]) rfl (fun _ _=>rfl) rfl (by rw[<-zhR,<-Au];omega) (fun x hx s g=>by
           refine⟨s,?_,Gr.refl s⟩;unfold L2.MP.signs at hx;obtain⟨c,hc,rfl⟩:=List.mem_map.mp hx;have:=zmZ (z:=LET) (c:=c) (st:=s);unfold zee;simp[this])
         refine⟨s1,zbv ?_,g1⟩;have e2:((L2.MP.signs z).all fun x=>match x with | .str y=>y.cps.toList.all (fun c=>decide (c∈LET.cps.toList)) | _=>false)=z.cps.toList.all (fun c=>decide (c∈LET.cps.toList)):=by
           unfold L2.MP.signs;rw[HL]
           congr 1
           funext c
           simp
         rw[e2] at ea;rw[decide_eq_true h1,decide_eq_true h2];have c1:(1:Int)<=(k:Int):=by omega
         have c2:(k:Int)<=8:=by omega
         unfold zdX;exact zbX<|andR ei<|andR (by simp[zdb,el,c1,c2]) ea
       . refine⟨st,zbv ?_,Gr.refl st⟩;have c1:(1:Int)<=(k:Int):=by omega
         have c2:¬ (k:Int)<=8:=by omega
         rw[decide_eq_false h2,Cd,Bq];unfold zdX;exact zbX<|andR ei<|andL<|by simp[zdb,el,c1,c2]
     . refine⟨st,zbv ?_,Gr.refl st⟩;have c1:¬ (1:Int)<=(k:Int):=by omega
       rw[decide_eq_false h1,Bq,Bq];unfold zdX;exact zbX<|andR ei<|andL<|by simp[zdb,el,c1]
   | _=>cases hs
def zdt:D->Bool
 | .tup [a,b]=>zj0 a&&whB 1 4 b
 | _=>false
def znl(d:D):(∃ x y,d=.tup [x,y])\/(tupB 2 d=false/\zdt d=false):=by
 cases d with
 | tup ds =>
   match ds with
   | [x,y]=>exact .inl ⟨x,y,rfl⟩
   | []=>exact .inr ⟨rfl,rfl⟩
   | [x]=>exact .inr ⟨rfl,rfl⟩
   | x::y::z::r =>
     refine .inr ⟨?_,rfl⟩;show (((x::y::z::r).length:Int)==2)=false;apply beq_false_of_ne;simp only[AA];omega
 | _=>exact .inr ⟨rfl,rfl⟩
def znr(h:Fit n m st d)(hm:m<=5):∃ st',zdV [d] st=some (.bl (zdt d),st')/\Gr st st':=by
 have et:=zdZ (N:=2) h
 rcases znl d with ⟨x,y,rfl⟩ | ⟨h1,h2⟩
 . have fx:=h.at x (by simp);have fy:=h.at y (by simp);obtain⟨s1,e1,g1⟩:=zq1 fx hm;have x0:∀ s:Sto,ixA (.tup [x,y]) (.int 0) s=some (x,s):=fun s=>zbs (by decide) rfl;have x1:∀ s:Sto,ixA (.tup [x,y]) (.int 1) s=some (y,s):=fun s=>zbs (by decide) rfl;have ew:=zdd (lo:=1) (hi:=4)<|fy.gr g1;have et':zbf [.tup [x,y],.int 2] st=some (.bl true,st):=et;show ∃ st',zdV [.tup [x,y]] st=some (.bl (zj0 x&&whB 1 4 y),st')/\Gr st st';generalize D.tup [x,y]=P at *;refine⟨s1,zbv ?_,g1⟩;unfold zfg
   cases hn:zj0 x with
   | false=>rw[hn] at e1;exact zbX<|andR (s1:=st) (by simp[et'])<|andL (s1:=s1)<|by simp[x0,e1]
   | true=>rw[hn] at e1;exact zbX<|andR (s1:=st) (by simp[et'])<|andR (s1:=s1) (by simp[x0,e1])<|by simp[x1,ew]
 rw[h1] at et;refine⟨st,zbv ?_,Gr.refl st⟩;rw[h2];unfold zfg;exact zbX<|andL<|by simp[et]
def nmOf:D->Str
 | .tup (.str z::_)=>z
 | _=>""
def namesOf(ds:List D):List Str:=ds.map nmOf
def zdn:∀ {ds:List D},ds.all zdt=true->∃ S:List (Str×Int),ds=S.map zbK/\∀ p∈S,zmQ p.1=true/\1<=p.2/\p.2<=4
 | [],_=>⟨[],rfl,by simp⟩
 | d::ds,h=>by
   rw[Bz,An] at h;obtain⟨S,e,f⟩:=zdn h.2
   rcases znl d with ⟨x,y,rfl⟩ | ⟨_,h2⟩
   . have h1:zj0 x=true/\whB 1 4 y=true:=by
       have:=h.1
       rwa [show zdt (.tup [x,y])=(zj0 x&&whB 1 4 y) from rfl,An] at this
     cases x with
     | str z =>
       cases y with
       | int i =>
         have hw:(decide (1<=i)&&decide (i<=4))=true:=h1.2;rw[An] at hw;refine⟨(z,i)::S,by rw[e];rfl,fun p hp=>?_⟩
         rcases List.mem_cons.mp hp with rfl | hp
         . exact⟨h1.1,of_decide_eq_true hw.1,of_decide_eq_true hw.2⟩
         exact f p hp
       | _=>cases h1.2
     | _=>cases h1.1
   rw[h2] at h;cases h.1
def ze4(S:List (Str×Int)):namesOf (S.map zbK)=S.map (·.1):=by unfold namesOf;rw[A9];rfl
def ltS(a b:Str):Bool:=decide (a.cps.toList < b.cps.toList)
def zg3(as:List Str):Bool:=(as.zip<|as.drop 1).all fun p=>ltS p.1 p.2
def zo0(ds:List D):cutD ds (some 1) none=ds.drop 1:=by
 unfold cutD;have h1:HT.sIx ds.length 0 (some 1)=min 1 ds.length:=by unfold HT.sIx;simp
 have h2:HT.sIx ds.length ds.length none=ds.length:=rfl;rw[h1,h2]
 cases ds with
 | nil=>rfl
 | cons a r =>
   have:min 1 (a::r).length=1:=by simp
   rw[this];simp
def znN{as:List Str}{l:Nat}(hl:st[l]?=some (.lst<|as.map D.str))(hn:as.length<=10000):∃ st',zgT [.ref l] st=some (.bl (zg3 as),st')/\Gr st st':=by
 have hll:=getElem?_lt hl;have es:slC (.ref l) (some 1) none st=some (.ref st.length,st++[.lst ((as.drop 1).map D.str)]):=by
   have:slD (.ref l) (some 1) none st=some (.ref st.length,st++[.lst ((as.drop 1).map D.str)]):=by show (zbY st l).map _=_;simp only[zbY,hl,Ag,zo0];rw[Gd]
   unfold slC slB slA;rw[this,zbo,zbo,zbo]
 have a1:(st++[O.lst ((as.drop 1).map D.str)])[l]?=some (.lst<|as.map D.str):=by rw[Az hll];exact hl
 have a2:=zbg st<|.lst<|(as.drop 1).map D.str;have g1:=Gr.app st [.lst ((as.drop 1).map D.str)];generalize hs1:st++[O.lst ((as.drop 1).map D.str)]=s1 at *;have ep:pairD (as.map D.str) ((as.drop 1).map D.str)=(as.zip<|as.drop 1).map fun p=>D.tup [D.str p.1,D.str p.2]:=by unfold pairD;rw[HM,A9];rfl
 have ez:zipW (.ref l) (.ref st.length) s1=some (⟨(as.zip<|as.drop 1).map fun p=>D.tup [D.str p.1,D.str p.2],[(l,as.map D.str),(st.length,(as.drop 1).map D.str)]⟩,s1):=by unfold zipW;simp only[seqD,zbY,a1,a2,Ag,Ac,ep];rfl
 have hw:walked ⟨(as.zip<|as.drop 1).map fun p=>D.tup [D.str p.1,D.str p.2],[(l,as.map D.str),(st.length,(as.drop 1).map D.str)]⟩ s1=true:=by have w1:=zcY (ds:=[]) a1;have w2:=zcY (ds:=[]) a2;unfold walked at w1 w2 ⊢;simp only[Bz,Gz,DO] at w1 w2 ⊢;rw[w1,w2];rfl
 have ec:=zhA (W:=⟨(as.zip<|as.drop 1).map fun p=>D.tup [D.str p.1,D.str p.2],[(l,as.map D.str),(st.length,(as.drop 1).map D.str)]⟩) (g:=gTp 2 (gC (gNm 0)<|gC (gNm 1)<|gN0)) (c:=zcV) (m:=zc6) (f:=fun p:Str×Str=>D.tup [D.str p.1,D.str p.2]) (h:=fun p:Str×Str=>D.bl (ltS p.1 p.2)) (R:=fun r=>∃ x y,r=[x,y]) (as:=as.zip (as.drop 1)) (U:=[none,none]) (st:=s1) ⟨_,_,rfl⟩ hw (fun p hp r hr=>by obtain⟨x,y,rfl⟩:=hr;refine⟨[some (D.str p.1),some (D.str p.2)],rfl,rfl,?_,_,_,rfl⟩;have:ltB (.str p.1) (.str p.2) s1=some (.bl (ltS p.1 p.2),s1):=rfl;unfold zc6;simp[this])
 have fl:fits ((as.zip<|as.drop 1).map fun p=>D.bl (ltS p.1 p.2)).length=true:=zaH (by rw[Ai,Fu];omega);refine⟨_,zbv ?_,g1.trans<|Gr.app s1 [.lst ((as.zip<|as.drop 1).map fun p=>D.bl (ltS p.1 p.2))]⟩;have ecm:zdR (mZip (mVar 0)<|mSlC (mVar 0) (zcL<|mCon<|.int 1)<|zcM) 2 [] (gTp 2<|gC (gNm 0)<|gC (gNm 1)<|gN0) zcV zc6 [some (.ref l)] st=some (.ref s1.length,s1++[.lst ((as.zip<|as.drop 1).map fun p=>D.bl (ltS p.1 p.2))]):=by
   have ezz:mZip (mVar 0) (mSlC (mVar 0) (zcL<|mCon<|.int 1)<|zcM) [some (.ref l)] st=some (⟨(as.zip<|as.drop 1).map fun p=>D.tup [D.str p.1,D.str p.2],[(l,as.map D.str),(st.length,(as.drop 1).map D.str)]⟩,s1):=by
     rw[za0];have e2:mSlC (mVar 0) (zcL<|mCon<|.int 1) zcM [some (.ref l)] st=some (.ref st.length,s1):=by unfold mSlC;simp[es]
     have v0:mVar 0 [some (.ref l)] st=some (.ref l,st):=rfl;rw[v0,Ac,e2,Ac,ez]
   rw[zaw,ezz];simp only[Ac];rw[show rho0 [some (.ref l)] 2 []=[none,none] from rfl,ec];simp only[Ac,fl,if_true]
 have ea:=zpb<|zbg s1<|.lst<|(as.zip<|as.drop 1).map fun p=>D.bl (ltS p.1 p.2);unfold zkX zg3;show mRet _ [some (.ref l)] st=_;rw[zaX];simp only[zav,zat,zaK,ecm,Ac,ea,Ag]
def zeS:D->Bool
 | .tup ss=>ss.all zdt&&zg3 (namesOf ss)
 | _=>false
def zmN(h:istB d=false):zeS d=false:=by cases d <;> first | rfl | cases h
def zk9(h:Fit n m st d)(hm:m<=5):∃ st',zb2 [d] st=some (.bl (zeS d),st')/\Gr st st':=by
 have ei:=zfq (U:=[some d]) (i:=0) h rfl
 cases hs:istB d with
 | false =>
   rw[hs] at ei;refine⟨st,zbv ?_,Gr.refl st⟩;unfold zc8;rw[zmN hs];exact zbe<|ifT (orL<|notB ei) rfl
 | true =>
   rw[hs] at ei
   cases h with
   | tup ds hl f =>
     obtain⟨s1,ea,g1⟩:=zdj (mi:=mWA (mVar 0)) (b:=zdt) (as:=ds) (fr:=[]) (m:=zc7) (U0:=[]) (U:=[some (.tup ds)]) (st:=st) (gd:=[]) rfl (fun _ _=>rfl) rfl (by omega) (fun x hx s g=>by obtain⟨s1,e1,g1⟩:=znr ((f x hx).gr g) hm;refine⟨s1,?_,g1⟩;unfold zc7;simp[e1])
     show ∃ st',zb2 [.tup ds] st=some (.bl (ds.all zdt&&zg3 (namesOf ds)),st')/\Gr st st'
     cases hall:ds.all zdt with
     | false =>
       rw[hall] at ea;refine⟨s1,zbv ?_,g1⟩;unfold zc8;exact zbe<|ifT (orR (notB ei)<|notB ea) rfl
     | true =>
       rw[hall] at ea;obtain⟨S,rfl,hS⟩:=zdn hall;rw[ze4];rw[Ai] at hl;have ec:=zhA (W:=⟨S.map zbK,[]⟩) (g:=gNm 0) (c:=zcV) (m:=zbW) (f:=zbK) (h:=fun p=>D.str p.1) (R:=fun r=>∃ x,r=[x]) (as:=S) (U:=[none]) (st:=s1) ⟨_,rfl⟩ rfl (fun p hp r hr=>by obtain⟨x,rfl⟩:=hr;have x0:ixA (zbK p) (.int 0) s1=some (.str p.1,s1):=zbs (by decide) rfl;refine⟨[some (zbK p)],rfl,rfl,?_,_,rfl⟩;unfold zbW;simp[x0])
       have fl:fits (S.map fun p=>D.str p.1).length=true:=zaH (by rw[Ai];omega);have ecm:zdR (mWA<|mVar 0) 1 [] (gNm 0) zcV zbW [some (.tup<|S.map zbK)] s1=some (.ref s1.length,s1++[.lst ((S.map (·.1)).map D.str)]):=by rw[zaw];show (mCI _ _ _ _ _ _ _).bind _=_;rw[show rho0 [some (.tup<|S.map zbK)] 1 []=[none] from rfl];show (mCI ⟨S.map zbK,[]⟩ (gNm 0) zcV zbW (S.map zbK) [none] s1).bind _=_;rw[ec];simp only[Ac,fl,if_true,A9];rfl
       have b1:=zbg s1 (.lst ((S.map (·.1)).map D.str));have g2:=Gr.app s1 [.lst ((S.map (·.1)).map D.str)];generalize s1++[O.lst ((S.map (·.1)).map D.str)]=s2 at *;obtain⟨s3,e3,g3⟩:=znN b1 (by rw[Ai];omega);refine⟨s3,zbv ?_,g1.trans<|g2.trans g3⟩;unfold zc8;refine zan (U1:=[some (.tup<|S.map zbK)]) (s1:=s1) (ifF<|orR (notB ei)<|notB ea)<|zbX ?_;simp only[zav,zat,zaK,ecm,Ac,e3,Bc]
   | _=>cases hs
end L2.MP.T0
namespace L2.MP.T0
open PySem L2.MP L2.MP.Hn
open L2.MP.Hb (zfG ty_str ty_int)
open L2.MP.Hd (stD zgG kvS zmr)
def zgv:∀ (S:List (Str×Int)) (kvs:List (Key×D)) (x:Str),(valD (zfn kvs<|S.map kvS)<|.inr x).isSome=((valD kvs<|.inr x).isSome || decide (x∈S.map (·.1)))
 | [],kvs,x=>by simp[zfn]
 | p::S,kvs,x=>by
   have ih:=zgv S (putD kvs (.inr p.1)<|.int p.2) x;have e:zfn kvs ((p::S).map kvS)=zfn (putD kvs (.inr p.1)<|.int p.2) (S.map kvS):=rfl;rw[e,ih,zmr]
   by_cases h:x=p.1
   . subst h;simp
   . have h':¬ (.inr x:Key)=.inr p.1:=fun z=>h<|HQ z;rw[if_neg h'];have q:(x∈(p::S).map (·.1)) ↔ (x∈S.map (·.1)):=by rw[Ao,AI];exact⟨fun z=>z.resolve_left h,.inr⟩
     rw[decide_eq_decide.mpr q]
def zpF(S:List (Str×Int))(x:Str):(valD (stD S)<|.inr x).isSome=decide (x∈S.map (·.1)):=by have:=zgv S [] x;simpa[stD,valD] using this
def zrm(z:Str):Bool:=decide (z.cps.toList.length<=1)&&z.cps.toList.all (fun c=>decide (c∈FAC.cps.toList))
def zoP:D->Bool
 | .str z=>zrm z
 | _=>false
def zr8(ns:List Str)(z:Str):Bool:=decide (z="") || decide (z∈ns)
def zjs(ns:List Str):D->Bool
 | .str z=>zr8 ns z
 | _=>false
variable {z:Str}{st:Sto}
def zri(h:z.cps.toList.length<=1):inA (.str z) (.str FAC) st=some (.bl (z.cps.toList.all fun c=>decide (c∈FAC.cps.toList)),st):=by
 rcases hz:z.cps.toList with _ | ⟨c,r⟩
 . have e:z="":=by
     rw[zpE hz]
     decide +kernel
   rw[e,zoB,zoQ];rfl
 . have hr:r=[]:=by
     rw[hz] at h
     cases r with
     | nil=>rfl
     | cons a b=>simp at h
   subst hr;rw[zpE hz];have:=zmZ (c:=c) (z:=FAC) (st:=st);rw[this];simp
def eq_empty{z:Str}(ok:∀ c∈z.cps.toList,c < 128):eqD (.str z) (.str "") st=some (.bl (decide (z="")),st):=by
 unfold eqD;rw[zeO (n:=99) (zrF ok),zeO (n:=99) (by decide +kernel)];have:Bm (.str z) (.str ("":Str))=decide (z=""):=by rw[Bm];rfl
 simp only[Ac,Ag,this]
variable {S:List (Str×Int)}{k:Nat}
def in_dict{z:Str}(ok:∀ c∈z.cps.toList,c < 128)(hd:st[k]?=some (.dk<|stD S)):inA (.str z) (.ref k) st=some (.bl (decide (z∈S.map (·.1))),st):=by
 have a1:inD false (.str z) (.ref k) st=none:=by
   unfold inD;rw[zeO (n:=49) (zrF ok)];have:toP 50 st (.ref k)=none:=by rw[toP];simp[zbY,hd]
   rw[this];rfl
 have a2:inSD (.str z) (.ref k) st=none:=rfl;have a3:=zpF S z;unfold inA orG;rw[a1,zbA,a2,zbA];simp[dinD,look,hd,keyOf,a3]
section
variable {n m:Nat} {d:D}
def zrl(h:Fit n m st d)(hm:m<=5):zge [d] st=some (.bl (zoP d),st):=by
 have ei:=zlZ (U:=[some d]) (i:=0) h rfl;refine zbv ?_;unfold zit
 cases hs:issB d with
 | false =>
   rw[hs] at ei;have:zoP d=false:=by cases d <;> first | rfl | cases hs
   rw[this];exact zbX<|andL ei
 | true =>
   rw[hs] at ei
   cases h with
   | str z hl ok =>
     have el:=zrM (z:=z) (st:=st) (by omega);show mRet _ _ _=some (.rt (.bl<|zrm z),st);unfold zrm
     by_cases h1:z.cps.toList.length<=1
     . have ef:=zri (st:=st) h1;generalize z.cps.toList.all (fun c=>decide (c∈FAC.cps.toList))=B at *;rw[decide_eq_true h1,Bc];generalize z.cps.toList.length=k at *;have c1:(k:Int)<=1:=by omega
       refine zbX<|andR ei<|andR (s1:=st) (by show mBin leD _ _ [some (.str z)] st=_;simp[el,c1]) ?_;show mBin inA (mVar 0) (mCon<|.str FAC) [some (.str z)] st=_;simp only[zaM,zaP,zaS,B7,Ac,ef]
     . rw[decide_eq_false h1,Bq];generalize z.cps.toList.length=k at *;have c1:¬ (k:Int)<=1:=by omega
       exact zbX<|andR ei<|andL (by show mBin leD _ _ [some (.str z)] st=_;simp[el,c1])
   | _=>cases hs
def zpQ(h:Fit n m st d)(hd:st[k]?=some (.dk<|stD S)):zgd [d,.ref k] st=some (.bl (zjs (S.map (·.1)) d),st):=by
 have ei:=zlZ (U:=[some d,some (.ref k)]) (i:=0) h rfl;refine zbv ?_;unfold zis
 cases hs:issB d with
 | false =>
   rw[hs] at ei;have:zjs (S.map (·.1)) d=false:=by cases d <;> first | rfl | cases hs
   rw[this];exact zbX<|andL ei
 | true =>
   rw[hs] at ei
   cases h with
   | str z hl ok =>
     have e1:=eq_empty (st:=st) ok;have e2:=in_dict ok hd;show mRet _ _ _=some (.rt (.bl (zr8 (S.map (·.1)) z)),st);unfold zr8;refine zbX<|andR ei ?_;show mOrV _ _ [some (.str z),some (.ref k)] st=_
     by_cases hz:z=""
     . rw[decide_eq_true hz] at e1 ⊢;simp[zaU,e1]
     rw[decide_eq_false hz] at e1 ⊢;simp[zaU,e1,e2]
   | _=>cases hs
def kindB(ns:List Str):D->Bool
 | .tup [f,a,b,c,d]=>zoP f&&[a,b,c,d].all (zjs ns)
 | _=>false
def zm4(ns:List Str)(d:D):(∃ f a b c e,d=.tup [f,a,b,c,e])\/(tupB 5 d=false/\kindB ns d=false):=by
 cases d with
 | tup ds =>
   match ds with
   | [f,a,b,c,e]=>exact .inl ⟨f,a,b,c,e,rfl⟩
   | []=>exact .inr ⟨rfl,rfl⟩
   | [_]=>exact .inr ⟨rfl,rfl⟩
   | [_,_]=>exact .inr ⟨rfl,rfl⟩
   | [_,_,_]=>exact .inr ⟨rfl,rfl⟩
   | [_,_,_,_]=>exact .inr ⟨rfl,rfl⟩
   | a::b::c::e::f::g::r =>
     refine .inr ⟨?_,rfl⟩;show (((a::b::c::e::f::g::r).length:Int)==5)=false;apply beq_false_of_ne;simp only[AA];omega
 | _=>exact .inr ⟨rfl,rfl⟩
def zq8(h:Fit n m st d)(hm:m<=5)(hd:st[k]?=some (.dk<|stD S)):∃ st',zeL [d,.ref k] st=some (.bl (kindB (S.map (·.1)) d),st')/\Gr st st':=by
 have et:=zdZ (N:=5) h
 rcases zm4 (S.map (·.1)) d with ⟨f,a,b,c,e,rfl⟩ | ⟨h1,h2⟩
 . have ff:=h.at f (by simp);have ef:=zrl ff hm;have x0:ixA (.tup [f,a,b,c,e]) (.int 0) st=some (f,st):=zbs (by decide) rfl;have hw:mWA (mSlC (mVar 0) (zcL<|mCon<|.int 1) zcM) [some (.tup [f,a,b,c,e]),some (.ref k)] st=some (⟨[a,b,c,e],[]⟩,st):=rfl;obtain⟨s1,ea,g1⟩:=zdj (b:=zjs (S.map (·.1))) (fr:=[1]) (m:=zef) (U0:=[some (.ref k)]) hw (fun _ _=>rfl) rfl (by simp) (fun x hx s g=>by
     have es:=zpQ (S:=S) (k:=k) ((h.at x<|Ah _ hx).gr g) ((g.old _<|getElem?_lt hd).trans hd);refine⟨s,?_,Gr.refl s⟩;unfold zef;simp[es])
   have et':zbf [.tup [f,a,b,c,e],.int 5] st=some (.bl true,st):=et;show ∃ st',zeL [.tup [f,a,b,c,e],.ref k] st=some (.bl (zoP f&&[a,b,c,e].all (zjs (S.map (·.1)))),st')/\Gr st st';generalize D.tup [f,a,b,c,e]=P at *
   cases hf:zoP f with
   | false =>
     rw[hf] at ef;refine⟨st,zbv ?_,Gr.refl st⟩;unfold zeM;exact zbX<|andR (s1:=st) (by simp[et'])<|andL (s1:=st)<|by simp[x0,ef]
   | true =>
     rw[hf] at ef;refine⟨s1,zbv ?_,g1⟩;unfold zeM;rw[Bc];exact zbX<|andR (s1:=st) (by simp[et'])<|andR (s1:=st) (by simp[x0,ef]) ea
 rw[h1] at et;refine⟨st,zbv ?_,Gr.refl st⟩;rw[h2];unfold zeM;exact zbX<|andL<|by simp[et]
end
end L2.MP.T0
namespace L2.MP.T0
open PySem L2.MP L2.MP.Hn
open L2.MP.Hb (zfG ty_str ty_int)
open L2.MP.Hd (stD zgG kvS)
def nsOf:D->List Str
 | .tup ss=>namesOf ss
 | _=>[]
def zhw(ns:List Str):D->Bool
 | .tup ks=>!ks.isEmpty&&ks.all (kindB ns)
 | _=>false
def zey:D->Bool
 | .tup [e,s,k]=>whB 1 4 e&&(zeS s&&zhw (nsOf s) k)
 | _=>false
def zg9(d:D):(∃ e s k,d=.tup [e,s,k])\/(tupB 3 d=false/\zey d=false):=by
 cases d with
 | tup ds =>
   match ds with
   | [e,s,k]=>exact .inl ⟨e,s,k,rfl⟩
   | []=>exact .inr ⟨rfl,rfl⟩
   | [_]=>exact .inr ⟨rfl,rfl⟩
   | [_,_]=>exact .inr ⟨rfl,rfl⟩
   | a::b::c::e::r =>
     refine .inr ⟨?_,rfl⟩;show (((a::b::c::e::r).length:Int)==3)=false;apply beq_false_of_ne;simp only[AA];omega
 | _=>exact .inr ⟨rfl,rfl⟩
section
variable {n m:Nat} {st:Sto} {d:D}
def zoF(h:Fit n m st d)(hm:m<=5):∃ st',zc0 [d] st=some (.bl (zey d),st')/\Gr st st':=by
 have et:=zdZ (N:=3) h
 rcases zg9 d with ⟨e,s,k,rfl⟩ | ⟨h1,h2⟩
 . have fe:=h.at e (by simp);have fs:=h.at s (by simp);have fk:=h.at k (by simp);have x0:∀ t:Sto,ixA (.tup [e,s,k]) (.int 0) t=some (e,t):=fun t=>zbs (by decide) rfl;have x1:∀ t:Sto,ixA (.tup [e,s,k]) (.int 1) t=some (s,t):=fun t=>zbs (by decide) rfl;have x2:∀ t:Sto,ixA (.tup [e,s,k]) (.int 2) t=some (k,t):=fun t=>zbs (by decide) rfl;have et':zbf [.tup [e,s,k],.int 3] st=some (.bl true,st):=et;have ew:=zdd (lo:=1) (hi:=4) fe;obtain⟨s1,es,g1⟩:=zk9 fs hm;show ∃ st',zc0 [.tup [e,s,k]] st=some (.bl (whB 1 4 e&&(zeS s&&zhw (nsOf s) k)),st')/\Gr st st';generalize D.tup [e,s,k]=P at *;have t0:zcN (mTst<|zal zbf<|zab (mVar 0)<|zab (mCon<|.int 3) mNil) [some P,none,none] st=some (false,st):=notB (b:=true) (by simp[et'])
   cases hw:whB 1 4 e with
   | false =>
     rw[hw] at ew;refine⟨st,zbv ?_,Gr.refl st⟩;unfold zce;exact zbe<|ifT (orR t0<|orL<|notB (b:=false)<|by simp[x0,ew]) rfl
   | true =>
     rw[hw] at ew;have t1:zcN (mTst<|zal zbC<|zab (mBin ixA (mVar 0)<|mCon<|.int 0)<|zab (mCon<|.int 1)<|zab (mCon<|.int 4) mNil) [some P,none,none] st=some (false,st):=notB (b:=true) (by simp[x0,ew]);rw[Bc]
     cases hs:zeS s with
     | false =>
       rw[hs] at es;refine⟨s1,zbv ?_,g1⟩;unfold zce;exact zbe<|ifT (orR t0<|orR t1<|notB (b:=false)<|by simp[x1,es]) rfl
     | true =>
       rw[hs] at es;rw[Bc];have t2:zcN (mTst<|zal zb2<|zab (mBin ixA (mVar 0)<|mCon<|.int 1) mNil) [some P,none,none] st=some (false,s1):=notB (b:=true) (by simp[x1,es]);have head:∀ rest:MS,∀ r,rest [some P,none,none] s1=r->mSeq (mIf (mOrT (zcN<|mTst<|zal zbf<|zab (mVar 0)<|zab (mCon<|.int 3)<|mNil)<|mOrT (zcN<|mTst<|zal zbC<|zab (mBin ixA (mVar 0)<|mCon<|.int 0)<|zab (mCon<|.int 1)<|zab (mCon<|.int 4)<|mNil)<|zcN<|mTst<|zal zb2<|zab (mBin ixA (mVar 0)<|mCon<|.int 1)<|mNil) (mRet<|mCon<|.bl false)<|zcf) rest [some P,none,none] st=r:=fun rest r hr=>zan (ifF<|orR t0<|orR t1 t2) hr;have a1:mAsg (mBin ixA (mVar 0)<|mCon<|.int 2) (gNm 1) [some P,none,none] s1=some (.nx [some P,some k,none],s1):=by simp[x2]
       have fk1:=fk.gr g1;have ik:=zfq (U:=[some P,some k,none]) (i:=1) fk1 rfl
       cases hk:istB k with
       | false =>
         rw[hk] at ik;have:zhw (nsOf s) k=false:=by cases k <;> first | rfl | cases hk
         rw[this];refine⟨s1,zbv ?_,g1⟩;unfold zce;exact head _ _<|zan a1<|zbe<|ifT (orL<|notB ik) rfl
       | true =>
         rw[hk] at ik
         cases fk1 with
         | tup ks hkl fks =>
           have el:lenD [.tup ks] s1=some (.int ks.length,s1):=zcO;show ∃ st',zc0 [P] st=some (.bl (!ks.isEmpty&&ks.all (kindB<|nsOf s)),st')/\Gr st st'
           cases hke:ks.isEmpty with
           | true =>
             have k0:ks=[]:=List.isEmpty_iff.mp hke;subst k0;refine⟨s1,zbv ?_,g1⟩;unfold zce;exact head _ _<|zan a1<|zbe<|ifT (orR (notB ik)<|tstB (b:=true)<|by simp[el,eq_int]) rfl
           | false =>
             have hl0:ks.length≠0:=fun z=>by have:ks=[]:=List.length_eq_zero_iff.mp z;subst this;cases hke
             have e0:((ks.length:Int)==0)=false:=by apply beq_false_of_ne;omega
             have i1:mIf (mOrT (zcN<|mTst<|mIsi "tuple"<|mVar 1)<|mTst<|mBin eqD (zal lenD<|zab (mVar 1)<|mNil)<|mCon<|.int 0) (mRet<|mCon<|.bl false) zcf [some P,some (.tup ks),none] s1=some (.nx [some P,some (.tup ks),none],s1):=ifF (orR (notB ik) (tstB (b:=false) (by
               have:=eq_int (ks.length:Int) 0 s1;rw[e0] at this;simp[el,this])))
             cases s with
             | tup ss =>
               have hss:ss.all zdt=true:=by have:(ss.all zdt&&zg3 (namesOf ss))=true:=hs;rw[An] at this;exact this.1
               obtain⟨S,rfl,hS⟩:=zdn hss;have hsl:=fs.ln;rw[Ai] at hsl;have ed:=zgG (stk:=S) (st:=s1) (by omega);have bd:=zbg s1<|.dk<|stD S;have gd:=Gr.app s1 [.dk (stD S)];generalize s1++[O.dk (stD S)]=s2 at ed bd gd;have a2:mAsg (zal zrp<|zab (mBin ixA (mVar 0)<|mCon<|.int 1) mNil) (gNm 2) [some P,some (.tup ks),none] s1=some (.nx [some P,some (.tup ks),some (.ref s1.length)],s2):=by simp[x1,ed]
               obtain⟨s3,ea,g3⟩:=zdj (mi:=mWA (mVar 1)) (b:=kindB (S.map (·.1))) (as:=ks) (fr:=[2]) (m:=zdK) (U0:=[some (.ref s1.length)]) (U:=[some P,some (.tup ks),some (.ref s1.length)]) (st:=s2) (gd:=[]) rfl (fun _ _=>rfl) rfl (by omega) (fun x hx t g=>by obtain⟨s4,e4,g4⟩:=zq8 (S:=S) (k:=s1.length) ((fks x hx).gr<|gd.trans g) hm ((g.old _<|getElem?_lt bd).trans bd);refine⟨s4,?_,g4⟩;unfold zdK;simp[e4])
               refine⟨s3,zbv ?_,g1.trans<|gd.trans g3⟩;show zce [some P,none,none] st=_;rw[show nsOf (.tup<|S.map zbK)=S.map (·.1) from ze4 S];unfold zce;exact head _ _<|zan a1<|zan i1<|zan a2<|zbX ea
             | _=>cases hs
         | _=>cases hk
 rw[h1] at et;refine⟨st,zbv ?_,Gr.refl st⟩;rw[h2];unfold zce;exact zbe<|ifT (orL<|notB (b:=false)<|by simp[et]) rfl
end
end L2.MP.T0
namespace L2.MP.T0
open PySem L2.MP L2.MP.Hn
variable {z:Str}
def ztr{k:Nat}(h:k < z.cps.toList.length):z.cps.getD k 0∈z.cps.toList:=by rw[<-FN,Ar,Ak h];exact BK h
def zgi(z:Str):∃ lo hi,lo<=hi/\hi<=z.cps.toList.length/\(BP z LET).cps=z.cps.extract lo hi/\(lo=hi ↔ ∀ c∈z.cps.toList,c∈LET.cps.toList):=by
 have hc:∀ c,LET.cps.contains c=decide (c∈LET.cps.toList):=fun c=>by rw[Array.contains_eq_mem];exact decide_eq_decide.mpr Array.mem_toList_iff.symm
 obtain⟨l1,l2,l3⟩:=PyProof.Rows.lo_facts LET.cps.contains z;obtain⟨h1,h2,h3,h4⟩:=PyProof.Rows.hi_facts LET.cps.contains z _ l1;generalize hlo:stripLo LET.cps.contains true z=lo at *;generalize hhi:stripHi LET.cps.contains true z lo=hi at *;have hn:z.length=z.cps.toList.length:=rfl;refine⟨lo,hi,h1,by omega,?_,fun e c hm=>?_,fun h=>?_⟩
 . unfold BP;rw[PyProof.Rows.stripBy_eq,hlo,hhi];rfl
 . obtain⟨k,hk,rfl⟩:=List.mem_iff_getElem.mp hm;have e1:z.cps.getD k 0=z.cps.toList[k]:=by rw[<-FN,Ar,Ak hk];rfl
   rw[<-e1];have:LET.cps.contains (z.cps.getD k 0)=true:=by
     rcases Nat.lt_or_ge k lo with q | q
     . exact l2 k q
     exact h3 k (by omega)<|by omega
   rw[hc] at this;exact of_decide_eq_true this
 . rcases l3 with q | q
   . omega
   . rcases Nat.lt_or_ge lo z.cps.toList.length with r | r
     . have:=h _<|ztr r;rw[hc,decide_eq_true this] at q;cases q
     omega
def ziu(z:Str):decide (BP z LET="")=z.cps.toList.all (fun c=>decide (c∈LET.cps.toList)):=by
 obtain⟨lo,hi,h1,h2,e,q⟩:=zgi z;rw[BR,decide_eq_true_iff,BD];have q':lo=hi ↔ ∀ c∈z.cps.toList,decide (c∈LET.cps.toList)=true:=q.trans ⟨fun h c hc=>decide_eq_true (h c hc),fun h c hc=>of_decide_eq_true (h c hc)⟩;rw[<-q'];have hs:(BP z LET).cps.size=hi - lo:=by rw[e,Array.size_extract];rw[Au] at h2;omega
 constructor
 . intro he;rw[he] at hs;have:("":Str).cps.size=0:=by decide +kernel
   omega
 . intro he;refine zjf ?_;have:(BP z LET).cps.toList.length=0:=by rw[Au];omega
   rw[List.length_eq_zero_iff.mp this]
   decide +kernel
variable {c:Nat}
def zk7(h:c∈(BP z LET).cps.toList):c∈z.cps.toList:=by obtain⟨lo,hi,h1,h2,e,q⟩:=zgi z;rw[e,Array.toList_extract] at h;exact C9<|C7 h
variable {a b:Str}
def zuo{c:Str}(h1:ltS a b=true)(h2:ltS b c=true):ltS a c=true:=decide_eq_true<|List.lt_trans (of_decide_eq_true h1)<|of_decide_eq_true h2
def zs1(h:ltS a b=true):sle a b=true:=by unfold sle;rw[decide_eq_false (fun z=>HA (of_decide_eq_true h) z)];rfl
def zup(h:ltS a b=true):a≠b:=fun e=>by subst e;exact List.lt_irrefl _<|of_decide_eq_true h
def zr3(h:sle a b=true)(hn:a≠b):ltS a b=true:=by
 cases hc:ltS a b with
 | true=>rfl
 | false =>
   refine absurd (zhe h ?_) hn;unfold sle;have:decide (a.cps.toList < b.cps.toList)=false:=hc;rw[this];rfl
def zly(a b:Str)(r:List Str):zg3 (a::b::r)=(ltS a b&&zg3 (b::r)):=by unfold zg3;simp
def zmG:∀ {as:List Str},zg3 as=true ↔ as.Pairwise fun a b=>ltS a b=true
 | []=>by simp[zg3]
 | [a]=>by simp[zg3]
 | a::b::r=>by
   rw[zly,An,zmG (as:=b::r)]
   constructor
   . rintro ⟨h1,h2⟩;refine List.pairwise_cons.mpr ⟨fun x hx=>?_,h2⟩
     rcases List.mem_cons.mp hx with rfl | hx
     . exact h1
     exact zuo h1<|(List.pairwise_cons.mp h2).1 x hx
   intro h;have h:=List.pairwise_cons.mp h;exact⟨h.1 b Aj,h.2⟩
def take_one{α:Type}{l:List α}{j:Nat}{x:α}(h:l[j]?=some x):l.take (j+1)=l.take j++[x]:=by rw[EF,h];rfl
variable {ss:List Str}
def zj2{ss:List Str}(nd:ss.Nodup):∀ i,i<=ss.length->met (fun i=>ss.getD i DW) i=ss.take i
 | 0,_=>rfl
 | i+1,h=>by
   have hi:i < ss.length:=h;have e:ss.getD i DW=ss[i]:=by rw[Ar,Ak hi];rfl
   have hn:ss[i] ∉ ss.take i:=fun hm=>by obtain⟨j,hj,e⟩:=List.mem_iff_getElem.mp hm;rw[A1] at hj;rw[EI] at e;have:=(ER nd).mp e;omega
   rw[met,zj2 nd i (by omega)];rw[e,if_neg hn,take_one (Ak hi)]
def zqQ(nd:ss.Nodup):once ss=ss:=by unfold once;rw[zj2 nd _ (Af _),Cc]
def zpM(h:ss.Pairwise fun a b=>sle a b=true):zbz ss=ss:=zdf (le:=fun a b=>sle a b=true) (Bg ss sle) (Bd zdP zeD ss) h fun _ _ _ _=>zhe
def zeX(ss:List Str):(ss=zbz (once ss)) ↔ zg3 ss=true:=by
 rw[zmG]
 constructor
 . intro e;have p:ss.Perm (once ss):=by
     conv=>lhs;rw[e]
     exact Bg _ _
   have nd:ss.Nodup:=(Gm p).mpr<|zdo _ _;have sr:ss.Pairwise fun a b=>sle a b=true:=by rw[e];exact Bd zdP zeD _
   exact (GS sr nd).imp fun h=>zr3 h.1 h.2
 intro h;rw[zqQ (DF zup h),zpM (DF zs1 h)]
def zoa(ss:List Str):(once ss).length<=ss.length:=zgu _ _
variable {k:Option D}{l n m:Nat}{st:Sto}{d P:D}{U:Rho}{me:ME}{ns:List Str}
def zrb(h:Fit n m st d)(hr:me U st=some (d,st)):mIsi "tuple" me U st=some (.bl (istB d),st):=by obtain⟨ty,e,e1,_⟩:=zpg h;simp[hr,e,e1]
def zoo(h:Fit n m st d)(hm:m<=5):zb9 [d] st=some (.bl (zj0 d),st):=by
 have ei:=zlZ (U:=[some d]) (i:=0) h rfl;refine zbv ?_;unfold zdz
 cases hs:issB d with
 | false =>
   rw[hs] at ei;rw[zmO hs];exact zbX<|andL ei
 | true =>
   rw[hs] at ei
   cases h with
   | str z hl ok =>
     have el:=zrM (z:=z) (st:=st) (by omega);have hf:fits z.length=true:=zaH (by rw[len_list];omega);have es:ziv (.str z) [.str LET] st=some (.str (BP z LET),st):=by show (if fits z.length=true then _ else _)=_;rw[if_pos hf]
     have ee:=eq_empty (z:=BP z LET) (st:=st) fun c hc=>ok c<|zk7 hc;rw[ziu] at ee;show mRet _ _ _=some (.rt (.bl<|zmQ z),st);unfold zmQ;generalize z.cps.toList.all (fun c=>decide (c∈LET.cps.toList))=B at *;generalize z.cps.toList.length=k at *
     by_cases h1:1<=k
     . by_cases h2:k<=8
       . have c1:(0:Int) < (k:Int):=by omega
         have c2:(k:Int) < 9:=by omega
         rw[decide_eq_true h1,decide_eq_true h2,Bc,Bc];refine zbX<|andR ei<|andR (s1:=st) (by show zdb _ _ _ _ _ [some (.str z)] st=_;simp[zdb,el,c1,c2];omega) ?_;show mBin eqD (zpl ziv (mVar 0)<|zab (mCon<|.str LET) mNil) (mCon<|.str "") [some (.str z)] st=_;have em:zpl ziv (mVar 0) (zab (mCon<|.str LET) mNil) [some (.str z)] st=some (.str (BP z LET),st):=by rw[zrE];simp only[zaP,B7,Ac,zat,zaS,zaK];exact es
         simp only[zaM,em,zaS,Ac,ee]
       . have c1:(0:Int) < (k:Int):=by omega
         have c2:¬ (k:Int) < 9:=by omega
         rw[decide_eq_false h2,Cd,Bq];exact zbX<|andR ei<|andL (by show zdb _ _ _ _ _ [some (.str z)] st=_;simp[zdb,el,c1,c2])
     . have c1:¬ (0:Int) < (k:Int):=by omega
       rw[decide_eq_false h1,Bq,Bq];exact zbX<|andR ei<|andL (by show zdb _ _ _ _ _ [some (.str z)] st=_;simp[zdb,el,c1];omega)
   | _=>cases hs
def ne_int(a b:Int)(st:Sto):neD (.int a) (.int b) st=some (.bl (!(a==b)),st):=by unfold neD;rw[toP,toP];simp[Bm]
def ziN(h:Fit n m st d)(hm:m<=5)(hl:st[l]?=some (.lst<|ns.map D.str))(hn:ns.length<=1000) :
   (zdt d=true/\zaG [some P,some (.ref l),some d,k] st=some (.nx [some P,some (.ref l),some d,k],st.set l (.lst<|(ns++[nmOf d]).map D.str)))\/(zdt d=false/\zaG [some P,some (.ref l),some d,k] st=some (.rt (.bl false),st)):=by
 have it:=zfq (U:=[some P,some (.ref l),some d,k]) (i:=2) h rfl;unfold zaG
 cases hs:istB d with
 | false =>
   rw[hs] at it;have:zdt d=false:=by cases d <;> first | rfl | cases hs
   exact .inr ⟨this,zbe<|ifT (orL<|notB it) rfl⟩
 | true =>
   rw[hs] at it
   rcases znl d with ⟨x,y,rfl⟩ | ⟨h1,h2⟩
   . have fx:=h.at x (by simp);have fy:=h.at y (by simp);have x0:ixA (.tup [x,y]) (.int 0) st=some (x,st):=zbs (by decide) rfl;have x1:ixA (.tup [x,y]) (.int 1) st=some (y,st):=zbs (by decide) rfl;have en:=zoo fx hm;have ew:=zdp (lo:=1) (hi:=4) fy;have ne2:=ne_int 2 2 st;have el:lenD [.tup [x,y]] st=some (.int 2,st):=rfl;have tl:mTst (mBin neD (zal lenD<|zab (mVar 2) mNil)<|mCon<|.int 2) [some P,some (.ref l),some (.tup [x,y]),k] st=some (false,st):=tstB (b:=false) (by simp[el,ne2]);show ((zj0 x&&whB 1 4 y)=true/\_)\/((zj0 x&&whB 1 4 y)=false/\_)
     cases hn1:zj0 x with
     | false =>
       rw[hn1] at en;refine .inr ⟨rfl,zbe<|ifT (orR (notB it)<|orR tl<|notB (b:=false)<|by simp[x0,en]) rfl⟩
     | true =>
       rw[hn1] at en;have i1:=ifF (a:=mRet (mCon<|.bl false)) (orR (notB it)<|orR tl<|notB (m:=zal zb9 (zab (mBin ixA (mVar 2)<|mCon<|.int 0) mNil)) (s1:=st) (b:=true)<|by simp[x0,en]);rw[Bc]
       cases hw:whB 1 4 y with
       | false =>
         rw[hw] at ew;exact .inr ⟨rfl,zan i1<|zbe<|ifT (notB (b:=false)<|by simp[x1,ew]) rfl⟩
       | true =>
         rw[hw] at ew;refine .inl ⟨rfl,zan i1<|zan (ifF<|notB (s1:=st) (b:=true)<|by simp[x1,ew]) ?_⟩
         cases x with
         | str z =>
           have ap:=append_at (x:=.str z) hl (by rw[Ai];omega);have ee:(ns++[nmOf (.tup [.str z,y])]).map D.str=ns.map D.str++[.str z]:=by simp[nmOf]
           rw[ee];simp[zbY,hl,x0,ap]
         | _=>cases hn1
   . have:istB d=true:=hs
     cases d with
     | tup ds =>
       have hne:((ds.length:Int)==2)=false:=h1;have ne2:=ne_int (ds.length:Int) 2 st;rw[hne] at ne2;have el:lenD [.tup ds] st=some (.int ds.length,st):=zcO;exact .inr ⟨h2,zbe<|ifT (orR (notB it)<|orL<|tstB (b:=true)<|by simp[el,ne2]) rfl⟩
     | _=>cases this
variable {st0:Sto}{W:List D}
def zth{o:O}(g:Gr st0 st)(h:st0.length<=l):Gr st0 (st.set l o):=⟨by rw[DZ];exact g.len,fun k hk=>by rw[AH (by omega)];exact g.old k hk⟩
def ze6{W:List D}{P:D}{l:Nat}{k:Option D}{st0:Sto}(hm:m<=5)(hl0:st0.length<=l):∀ (ds:List D) (ns:List Str) (x:Option D) (s:Sto),(∀ d∈ds,Fit n m st0 d)->ns.length+ds.length<=1000->s[l]?=some (.lst<|ns.map D.str)->Gr st0 s ->
   (ds.all zdt=true/\∃ x' s',zel ⟨W,[]⟩ (gNm 2) zaG ds [some P,some (.ref l),x,k] s=some (.nx [some P,some (.ref l),x',k],s')/\s'[l]?=some (.lst<|(ns++namesOf ds).map D.str)/\Gr st0 s') \/
   (ds.all zdt=false/\∃ s',zel ⟨W,[]⟩ (gNm 2) zaG ds [some P,some (.ref l),x,k] s=some (.rt (.bl false),s')/\Gr st0 s')
 | [],ns,x,s,_,_,hl,g=>.inl ⟨rfl,x,s,by unfold zel;rfl,by simpa[namesOf] using hl,g⟩
 | d::ds,ns,x,s,hf,hn,hl,g=>by
   have hn':ns.length+ds.length+1<=1000:=by simpa[Nat.add_assoc] using hn
   rcases ziN (P:=P) (k:=k) ((hf d Aj).gr g) hm hl (by omega) with ⟨h1,e1⟩ | ⟨h1,e1⟩
   . have hl':(s.set l<|.lst<|(ns++[nmOf d]).map D.str)[l]?=some (.lst<|(ns++[nmOf d]).map D.str):=Cf<|getElem?_lt hl;have e2:zel ⟨W,[]⟩ (gNm 2) zaG (d::ds) [some P,some (.ref l),x,k] s=zel ⟨W,[]⟩ (gNm 2) zaG ds [some P,some (.ref l),some d,k] (s.set l<|.lst<|(ns++[nmOf d]).map D.str):=zka rfl rfl e1
     rcases ze6 (W:=W) (P:=P) (k:=k) hm hl0 ds (ns++[nmOf d]) (some d) _ (fun y hy=>hf y (Ah _ hy)) (by rw[AE,Cm];omega) hl' (zth g hl0) with ⟨h2,x',s',e3,b3,g3⟩ | ⟨h2,s',e3,g3⟩
     . refine .inl ⟨by rw[Bz,h1,h2];rfl,x',s',e2.trans e3,?_,g3⟩;rw[b3];simp[namesOf]
     exact .inr ⟨by rw[Bz,h1,h2];rfl,s',e2.trans e3,g3⟩
   exact .inr ⟨by rw[Bz,h1];rfl,s,zj9 rfl rfl e1,g⟩
def zkT{ns:List Str}:∀ {ds:List D},ds.all issB=false->ds.all (zjs ns)=false
 | [],h=>by cases h
 | d::ds,h=>by
   rw[Bz] at h ⊢
   cases d with
   | str z =>
     have h':ds.all issB=false:=by simpa[issB] using h
     rw[zkT h',Cd]
   | _=>rfl
def zrh{ss:List Str}(hl:st[l]?=some (.lst<|ss.map D.str))(h:∀ x∈ss,AK x=true)(hz:AK z=true):inA (.str z) (.ref l) st=some (.bl (decide (z∈ss)),st):=by unfold inA orG inD;rw[zdA (n:=48) hl h,zeO (n:=49) hz];simp only[Ac,memP,Ag,zkU,zbo];rfl
def zlM(h:z.cps.toList.length<=1):zjV (.str z) (.str FAC) st=some (.bl (!z.cps.toList.all (fun c=>decide (c∈FAC.cps.toList))),st):=by
 have hin:=zri (st:=st) h;rw[zoB] at hin;have hb:(!(BC FAC z 0 FAC.length 1).isEmpty)=z.cps.toList.all (fun c=>decide (c∈FAC.cps.toList)):=by
   injection hin with e
   injection e with e _
   injection e
 unfold zjV orG zhp orG dinD zjU;rw[L2.MP.Hb.zrj];simp only[zbA];rw[<-hb]
def zkd{ns:List Str}(h:Fit n m st d)(hm:m<=5)(hl:st[l]?=some (.lst<|ns.map D.str))(ok:∀ x∈ns,AK x=true) :
   ∃ st',Gr st st'/\zbH [some P,some (.ref l),k,some d] st=if kindB ns d=true then some (.nx [some P,some (.ref l),k,some d],st') else some (.rt (.bl false),st'):=by
 have it:=zfq (U:=[some P,some (.ref l),k,some d]) (i:=3) h rfl;unfold zbH
 cases hs:istB d with
 | false =>
   rw[hs] at it;have:kindB ns d=false:=by cases d <;> first | rfl | cases hs
   exact⟨st,Gr.refl st,by rw[this];exact zbe (ifT (orL<|notB it) rfl)⟩
 | true =>
   rw[hs] at it
   rcases zm4 ns d with ⟨f,a,b,c,e,rfl⟩ | ⟨h1,h2⟩
   . have x0:∀ t:Sto,ixA (.tup [f,a,b,c,e]) (.int 0) t=some (f,t):=fun t=>zbs (by decide) rfl;have el:lenD [.tup [f,a,b,c,e]] st=some (.int 5,st):=rfl;have ne5:=ne_int 5 5 st;have tl:mTst (mBin neD (zal lenD<|zab (mVar 3) mNil)<|mCon<|.int 5) [some P,some (.ref l),k,some (.tup [f,a,b,c,e])] st=some (false,st):=tstB (b:=false) (by simp[el,ne5]);obtain⟨s1,e1,g1⟩:=zdj (mi:=mWA (mVar 3)) (b:=issB) (as:=[f,a,b,c,e]) (fr:=[]) (m:=zc1) (U0:=[]) (U:=[some P,some (.ref l),k,some (.tup [f,a,b,c,e])]) (st:=st) (gd:=[]) rfl (fun _ _=>rfl) rfl (by simp) fun x hx s g=>⟨s,zlZ (U:=[some x]) (i:=0) ((h.at x hx).gr g) rfl,Gr.refl s⟩;show ∃ st',Gr st st'/\_=if (zoP f&&[a,b,c,e].all (zjs ns))=true then _ else _
     cases hall:[f,a,b,c,e].all issB with
     | false =>
       rw[hall] at e1;refine⟨s1,g1,?_⟩;have:(zoP f&&[a,b,c,e].all (zjs ns))=false:=by
         cases f with
         | str z =>
           have:[a,b,c,e].all issB=false:=by simpa[issB] using hall
           rw[zkT this,Cd]
         | _=>rfl
       rw[this];exact zbe<|ifT (orR (notB it)<|orR tl<|notB e1) rfl
     | true =>
       rw[hall] at e1;have i1:=ifF (a:=mRet (mCon<|.bl false))<|orR (notB it)<|orR tl<|notB e1
       cases f with
       | str z =>
         obtain⟨hzl,hzo⟩:=(h.at (.str z)<|by simp).tx;have elz:=zrM (z:=z) (st:=s1) (by omega);show ∃ st',Gr st st'/\_=if (zrm z&&[a,b,c,e].all (zjs ns))=true then _ else _;unfold zrm
         by_cases hz1:z.cps.toList.length<=1
         . have en:=zlM (st:=s1) hz1;have gl:mTst (mBin gtD (zal lenD<|zab (mBin ixA (mVar 3)<|mCon<|.int 0) mNil)<|mCon<|.int 1) [some P,some (.ref l),k,some (.tup [.str z,a,b,c,e])] s1=some (false,s1):=by
             refine tstB (b:=false) ?_;generalize z.cps.toList.length=kk at *;have c1:¬ (1:Int) < (kk:Int):=by omega
             simp[x0,elz,c1]
           rw[decide_eq_true hz1,Bc];generalize hF:z.cps.toList.all (fun c=>decide (c∈FAC.cps.toList))=F at *;have en':mTst (mBin zjV (mBin ixA (mVar 3)<|mCon<|.int 0)<|mCon<|.str FAC) [some P,some (.ref l),k,some (.tup [.str z,a,b,c,e])] s1=some (!F,s1):=tstB<|by simp only[zaM,zaP,zaS,B7,CI,Ac,x0,en]
           cases F with
           | false=>exact⟨s1,g1,zan i1<|zbe<|ifT (orR gl en') rfl⟩
           | true =>
             rw[Bc];have i2:=ifF (a:=mRet (mCon<|.bl false))<|orR gl en';have hw:mWA (mSlC (mVar 3) (zcL<|mCon<|.int 1) zcM) [some P,some (.ref l),k,some (.tup [.str z,a,b,c,e])] s1=some (⟨[a,b,c,e],[]⟩,s1):=rfl;have hl1:=(g1.old _<|getElem?_lt hl).trans hl;have hall4:[a,b,c,e].all issB=true:=by simpa[issB] using hall
             obtain⟨s2,e2,g2⟩:=zdj (b:=zjs ns) (fr:=[1]) (m:=zb4) (U0:=[some (.ref l)]) hw (fun _ _=>rfl) rfl (by simp) (fun x hx s g=>by
               have hxs:issB x=true:=List.all_eq_true.mp hall4 x hx
               cases x with
               | str y =>
                 obtain⟨_,hy⟩:=(h.at (.str y)<|Ah _ hx).tx;have q1:=eq_empty (st:=s) hy;have q2:=zrh (z:=y) ((g.old _<|getElem?_lt hl1).trans hl1) ok<|zrF hy;refine⟨s,?_,Gr.refl s⟩;unfold zb4;show mOrV _ _ [some (.str y),some (.ref l)] s=some (.bl (decide (y="") || decide (y∈ns)),s)
                 by_cases hz:y=""
                 . rw[decide_eq_true hz] at q1 ⊢;simp[zaU,q1]
                 rw[decide_eq_false hz] at q1 ⊢;simp[zaU,q1,q2]
               | _=>cases hxs)
             refine⟨s2,g1.trans g2,zan i1<|zan i2 ?_⟩
             cases hb:[a,b,c,e].all (zjs ns) with
             | true=>rw[hb] at e2;exact ifF<|notB e2
             | false=>rw[hb] at e2;exact ifT (notB e2) rfl
         . rw[decide_eq_false hz1,Bq,Bq];refine⟨s1,g1,zan i1<|zbe<|ifT (orL<|tstB (b:=true) ?_) rfl⟩;generalize z.cps.toList.length=kk at *;have c1:(1:Int) < (kk:Int):=by omega
           show mBin gtD _ _ [some P,some (.ref l),k,some (.tup [.str z,a,b,c,e])] s1=_;simp[x0,elz,c1]
       | _ =>
         have:false=true:=by simpa[issB] using hall
         cases this
   . cases d with
     | tup ds =>
       have hne:((ds.length:Int)==5)=false:=h1;have ne5:=ne_int (ds.length:Int) 5 st;rw[hne] at ne5;have el:lenD [.tup ds] st=some (.int ds.length,st):=zcO;exact⟨st,Gr.refl st,by rw[h2];exact zbe (ifT (orR (notB it)<|orL<|tstB (b:=true)<|by simp[el,ne5]) rfl)⟩
     | _=>cases hs
def zfz{W:List D}{P:D}{l:Nat}{ns:List Str}{k:Option D}(hm:m<=5)(ok:∀ x∈ns,AK x=true):∀ (ds:List D) (x:Option D) (s:Sto),(∀ d∈ds,Fit n m s d)->s[l]?=some (.lst<|ns.map D.str) ->
   ∃ x' s',Gr s s'/\zel ⟨W,[]⟩ (gNm 3) zbH ds [some P,some (.ref l),k,x] s=if ds.all (kindB ns)=true then some (.nx [some P,some (.ref l),k,x'],s') else some (.rt (.bl false),s')
 | [],x,s,_,_=>⟨x,s,Gr.refl s,by unfold zel;rfl⟩
 | d::ds,x,s,hf,hl=>by
   obtain⟨s1,g1,e1⟩:=zkd (P:=P) (k:=k) (hf d Aj) hm hl ok
   cases hb:kindB ns d with
   | false =>
     rw[hb] at e1;refine⟨x,s1,g1,?_⟩;rw[Bz,hb];exact zj9 rfl rfl e1
   | true =>
     rw[hb] at e1;obtain⟨x',s2,g2,e2⟩:=zfz (W:=W) (P:=P) (k:=k) hm ok ds (some d) s1 (fun y hy=>(hf y<|Ah _ hy).gr g1)<|(g1.old _<|getElem?_lt hl).trans hl;refine⟨x',s2,g1.trans g2,?_⟩;rw[Bz,hb,Bc,<-e2];exact zka rfl rfl e1
def zkE:∀ (ss tt:List Str),CL (ss.map Ct) (tt.map Ct)=decide (ss=tt)
 | [],[]=>rfl
 | [],b::tt=>rfl
 | a::ss,[]=>rfl
 | a::ss,b::tt=>by
   rw[Ao,Ao,CL,zkE ss tt];have e:Bm (.str a) (.str b)=decide (a=b):=by rw[Bm];rfl
   rw[e,BR];simp
def zqZ{k:Nat}{ss tt:List Str}(hl:st[l]?=some (.lst<|ss.map D.str))(hk:st[k]?=some (.lst<|tt.map D.str))(h:∀ x∈ss,AK x=true)(h':∀ x∈tt,AK x=true):neD (.ref l) (.ref k) st=some (.bl (!decide (ss=tt)),st):=by
 unfold neD;rw[zdA (n:=98) hl h,zdA (n:=98) hk h'];have:Bm (.list<|ss.map Ct) (.list<|tt.map Ct)=decide (ss=tt):=by rw[Bm];exact zkE ss tt
 simp only[Ac,Ag,this]
def zpL(em:me U st=some (.ref l,st))(hl:st[l]?=some (.lst<|ss.map D.str))(h1:ss.length<=60):zlO me U st=some (.ref st.length,st++[.lst ((zbz<|once ss).map D.str)]):=by
 have h2:=zoa ss;have a1:ss.length<=4000:=by omega
 have a2:(once ss).length < 64:=by omega
 unfold zlO zok;simp only[em,Ac,zbY,hl,zeR,decide_eq_true a1,decide_eq_true a2,HD,if_true,zbo]
def zq0(h:zmQ z=true):AK z=true:=by unfold zmQ at h;rw[An,BD] at h;refine zrF fun c hc=>?_;have hm:=of_decide_eq_true<|h.2 c hc;exact (by decide +kernel:∀ c∈LET.cps.toList,c < 128) c hm
def zlQ(h:Fit n m st d)(hm:m<=5):∃ st',zbr [d] st=some (.bl (zey d),st')/\Gr st st':=by
 have it:=zfq (U:=[some d,none,none,none]) (i:=0) h rfl
 cases hs:istB d with
 | false =>
   rw[hs] at it;have:zey d=false:=by cases d <;> first | rfl | cases hs
   rw[this];refine⟨st,zbv ?_,Gr.refl st⟩;unfold zaI;exact zbe<|ifT (orL<|notB it) rfl
 | true =>
   rw[hs] at it
   rcases zg9 d with ⟨e,s,k,rfl⟩ | ⟨h1,h2⟩
   . have fe:=h.at e (by simp);have fs:=h.at s (by simp);have fk:=h.at k (by simp);have x0:∀ t:Sto,ixA (.tup [e,s,k]) (.int 0) t=some (e,t):=fun t=>zbs (by decide) rfl;have x1:∀ t:Sto,ixA (.tup [e,s,k]) (.int 1) t=some (s,t):=fun t=>zbs (by decide) rfl;have x2:∀ t:Sto,ixA (.tup [e,s,k]) (.int 2) t=some (k,t):=fun t=>zbs (by decide) rfl;have el:lenD [.tup [e,s,k]] st=some (.int 3,st):=rfl;have ne3:=ne_int 3 3 st;have ew:=zdp (lo:=1) (hi:=4) fe;show ∃ st',zbr [.tup [e,s,k]] st=some (.bl (whB 1 4 e&&(zeS s&&zhw (nsOf s) k)),st')/\Gr st st';generalize D.tup [e,s,k]=P at *;have tl:mTst (mBin neD (zal lenD<|zab (mVar 0) mNil)<|mCon<|.int 3) [some P,none,none,none] st=some (false,st):=tstB (b:=false) (by simp[el,ne3])
     cases hw:whB 1 4 e with
     | false =>
       rw[hw] at ew;refine⟨st,zbv ?_,Gr.refl st⟩;unfold zaI;exact zbe<|ifT (orR (notB it)<|orR tl<|notB (b:=false)<|by simp[x0,ew]) rfl
     | true =>
       rw[hw] at ew;rw[Bc];have i0:=ifF (a:=mRet (mCon<|.bl false)) (orR (notB it)<|orR tl<|notB (m:=zal zaT (zab (mBin ixA (mVar 0)<|mCon<|.int 0)<|zab (mCon<|.int 1)<|zab (mCon<|.int 4) mNil)) (s1:=st) (b:=true)<|by simp[x0,ew]);have a1:mAsg (mLst mNil) (gNm 1) [some P,none,none,none] st=some (.nx [some P,some (.ref st.length),none,none],st++[.lst []]):=by simp
       have b1:=zbg st<|.lst [];have g1:=Gr.app st [.lst []];generalize st++[O.lst []]=s1 at a1 b1 g1;have is1:=zrb (U:=[some P,some (.ref st.length),none,none]) (me:=mBin ixA (mVar 0) (mCon<|.int 1)) (fs.gr g1) (by simp[x1]);have is2:=zrb (U:=[some P,some (.ref st.length),none,none]) (me:=mBin ixA (mVar 0) (mCon<|.int 2)) (fk.gr g1)<|by simp[x2]
       cases hss:istB s with
       | false =>
         rw[hss] at is1;rw[zmN hss,Bq];refine⟨s1,zbv ?_,g1⟩;unfold zaI;exact zan i0<|zan a1<|zbe<|ifT (orL<|notB is1) rfl
       | true =>
         rw[hss] at is1
         cases hkk:istB k with
         | false =>
           rw[hkk] at is2;have:zhw (nsOf s) k=false:=by cases k <;> first | rfl | cases hkk
           rw[this,Cd];refine⟨s1,zbv ?_,g1⟩;unfold zaI;exact zan i0<|zan a1<|zbe<|ifT (orR (notB is1)<|orL<|notB is2) rfl
         | true =>
           rw[hkk] at is2
           cases fs with
           | tup ss hsl fss =>
             cases fk with
             | tup ks hkl fks =>
               have elk:lenD [.tup ks] s1=some (.int ks.length,s1):=zcO;show ∃ st',zbr [P] st=some (.bl ((ss.all zdt&&zg3 (namesOf ss))&&(!ks.isEmpty&&ks.all (kindB<|namesOf ss))),st')/\Gr st st'
               cases hke:ks.isEmpty with
               | true =>
                 have k0:ks=[]:=List.isEmpty_iff.mp hke;subst k0;refine⟨s1,zbv ?_,g1⟩;unfold zaI;rw[CK,Bq,Cd];exact zan i0<|zan a1<|zbe<|ifT (orR (notB is1)<|orR (notB is2)<|tstB (b:=true)<|by simp[x2,elk,eq_int]) rfl
               | false =>
                 have hl0:ks.length≠0:=fun z=>by have:ks=[]:=List.length_eq_zero_iff.mp z;subst this;cases hke
                 have e0:((ks.length:Int)==0)=false:=by apply beq_false_of_ne;omega
                 have tk:mTst (mBin eqD (zal lenD<|zab (mBin ixA (mVar 0)<|mCon<|.int 2) mNil)<|mCon<|.int 0) [some P,some (.ref st.length),none,none] s1=some (false,s1):=tstB (b:=false) (by
                   have:=eq_int (ks.length:Int) 0 s1;rw[e0] at this;simp[x2,elk,this])
                 have i1:=ifF (a:=mRet (mCon<|.bl false))<|orR (notB is1)<|orR (notB is2) tk;have fr1:∀ U:Rho,∀ t:Sto,U[0]?=some (some P)->mWA (mBin ixA (mVar 0)<|mCon<|.int 1) U t=some (⟨ss,[]⟩,t):=fun U t hr=>by rw[ztJ];simp only[zaM,zaP,zaS,hr,Ac,x1];rfl
                 have fr2:∀ U:Rho,∀ t:Sto,U[0]?=some (some P)->mWA (mBin ixA (mVar 0)<|mCon<|.int 2) U t=some (⟨ks,[]⟩,t):=fun U t hr=>by rw[ztJ];simp only[zaM,zaP,zaS,hr,Ac,x2];rfl
                 rcases ze6 (W:=ss) (P:=P) (k:=none) (st0:=st) hm (Af _) ss [] none s1 fss (by simp;omega) b1 g1 with ⟨h1,x',s2,e2,b2,g2⟩ | ⟨h1,s2,e2,g2⟩
                 . rw[D5] at b2;have lp1:mFor (mWA<|mBin ixA (mVar 0)<|mCon<|.int 1) (gNm 2) zaG [some P,some (.ref st.length),none,none] s1=some (.nx [some P,some (.ref st.length),x',none],s2):=by
                     rw[zaL,fr1 _ _ rfl];exact e2
                   obtain⟨S,hSe,hS⟩:=zdn h1;have hnl:(namesOf ss).length<=60:=by unfold namesOf;rw[Ai];omega
                   have okn:∀ x∈namesOf ss,AK x=true:=fun x hx=>by rw[hSe,ze4] at hx;obtain⟨p,hp,rfl⟩:=List.mem_map.mp hx;exact zq0 (hS p hp).1
                   have es:=zpL (me:=mVar 1) (U:=[some P,some (.ref st.length),x',none]) rfl b2 hnl;have b3:=zbg s2<|.lst<|(zbz<|once<|namesOf ss).map D.str;have b3':(s2++[O.lst ((zbz<|once<|namesOf ss).map D.str)])[st.length]?=some (.lst<|(namesOf ss).map D.str):=by rw[Az (getElem?_lt b2)];exact b2
                   have g3:=Gr.app s2 [.lst ((zbz<|once<|namesOf ss).map D.str)];generalize s2++[O.lst ((zbz<|once<|namesOf ss).map D.str)]=s3 at es b3 b3' g3;have en:=zqZ b3' b3 okn fun x hx=>by have hx1:x∈once (namesOf ss):=(Bg (once<|namesOf ss) sle).mem_iff.mp hx;obtain⟨j,hj,ej⟩:=(zoj _).mp hx1;rw[<-ej];refine okn _ ?_;rw[Ar,Ak hj];exact BK hj
                   have tn:mTst (mBin neD (mVar 1)<|zlO<|mVar 1) [some P,some (.ref st.length),x',none] s2=some (!zg3 (namesOf ss),s3):=by
                     refine tstB ?_;simp only[zaM,zaP,B7,CI,Ac,es];rw[en];have:decide (namesOf ss=zbz (once<|namesOf ss))=zg3 (namesOf ss):=by rw[BR,decide_eq_true_iff];exact zeX _
                     rw[this]
                   rw[h1,Bc,Dz,Bc]
                   cases hr:zg3 (namesOf ss) with
                   | false =>
                     rw[hr] at tn;refine⟨s3,zbv ?_,g2.trans g3⟩;unfold zaI;exact zan i0<|zan a1<|zan i1<|zan lp1<|zbe<|ifT tn rfl
                   | true =>
                     rw[hr] at tn;rw[Bc];obtain⟨x2',s4,g4,e4⟩:=zfz (W:=ks) (P:=P) (k:=x') hm okn ks none s3 (fun y hy=>(fks y hy).gr (g2.trans g3)) b3';refine⟨s4,zbv ?_,(g2.trans g3).trans g4⟩;unfold zaI;refine zan i0<|zan a1<|zan i1<|zan lp1<|zan (ifF tn) ?_
                     cases hb:ks.all (kindB<|namesOf ss) with
                     | true =>
                       rw[hb] at e4;refine zan (U1:=[some P,some (.ref st.length),x',x2']) (s1:=s4) ?_ rfl;rw[zaL,fr2 _ _ rfl];exact e4
                     | false =>
                       rw[hb] at e4;refine zbe ?_;rw[zaL,fr2 _ _ rfl];exact e4
                 rw[h1,Bq,Bq];refine⟨s2,zbv ?_,g2⟩;unfold zaI;refine zan i0<|zan a1<|zan i1<|zbe ?_;rw[zaL,fr1 _ _ rfl];exact e2
             | _=>cases hkk
           | _=>cases hss
   . cases d with
     | tup ds =>
       have hne:((ds.length:Int)==3)=false:=h1;have ne3:=ne_int (ds.length:Int) 3 st;rw[hne] at ne3;have el:lenD [.tup ds] st=some (.int ds.length,st):=zcO;rw[h2];refine⟨st,zbv ?_,Gr.refl st⟩;unfold zaI;exact zbe<|ifT (orR (notB it)<|orL<|tstB (b:=true)<|by simp[el,ne3]) rfl
     | _=>cases hs
def slT(ds:List D)(lo hi:Option Int):List D:=if (decide (HT.sIx ds.length 0 lo=0)&&decide (HT.sIx ds.length ds.length hi=ds.length))=true then ds else cutD ds lo hi
variable {ds:List D}{lo hi:Option Int}
def zjp:slC (.tup ds) lo hi st=some (.tup (slT ds lo hi),st):=by
 unfold slC slB slA slD slS slK slW slT
 by_cases h:(decide (HT.sIx ds.length 0 lo=0)&&decide (HT.sIx ds.length ds.length hi=ds.length))=true
 . simp only[h,if_true,zbA]
 simp only[h,if_false,zbo,Aw]
def zft(h:d∈slT ds lo hi):d∈ds:=by
 unfold slT at h
 split at h
 . exact h
 unfold cutD at h;exact C9<|C7 h
def zjo:(slT ds lo hi).length<=ds.length:=by
 unfold slT
 split
 . exact Af _
 unfold cutD;rw[A1,B9];omega
def znC:slT ds lo hi=cutD ds lo hi:=by
 unfold slT
 split
 . rename_i h;rw[An,decide_eq_true_eq,decide_eq_true_eq] at h;unfold cutD;rw[h.1,h.2,FP,Nat.sub_zero,Cc]
 rfl
variable {r:Int}
def zr7(h0:0<=r)(h1:r.toNat < ds.length):(slT ds none<|some r).length=r.toNat:=by obtain⟨k,rfl⟩:=DA h0;rw[znC];unfold cutD;rw[show HT.sIx ds.length ds.length (some (k:Int))=min k ds.length from HT.sIx_nat _ _ _,HT.sIx_none,A1,B9];simp at h1 ⊢;omega
def zpN(h0:0<=r)(h1:r.toNat < ds.length):(slT ds (some<|r+1) none).length+r.toNat+1=ds.length:=by obtain⟨k,rfl⟩:=DA h0;rw[znC];unfold cutD;rw[show HT.sIx ds.length 0 (some<|(k:Int)+1)=min (k+1) ds.length from HT.sIx_nat _ _ (k+1),HT.sIx_none,A1,B9];simp at h1 ⊢;omega
def znB:(slT ds (some<|-1) none).length<=1:=by rw[znC];unfold cutD;rw[HT.sIx_none,A1,B9];show min _ (ds.length - HT.sIx ds.length 0 (some<|-1))<=1;have:HT.sIx ds.length 0 (some<|-1)=((-1:Int)+(ds.length:Int)).toNat:=rfl;omega
def zpO(h:z.cps.toList.length<=1000):slC (.str z) lo hi st=some (.str (Bo z lo hi),st):=by have:fits z.length=true:=zaH (by rw[len_list];omega);unfold slC slB slA slD slS;simp only[this,if_true,zbA,zbo]
def zlf(h:c∈(Bo z lo hi).cps.toList):c∈z.cps.toList:=by
 unfold Bo at h
 split at h
 . exact h
 . have h':c∈(Em lo hi 1 z.length).filterMap (z.cps[·]?):=by simpa using h
   obtain⟨i,_,e⟩:=List.mem_filterMap.mp h';rw[<-AD] at e;exact AW e
def zlg:(Bo z lo hi).cps.toList.length<=z.cps.toList.length:=by have:=D2 z lo hi;rw[len_list,len_list] at this;exact this
def zhF{a b:List D}(h:a.length+b.length<=10000):addE (.tup a) (.tup b) st=some (.tup (a++b),st):=by
 unfold addE orG
 cases a with
 | nil =>
   have e1:addD (.tup []) (.tup b) st=none:=rfl;have hf:fits b.length=true:=zaH (by simpa using h);rw[e1,zbA];simp[zrQ,hf]
 | cons x a=>rw[zgP (by simp) h,zbo]
variable {s:Sto}
def zia(h:ds.length<=10000):zke [.tup ds] s=some (.ref s.length,s++[.lst ds]):=by have:fits ds.length=true:=zaH h;simp[zke,orN,zs3,zs2,this,zbo]
theorem zmm{m:ME}{ml mh:MO}:mSlC m ml mh U st=(m U st).bind fun p=>(ml U p.2).bind fun q=>(mh U q.2).bind fun r=>slC p.1 q.1 r.1 r.2:=rfl
theorem neg1:negD (.int 1) s=some (.int (-1),s):=rfl
variable {i:Nat}
def znQ(h:U[i]?=some (some<|.tup ds)):zh8 (mVar i) (mNeg<|mCon<|.int 1) U st=some (.tup ds.reverse,st):=by
 have e1:mVar i U st=some (.tup ds,st):=by simp[h]
 have e2:mNeg (mCon<|.int 1) U st=some (.int (-1),st):=rfl;unfold zh8 zrJ mRev zrI zrH;rw[e1];simp only[Ac,e2];rfl
def znR(h:U[i]?=some (some<|.str z))(hz:z.cps.toList.length<=1000):zh8 (mVar i) (mNeg<|mCon<|.int 1) U st=some (.str (revT z),st):=by
 have e1:mVar i U st=some (.str z,st):=by simp[h]
 have e2:mNeg (mCon<|.int 1) U st=some (.int (-1),st):=rfl;have e3:fits z.length=true:=zaH (by rw[len_list];omega);unfold zh8 zrJ mRev zrI zrH;rw[e1];simp only[Ac,e2,e3,DO,decide_true,if_true,zbA,zbo]
def TxA(z:Str)(k:Nat):Prop:=z.cps.toList.length<=k/\∀ c∈z.cps.toList,c < 128
def TxA.app{k:Nat}(h:TxA a m)(h':TxA b k):TxA (a++b) (m+k):=by
 refine⟨by rw[app_list,AE];have:=h.1;have:=h'.1;omega,fun c hc=>?_⟩;rw[app_list] at hc
 rcases List.mem_append.mp hc with hc | hc
 . exact h.2 c hc
 exact h'.2 c hc
def TxA.sl(h:TxA z m):TxA (Bo z lo hi) m:=⟨AR zlg h.1,fun c hc=>h.2 c (zlf hc)⟩
def TxA.rev(h:TxA z m):TxA (revT z) m:=by
 have e:(revT z).cps.toList=z.cps.toList.reverse:=by unfold revT;simp
 exact⟨by rw[e,CD];exact h.1,fun c hc=>h.2 c (by rw[e] at hc;exact List.mem_reverse.mp hc)⟩
def TxA.up(h:TxA z m):TxA (C5 z) m:=by
 rw[PyProof.Rows.upper_ascii h.2];refine⟨by rw[G4,Ai];exact h.1,fun c hc=>?_⟩;rw[G4] at hc;obtain⟨x,hx,rfl⟩:=List.mem_map.mp hc;have:=h.2 x hx;unfold PyProof.Rows.up1
 split <;> omega
def ztL(h:TxA z m)(hm:m<=1000):upD (.str z) st=some (.str (C5 z),st):=by
 unfold upD;have:De (C5 z).length=false:=by
   have:=h.up.1;rw[len_list];unfold De;apply decide_eq_false;have hs:sizeLine=16777216:=by decide
   omega
 simp[this]
def zmP(k:Nat):(itos<|Int.negSucc k).cps.toList=45::(Nat.toDigits 10<|k+1).map Char.toNat:=by show (Bf<|"-"++Nat.repr (k+1)).cps.toList=_;simp[Str.ofString_eq_toList,Nat.repr]
def zow{i:Int}(h:i.natAbs < 10 ^ 40):TxA (itos i) 41:=by
 cases i with
 | ofNat k =>
   have h0:(0:Int)<=Hy k:=Int.natCast_nonneg k;refine⟨?_,fun c hc=>?_⟩
   . rw[zkl h0,Ai];have:=Fe (k:=40) (n:=(Hy k).toNat) (by decide) (by simpa using h);omega
   have:=zox h0 c hc;omega
 | negSucc k =>
   refine⟨?_,fun c hc=>?_⟩
   . rw[zmP,AA,Ai];have:=Fe (k:=40) (n:=k+1) (by decide) (by simpa using h);omega
   . rw[zmP] at hc
     rcases List.mem_cons.mp hc with rfl | hc
     . decide
     obtain⟨ch,hch,e⟩:=List.mem_map.mp hc;have r:=Fd<|Er (by decide) (by decide) hch;omega
def zrZ{i:Int}(h:i.natAbs < 10 ^ 40):strC [.int i] s=some (.str (itos i),s):=by
 have:zj8 i=true:=by
   unfold zj8;apply decide_eq_true
   by_cases h':i.natAbs=0
   . rw[h'];decide
   have:i.natAbs.log2 < 200:=(Nat.log2_lt h').mpr (Ay h<|by decide);omega
 unfold strC;simp only[this,if_true];rfl
variable {s1:Sto}{N:Int}
def TxA.fit{k:Nat}(h:TxA z k)(hm:k<=50+10*m):Fit n m st (.str z):=.str z (AR h.1 hm) h.2
structure Got(n m:Nat)(st:Sto)(e:D)(st':Sto):Prop where
 fit:Fit n m st' e
 pot:zbU n st'
 fr:Fr n st st'
def Got.on{e:D}{s':Sto}(f:Fr n st s)(h:Got n m s e s'):Got n m st e s':=⟨h.fit,h.pot,f.trans h.fr⟩
def zh1{xs:List D}(h0:U[0]?=some (some<|.ref n))(hm:me U st=some (.ref l,s1))(hp:zbU n s1)(hl:s1[l]?=some (.lst xs))(h1:l≠n)(hN0:0 < xs.length)(hN1:xs.length<=100)(hx:∀ x∈xs,Fit n m s1 x) :
   ∃ e s2,mRet (zal zax<|zab (mVar 0)<|zab me<|mNil) U st=some (.rt e,s2)/\Got n m s1 e s2:=by
 obtain⟨e,s2,e2,he,p2,f2⟩:=of_ok hp hl hN0 (by omega) h1;refine⟨e,s2,zbX ?_,⟨(hx e he).fr f2,p2,f2⟩⟩;have e0:mVar 0 U st=some (.ref n,st):=by simp[h0]
 simp only[zav,zat,zaK,e0,hm,Ac,e2]
def zkH(h0:U[0]?=some (some<|.ref n))(hp:zbU n st)(hN0:0 < N)(hN1:N<=100) :
   ∃ b s1,mTst (mBin gtD (zal zag<|zab (mVar 0)<|zab (mCon<|.int N)<|mNil)<|mCon<|.int 0) U st=some (b,s1)/\zbU n s1/\Fr n st s1:=by
 obtain⟨r,s2,e2,r0,r1,p2,f2,_⟩:=zbT (many:=N) hp hN0 (by omega);exact⟨decide (0 < r),s2,by simp[h0,e2,gtD,cmpD,intD],p2,f2⟩
def znb(h0:U[i]?=some (some<|.ref n))(hp:zbU n st)(hN0:0 < N)(hN1:N<=100) :
   ∃ b s1,mTst (mBin eqD (zal zag<|zab (mVar i)<|zab (mCon<|.int N)<|mNil)<|mCon<|.int 0) U st=some (b,s1)/\zbU n s1/\Fr n st s1:=by
 obtain⟨r,s2,e2,r0,r1,p2,f2,_⟩:=zbT (many:=N) hp hN0 (by omega);exact⟨r==0,s2,by simp[h0,e2,eq_int],p2,f2⟩
def pl0:D->Bool
 | .non=>true
 | .bl _=>true
 | .int i=>decide (i.natAbs<=big 0)
 | .str z=>decide (z.cps.toList.length<=50)&&z.cps.toList.all fun c=>decide (c < 128)
 | _=>false
def pl1:D->Bool
 | .tup ds=>decide (ds.length<=20)&&ds.all pl0
 | d=>pl0 d
def pl2:D->Bool
 | .tup ds=>decide (ds.length<=20)&&ds.all pl1
 | d=>pl1 d
def zhX(h:pl0 d=true):Fit n m st d:=by
 cases d with
 | non=>exact .non
 | bl b=>exact .bl b
 | int i=>exact .int i<|AR (of_decide_eq_true h)<|zrA<|AY m
 | str z =>
   have h':=h;simp only[pl0,An,decide_eq_true_eq,BD] at h';exact .str z (by omega) h'.2
 | _=>simp[pl0] at h
def zmL(h:pl1 d=true):Fit n m st d:=by
 cases d with
 | tup ds =>
   simp only[pl1,An,decide_eq_true_eq,BD] at h;exact .tup ds (by omega) fun d hd=>zhX (h.2 d hd)
 | _=>exact zhX h
def zmK(h:pl2 d=true):Fit n m st d:=by
 cases d with
 | tup ds =>
   simp only[pl2,An,decide_eq_true_eq,BD] at h;exact .tup ds (by omega) fun d hd=>zmL (h.2 d hd)
 | _=>exact zmL h
def odd1:List D:=[.non,.bl true,.bl false,.int 0,.int 1,.int (-1),.int 4,.int 5,.int 12,.int 13,.int 1000000000000000000000000000000,.str "",.str "a",.str "A",.str "-",.str "z9",.str "ab cd",.str "aaaaaaaaa",.str "0",.str "\n"]
def odd2(a b c:Nat):List D:=[.str "{",.str "`",.str "/",.str ":",.tup [],.ref a,.ref b,.tup [.int 0],.tup [.int 1,.int 1],.ref c,.tup [.str "a",.int 1],.tup [.str "",.str "",.str "",.str "",.str ""],.tup [.tup []]]
def zqU:odd1.all pl2=true:=by decide +kernel
def zqS:([.str "{",.str "`",.str "/",.str ":",.tup [],.tup [.int 0],.tup [.int 1,.int 1],.tup [.str "a",.int 1],.tup [.str "",.str "",.str "",.str "",.str ""],.tup [.tup []]]:List D).all pl2=true:=by decide +kernel
def zoc{a b:Nat}{x:D}(h:x∈odd2 a b c):pl2 x=true\/x=.ref a\/x=.ref b\/x=.ref c:=by
 have e:=List.all_eq_true.mp zqS x;simp only[odd2,AI,AM,or_false] at h e
 rcases h with h | h | h | h | h | h | h | h | h | h | h | h | h
 all_goals first
   | exact .inr (.inl h)
   | exact .inr (.inr<|.inl h)
   | exact .inr (.inr<|.inr h)
   | exact .inl (e<|by simp[h])
def zqV:mLst (zab (mCon .non)<|zab (mCon<|.bl true)<|zab (mCon<|.bl false)<|zab (mCon<|.int 0)<|zab (mCon<|.int 1)<|zab (mNeg<|mCon<|.int 1)<|zab (mCon<|.int 4)<|zab (mCon<|.int 5)<|zab (mCon<|.int 12)<|zab (mCon<|.int 13)<|zab (mBin powB (mCon<|.int 10)<|mCon<|.int 30)<|zab (mCon<|.str "")<|zab (mCon<|.str "a")<|zab (mCon<|.str "A")<|zab (mCon<|.str "-")<|zab (mCon<|.str "z9")<|zab (mCon<|.str "ab cd")<|zab (mBin mulA (mCon<|.str "a")<|mCon<|.int 9)<|zab (mCon<|.str "0")<|zab (mCon<|.str "\n")<|mNil) U s=some (.ref s.length,s++[.lst odd1]):=by
 have e1:powB (.int 10) (.int 30) s=some (.int 1000000000000000000000000000000,s):=rfl;have e2:mulA (.str "a") (.int 9) s=some (.str "aaaaaaaaa",s):=rfl;have e3:fits 20=true:=by decide
 simp[zaY,zat,zaK,e1,e2,neg1,odd1,e3]
theorem zqT:mLst (zab (mCon<|.str "{")<|zab (mCon<|.str "`")<|zab (mCon<|.str "/")<|zab (mCon<|.str ":")<|zab (mTup<|mNil)<|zab (mLst<|mNil)<|zab (ziZ false)<|zab (mTup<|zab (mCon<|.int 0)<|mNil)<|zab (mTup<|zab (mCon<|.int 1)<|zab (mCon<|.int 1)<|mNil)<|zab (mLst<|zab (mCon<|.str "a")<|zab (mCon<|.int 1)<|mNil)<|zab (mTup<|zab (mCon<|.str "a")<|zab (mCon<|.int 1)<|mNil)<|zab (mTup<|zab (mCon<|.str "")<|zab (mCon<|.str "")<|zab (mCon<|.str "")<|zab (mCon<|.str "")<|zab (mCon<|.str "")<|mNil)<|zab (mTup<|zab (mTup<|mNil)<|mNil)<|mNil) U s=some (.ref (s++[O.lst []]++[O.dk []]++[O.lst [.str "a",.int 1]]).length,s++[O.lst []]++[O.dk []]++[O.lst [.str "a",.int 1]]++[O.lst (odd2 s.length (s++[O.lst []]).length (s++[O.lst []]++[O.dk []]).length)]):=rfl
def zsW(hp:zbU n st):∃ e st',zcZ [.ref n] st=some (e,st')/\Got n m st e st':=by
 have g1:=Gr.app st [.lst odd1];have a1:=zbg st<|.lst odd1;have i1:=zqV (U:=[some (.ref n),none]) (s:=st);generalize hs1:st++[O.lst odd1]=s1 at g1 a1 i1;have p1:=hp.gr g1;have g2:=Gr.app s1 [.lst []];have a2:=zbg s1<|.lst [];have i2:=zqT (U:=[some (.ref n),some (.ref st.length)]) (s:=s1);generalize hs2:s1++[O.lst []]=s2 at g2 a2 i2;have p2:=p1.gr g2;have g3:=Gr.app s2 [.dk []];have a3:=zbg s2<|.dk [];generalize hs3:s2++[O.dk []]=s3 at g3 a3 i2;have p3:=p2.gr g3;have g4:=Gr.app s3 [.lst [.str "a",.int 1]];have a4:=zbg s3 (.lst [.str "a",.int 1]);generalize hs4:s3++[O.lst [.str "a",.int 1]]=s4 at g4 a4 i2;have p4:=p3.gr g4;generalize hL:odd2 s1.length s2.length s3.length=L at i2;have g5:=Gr.app s4 [.lst L];have a5:=zbg s4<|.lst L;generalize hs5:s4++[O.lst L]=s5 at g5 a5 i2;have p5:=p4.gr g5;have g15:=((g2.trans g3).trans g4).trans g5;have b1:s5[st.length]?=some (.lst odd1):=(g15.old _<|getElem?_lt a1).trans a1;have hLl:L.length=13:=by subst hL;rfl
 have ad:=zgQ b1 a5 (by rw[hLl];decide);have g6:=Gr.app s5 [.lst (odd1++L)];have a6:=zbg s5 (.lst<|odd1++L);generalize hs6:s5++[O.lst (odd1++L)]=s6 at g6 a6 ad;have p6:=p5.gr g6;have b2:s6[s1.length]?=some (.lst []):=((((g3.trans g4).trans g5).trans g6).old _<|getElem?_lt a2).trans a2;have b3:s6[s2.length]?=some (.dk []):=(((g4.trans g5).trans g6).old _<|getElem?_lt a3).trans a3;have b4:s6[s3.length]?=some (.lst [.str "a",.int 1]):=((g5.trans g6).old _<|getElem?_lt a4).trans a4;obtain⟨e,s7,e7,G⟩:=zh1 (m:=m) (me:=mVar 1) (U:=[some (.ref n),some (.ref s5.length)]) (st:=s6) rfl rfl p6 a6 (AJ p5.lt) (by rw[AE,hLl];omega) (by rw[AE,hLl];decide) (by
   intro x hx
   rcases List.mem_append.mp hx with hx | hx
   . exact zmK<|List.all_eq_true.mp zqU x hx
   . rw[<-hL] at hx
     rcases zoc hx with h | rfl | rfl | rfl
     . exact zmK h
     . exact .lst _ _ b2<|AJ p1.lt
     . exact .dk _ _ b3<|AJ p2.lt
     exact .lst _ _ b4 (AJ p3.lt))
 refine⟨e,s7,zbv ?_,G.on<|(g1.trans<|g15.trans g6).fr n⟩;show zeg [some (.ref n),none] st=_;unfold zeg;refine zan (U1:=[some (.ref n),some (.ref st.length)]) (s1:=s1) (by rw[zaN,i1];rfl) ?_;refine zan (U1:=[some (.ref n),some (.ref s5.length)]) (s1:=s6) (by
   have ev:mVar 1 [some (.ref n),some (.ref st.length)] s1=some (.ref st.length,s1):=rfl;rw[zaN,zaM,ev];simp only[Ac,i2,ad]
   rfl) ?_
 exact e7
open L2.MP.Hb (zfG ty_str ty_int)
variable {x:Option D}{t:MT}{s2:Sto}
def zd8{c:MT}{a:MS}(h:t U st=some (false,s1)):mIf (zgw t c) a zcf U st=some (.nx U,s1):=by simp only[zbZ,zaz,h,Ac,Aw,if_false,zay]
def zoD{c:MT}{a:MS}(h:t U st=some (true,s1))(hc:c U s1=some (false,s2)):mIf (zgw t c) a zcf U st=some (.nx U,s2):=by simp only[zbZ,zaz,h,hc,Ac,Aw,if_false,if_true,zay]
def zoC{c:MT}{a:MS}{r:Option (Fl×Sto)}(h:t U st=some (true,s1))(hc:c U s1=some (true,s2))(k:a U s2=r):mIf (zgw t c) a zcf U st=r:=by simp only[zbZ,zaz,h,hc,Ac,if_true,k]
def zrd:isBD d .non st=some (.bl (zre d),st):=by simp only[isBD,orG,isND,zbo]
def ro(n:Nat)(d:D)(x:Option D):Rho:=[some (.ref n),some d,x]
def s2F{a:MS}(h:Fit n m st d)(h1:isbB d=false)(h2:zre d=false):mIf (mOrT (mTst<|mIsi "bool"<|mVar 1)<|mTst<|mBin isBD (mVar 1)<|mCon .non) a zcf (ro n d x) st=some (.nx (ro n d x),st):=by refine ifF<|orR (tstB<|by rw[zte h rfl,h1])<|tstB ?_;show isBD d .non st=_;rw[zrd,h2]
def zgt(hp:zbU n st):∃ e st',mRet (zal zcZ<|zab (mVar 0)<|mNil) (ro n d x) st=some (.rt e,st')/\Got n m st e st':=by obtain⟨e,s1,e1,G⟩:=zsW (m:=m) hp;exact⟨e,s1,zbX<|by simpa[ro] using e1,G⟩
def zkD{a b:List D}(ha:∀ d∈a,Fit n m st d)(hb:∀ d∈b,Fit n m st d)(hl:a.length+b.length<=20+5*m):Fit n m st (.tup<|a++b) :=
 .tup _ (by rw[AE];exact hl) fun d hd=>(List.mem_append.mp hd).elim (ha d) (hb d)
def znp(hp:zbU n st)(h:Fit n m st (.tup ds))(hm:m<=5) :
   ∃ l s1,mAsg (mLst<|zab (zal zke<|zab (mVar 1)<|mNil)<|zab (mSlC (mVar 1) zcM<|zcL<|mNeg<|mCon<|.int 1)<|zab (mSlC (mVar 1) (zcL<|mCon<|.int 1)<|zcM)<|zab (mBin addE (mVar 1)<|mSlC (mVar 1) (zcL<|mNeg<|mCon<|.int 1)<|zcM)<|zab (zh8 (mVar 1)<|mNeg<|mCon<|.int 1)<|zab (mBin addE (mVar 1)<|mTup<|zab (mCon .non)<|mNil)<|zab (mTup<|zab (mVar 1)<|mNil)<|mNil) (gNm 2) (ro n (.tup ds) none) st=some (.nx (ro n (.tup ds)<|some<|.ref l),s1)/\∃ e s2,mRet (zal zax<|zab (mVar 0)<|zab (mVar 2)<|mNil) (ro n (.tup ds)<|some<|.ref l) s1=some (.rt e,s2)/\Got n (m+1) st e s2:=by
 have hl:=h.ln;have g2:=Gr.app st [.lst ds];have a2:=zbg st<|.lst ds;have e3:=zia (ds:=ds) (s:=st) (by omega);generalize hs2:st++[O.lst ds]=s2 at g2 a2 e3;have p2:=hp.gr g2;have k1:=zjo (ds:=ds) (lo:=none) (hi:=some (-1));have k2:=zjo (ds:=ds) (lo:=some 1) (hi:=none);have k3:=znB (ds:=ds);have e1:∀ s,addE (.tup ds) (.tup<|slT ds (some<|-1) none) s=some (.tup (ds++slT ds (some<|-1) none),s):=fun s=>zhF (by omega);have e2:∀ s,addE (.tup ds) (.tup [.non]) s=some (.tup (ds++[.non]),s):=fun s=>zhF (by simp;omega);have e4:∀ s,zh8 (mVar 1) (mNeg<|mCon<|.int 1) (ro n (.tup ds) none) s=some (.tup ds.reverse,s):=fun s=>znQ rfl;generalize hxs:[D.ref st.length,.tup (slT ds none<|some<|-1),.tup (slT ds (some 1) none),.tup (ds++slT ds (some<|-1) none),.tup ds.reverse,.tup (ds++[.non]),.tup [.tup ds]]=xs;have g3:=Gr.app s2 [.lst xs];have a3:=zbg s2<|.lst xs;have em:(mLst<|zab (zal zke<|zab (mVar 1)<|mNil)<|zab (mSlC (mVar 1) zcM<|zcL<|mNeg<|mCon<|.int 1)<|zab (mSlC (mVar 1) (zcL<|mCon<|.int 1)<|zcM)<|zab (mBin addE (mVar 1)<|mSlC (mVar 1) (zcL<|mNeg<|mCon<|.int 1)<|zcM)<|zab (zh8 (mVar 1)<|mNeg<|mCon<|.int 1)<|zab (mBin addE (mVar 1)<|mTup<|zab (mCon .non)<|mNil)<|zab (mTup<|zab (mVar 1)<|mNil)<|mNil) (ro n (.tup ds) none) st=some (.ref s2.length,s2++[.lst xs]):=by subst hxs;have e4':=e4 s2;unfold ro at *;simp[e3,zmm,zjp,neg1,e1,e2,e4']
 generalize hs3:s2++[O.lst xs]=s3 at g3 a3 em;have p3:=p2.gr g3;have F:=(h.gr<|g2.trans g3).up (BM m);obtain⟨e,s4,e5,G⟩:=zh1 (m:=m+1) (me:=mVar 2) (U:=ro n (.tup ds) (some<|.ref s2.length)) (st:=s3) rfl rfl p3 a3 (AJ p2.lt) (by subst hxs;simp) (by subst hxs;simp) (by
   intro x hx;subst hxs;simp only[AI,AM,or_false] at hx
   rcases hx with rfl | rfl | rfl | rfl | rfl | rfl | rfl
   . exact .lst _ _ ((g3.old _<|getElem?_lt a2).trans a2)<|AJ hp.lt
   . exact .tup _ (by omega) fun d hd=>F.at d (zft hd)
   . exact .tup _ (by omega) fun d hd=>F.at d (zft hd)
   . exact zkD F.at (fun d hd=>F.at d (zft hd))<|by omega
   . exact .tup _ (by rw[CD];omega) fun d hd=>F.at d (List.mem_reverse.mp hd)
   . exact zkD F.at (fun d hd=>by rw[List.mem_singleton.mp hd];exact .non) (by simp;omega)
   exact .tup _ (by simp;omega) fun d hd=>by rw[List.mem_singleton.mp hd];exact F)
 exact⟨s2.length,s3,by rw[zaN,em];rfl,e,s4,e5,G.on<|(g2.trans g3).fr n⟩
def zoz{i:Int}(hp:zbU n st)(h:i.natAbs<=big m)(hm:m<=5) :
   ∃ e s2,mRet (zal zax<|zab (mVar 0)<|zab (mLst<|zab (mBin addD (mVar 1)<|mCon<|.int 1)<|zab (mBin subD (mVar 1)<|mCon<|.int 1)<|zab (mNeg<|mVar 1)<|zab (zal strC<|zab (mVar 1)<|mNil)<|zab (mBin eqD (mVar 1)<|mCon<|.int 1)<|zab (mBin addD (mVar 1)<|mCon<|.int 12)<|zab (mLst<|zab (mVar 1)<|mNil)<|zab (mBin addD (mVar 1)<|mCon<|.int 4)<|mNil)<|mNil) (ro n (.int i) none) st=some (.rt e,s2)/\Got n (m+1) st e s2:=by
 have hb:big m<=1000000000000000000000000000500:=by unfold big;omega
 have hb1:big (m+1)=big m+100:=by unfold big;omega
 have h40:i.natAbs < 10 ^ 40:=Cj (AR h hb) (by decide);have es:∀ s,strC [.int i] s=some (.str (itos i),s):=fun s=>zrZ h40;have ng:∀ s,negD (.int i) s=some (.int (-i),s):=fun s=>rfl;have g2:=Gr.app st [.lst [.int i]];have a2:=zbg st<|.lst [.int i];generalize hxs:[D.int (i+1),.int (i - 1),.int (-i),.str (itos i),.bl (i==1),.int (i+12),.ref st.length,.int (i+4)]=xs;have em:(mLst<|zab (mBin addD (mVar 1)<|mCon<|.int 1)<|zab (mBin subD (mVar 1)<|mCon<|.int 1)<|zab (mNeg<|mVar 1)<|zab (zal strC<|zab (mVar 1)<|mNil)<|zab (mBin eqD (mVar 1)<|mCon<|.int 1)<|zab (mBin addD (mVar 1)<|mCon<|.int 12)<|zab (mLst<|zab (mVar 1)<|mNil)<|zab (mBin addD (mVar 1)<|mCon<|.int 4)<|mNil) (ro n (.int i) none) st=some (.ref (st++[O.lst [.int i]]).length,st++[O.lst [.int i]]++[.lst xs]):=by subst hxs;unfold ro;simp[es,ng,eq_int]
 generalize hs2:st++[O.lst [.int i]]=s2 at g2 a2 em;have p2:=hp.gr g2;have g3:=Gr.app s2 [.lst xs];have a3:=zbg s2 (.lst xs);generalize hs3:s2++[O.lst xs]=s3 at g3 a3 em;have p3:=p2.gr g3;obtain⟨e,s4,e5,G⟩:=zh1 (m:=m+1) (U:=ro n (.int i) none) (st:=st) rfl em p3 a3 (AJ p2.lt) (by subst hxs;simp) (by subst hxs;simp) (by
   intro x hx;subst hxs;simp only[AI,AM,or_false] at hx
   rcases hx with rfl | rfl | rfl | rfl | rfl | rfl | rfl | rfl
   . exact .int _<|by omega
   . exact .int _<|by omega
   . exact .int _<|by omega
   . exact (zow h40).fit<|by omega
   . exact .bl _
   . exact .int _<|by omega
   . exact .lst _ _ ((g3.old _<|getElem?_lt a2).trans a2)<|AJ hp.lt
   exact .int _ (by omega))
 exact⟨e,s4,e5,G.on<|(g2.trans g3).fr n⟩
def znq(hp:zbU n st)(h:Fit n m st (.str z))(hm:m<=5) :
   ∃ l s1,mAsg (mLst<|zab (mBin addD (mVar 1)<|mCon<|.str "a")<|zab (mSlC (mVar 1) zcM<|zcL<|mNeg<|mCon<|.int 1)<|zab (mUp<|mVar 1)<|zab (mBin addD (mVar 1)<|mCon<|.str " ")<|zab (mBin addD (mVar 1)<|mCon<|.str "bcdefgh")<|zab (mLst<|zab (mVar 1)<|mNil)<|zab (mTup<|zab (mVar 1)<|mNil)<|zab (zh8 (mVar 1)<|mNeg<|mCon<|.int 1)<|mNil) (gNm 2) (ro n (.str z) none) st=some (.nx (ro n (.str z)<|some<|.ref l),s1)/\∃ e s2,mRet (zal zax<|zab (mVar 0)<|zab (mVar 2)<|mNil) (ro n (.str z)<|some<|.ref l) s1=some (.rt e,s2)/\Got n (m+1) st e s2:=by
 have tz:TxA z (50+10*m):=h.tx;have hl:=tz.1;have ta:TxA "a" 1:=⟨by decide,by decide⟩
 have tb:TxA " " 1:=⟨by decide,by decide⟩
 have tc:TxA "bcdefgh" 7:=⟨by decide +kernel,by decide +kernel⟩
 have sl:∀ lo hi s,slC (.str z) lo hi s=some (.str (Bo z lo hi),s):=fun lo hi s=>zpO (by omega);have m1:∀ s,addD (.str z) (.str "a") s=some (.str (z++"a"),s):=fun s=>add_str (by rw[len_list,len_list];have:=ta.1;omega);have m2:∀ s,addD (.str z) (.str " ") s=some (.str (z++" "),s):=fun s=>add_str (by rw[len_list,len_list];have:=tb.1;omega);have m3:∀ s,addD (.str z) (.str "bcdefgh") s=some (.str (z++"bcdefgh"),s):=fun s=>add_str (by rw[len_list,len_list];have:=tc.1;omega);have m4:∀ s,mUp (mVar 1) (ro n (.str z) none) s=some (.str (C5 z),s):=fun s=>ztL tz (by omega);have m5:∀ s,zh8 (mVar 1) (mNeg<|mCon<|.int 1) (ro n (.str z) none) s=some (.str (revT z),s):=fun s=>znR rfl (by omega);have u1:=tz.app ta;have u2:=tz.app tb;have u3:=tz.app tc;generalize (z++("a":Str))=za at *;generalize (z++(" ":Str))=zb at *;generalize (z++("bcdefgh":Str))=zc at *;have g2:=Gr.app st [.lst [.str z]];have a2:=zbg st<|.lst [.str z];generalize hxs:[D.str za,.str (Bo z none<|some<|-1),.str (C5 z),.str zb,.str zc,.ref st.length,.tup [.str z],.str (revT z)]=xs;have em:(mLst<|zab (mBin addD (mVar 1)<|mCon<|.str "a")<|zab (mSlC (mVar 1) zcM<|zcL<|mNeg<|mCon<|.int 1)<|zab (mUp<|mVar 1)<|zab (mBin addD (mVar 1)<|mCon<|.str " ")<|zab (mBin addD (mVar 1)<|mCon<|.str "bcdefgh")<|zab (mLst<|zab (mVar 1)<|mNil)<|zab (mTup<|zab (mVar 1)<|mNil)<|zab (zh8 (mVar 1)<|mNeg<|mCon<|.int 1)<|mNil) (ro n (.str z) none) st=some (.ref (st++[O.lst [.str z]]).length,st++[O.lst [.str z]]++[.lst xs]):=by subst hxs;unfold ro at *;simp[zmm,sl,neg1,m1,m2,m3,m4,m5]
 generalize hs2:st++[O.lst [.str z]]=s2 at g2 a2 em;have p2:=hp.gr g2;have g3:=Gr.app s2 [.lst xs];have a3:=zbg s2 (.lst xs);generalize hs3:s2++[O.lst xs]=s3 at g3 a3 em;have p3:=p2.gr g3;obtain⟨e,s4,e5,G⟩:=zh1 (m:=m+1) (me:=mVar 2) (U:=ro n (.str z) (some<|.ref s2.length)) (st:=s3) rfl rfl p3 a3 (AJ p2.lt) (by subst hxs;simp) (by subst hxs;simp) (by
   intro x hx;subst hxs;simp only[AI,AM,or_false] at hx
   rcases hx with rfl | rfl | rfl | rfl | rfl | rfl | rfl | rfl
   . exact u1.fit<|by omega
   . exact tz.sl.fit<|by omega
   . exact tz.up.fit<|by omega
   . exact u2.fit<|by omega
   . exact u3.fit<|by omega
   . exact .lst _ _ ((g3.old _<|getElem?_lt a2).trans a2)<|AJ hp.lt
   . exact .tup _ (by simp;omega) fun d hd=>by rw[List.mem_singleton.mp hd];exact tz.fit<|by omega
   exact tz.rev.fit (by omega))
 exact⟨s2.length,s3,by rw[zaN,em];rfl,e,s4,e5,G.on<|(g2.trans g3).fr n⟩
def zkK(hp:zbU n st)(h:Fit n m st d)(hm:m<=5):∃ e st',zbM [.ref n,d] st=some (e,st')/\Got n (m+1) st e st':=by
 have fin:∀ s,zbU n s->Fr n st s->Fit n m s d->(mIf (zgw (mTst<|mIsi "tuple"<|mVar 1)<|mTst<|mBin gtD (zal zag<|zab (mVar 0)<|zab (mCon<|.int 4)<|mNil)<|mCon<|.int 0) (mSeq (mAsg (mLst<|zab (zal zke<|zab (mVar 1)<|mNil)<|zab (mSlC (mVar 1) zcM<|zcL<|mNeg<|mCon<|.int 1)<|zab (mSlC (mVar 1) (zcL<|mCon<|.int 1)<|zcM)<|zab (mBin addE (mVar 1)<|mSlC (mVar 1) (zcL<|mNeg<|mCon<|.int 1)<|zcM)<|zab (zh8 (mVar 1)<|mNeg<|mCon<|.int 1)<|zab (mBin addE (mVar 1)<|mTup<|zab (mCon .non)<|mNil)<|zab (mTup<|zab (mVar 1)<|mNil)<|mNil)<|gNm 2)<|mRet<|zal zax<|zab (mVar 0)<|zab (mVar 2)<|mNil)<|zcf) (ro n d none) st=some (.nx (ro n d none),s)->isbB d=false->zre d=false->isiB d=false->issB d=false->∃ e st',zbM [.ref n,d] st=some (e,st')/\Got n (m+1) st e st':=by intro s ps fs hs hA h1 h2 h3 h4;obtain⟨e,s9,e9,G⟩:=zgt (m:=m+1) (d:=d) (x:=none) ps;refine⟨e,s9,zbv ?_,G.on fs⟩;show zas (ro n d none) st=_;unfold zas;refine zan hA ?_;refine zan (s2F hs h1 h2) ?_;refine zan (zd8<|tstB<|by rw[zrc hs rfl,h3]) ?_;refine zan (zd8<|tstB<|by rw[zlZ hs rfl,h4]) ?_;exact e9
 have h':=h
 cases h with
 | non =>
   obtain⟨e,s9,e9,G⟩:=zgt (m:=m+1) (d:=.non) (x:=none) hp;refine⟨e,s9,zbv ?_,G⟩;show zas (ro n .non none) st=_;unfold zas;refine zan (zd8<|tstB (by rw[zfq h' rfl];rfl)) ?_;refine zbe<|ifT (orR (tstB (by rw[zte h' rfl];rfl))<|tstB (b:=true) (s1:=st) ?_) e9;show isBD .non .non st=_;rw[zrd];rfl
 | bl b =>
   obtain⟨e,s9,e9,G⟩:=zgt (m:=m+1) (d:=.bl b) (x:=none) hp;refine⟨e,s9,zbv ?_,G⟩;show zas (ro n (.bl b) none) st=_;unfold zas;refine zan (zd8<|tstB (by rw[zfq h' rfl];rfl)) ?_;exact zbe<|ifT (orL<|tstB (by rw[zte h' rfl];rfl)) e9
 | int i hi =>
   obtain⟨b,s1,ec,p1,f1⟩:=zkH (N:=4) (U:=ro n (.int i) none) rfl hp (by decide)<|by decide
   cases b with
   | true =>
     obtain⟨e,s9,e9,G⟩:=zoz p1 hi hm;refine⟨e,s9,zbv ?_,G.on f1⟩;show zas (ro n (.int i) none) st=_;unfold zas;refine zan (zd8<|tstB (by rw[zfq h' rfl];rfl)) ?_;refine zan (s2F h' rfl rfl) ?_;exact zbe<|zoC (tstB (by rw[zrc h' rfl];rfl)) ec e9
   | false =>
     obtain⟨e,s9,e9,G⟩:=zgt (m:=m+1) (d:=.int i) (x:=none) p1;refine⟨e,s9,zbv ?_,G.on f1⟩;show zas (ro n (.int i) none) st=_;unfold zas;refine zan (zd8<|tstB (by rw[zfq h' rfl];rfl)) ?_;refine zan (s2F h' rfl rfl) ?_;refine zan (zoD (tstB (by rw[zrc h' rfl];rfl)) ec) ?_;refine zan (zd8<|tstB (by rw[zlZ (h'.fr f1) rfl];rfl)) ?_;exact e9
 | str z hz ok =>
   obtain⟨b,s1,ec,p1,f1⟩:=zkH (N:=4) (U:=ro n (.str z) none) rfl hp (by decide)<|by decide
   cases b with
   | true =>
     obtain⟨l,s2,ea,e,s9,e9,G⟩:=znq p1 (h'.fr f1) hm;refine⟨e,s9,zbv ?_,G.on f1⟩;show zas (ro n (.str z) none) st=_;unfold zas;refine zan (zd8<|tstB (by rw[zfq h' rfl];rfl)) ?_;refine zan (s2F h' rfl rfl) ?_;refine zan (zd8<|tstB (by rw[zrc h' rfl];rfl)) ?_;exact zbe<|zoC (tstB (by rw[zlZ h' rfl];rfl)) ec<|zan ea e9
   | false =>
     obtain⟨e,s9,e9,G⟩:=zgt (m:=m+1) (d:=.str z) (x:=none) p1;refine⟨e,s9,zbv ?_,G.on f1⟩;show zas (ro n (.str z) none) st=_;unfold zas;refine zan (zd8<|tstB (by rw[zfq h' rfl];rfl)) ?_;refine zan (s2F h' rfl rfl) ?_;refine zan (zd8<|tstB (by rw[zrc h' rfl];rfl)) ?_;refine zan (zoD (tstB (by rw[zlZ h' rfl];rfl)) ec) ?_;exact e9
 | tup ds hl f =>
   obtain⟨b,s1,ec,p1,f1⟩:=zkH (N:=4) (U:=ro n (.tup ds) none) rfl hp (by decide)<|by decide
   cases b with
   | true =>
     obtain⟨l,s2,ea,e,s9,e9,G⟩:=znp p1 (h'.fr f1) hm;refine⟨e,s9,zbv ?_,G.on f1⟩;show zas (ro n (.tup ds) none) st=_;unfold zas;exact zbe<|zoC (tstB (by rw[zfq h' rfl];rfl)) ec<|zan ea e9
   | false=>exact fin s1 p1 f1 (h'.fr f1) (zoD (tstB (by rw[zfq h' rfl];rfl)) ec) rfl rfl rfl rfl
 | lst k xs hk h1=>exact fin st hp (Fr.refl n st) h' (zd8<|tstB (by rw[zfq h' rfl];rfl)) rfl rfl rfl rfl
 | dk k xs hk h1=>exact fin st hp (Fr.refl n st) h' (zd8<|tstB (by rw[zfq h' rfl];rfl)) rfl rfl rfl rfl
end L2.MP.T0
namespace L2.MP.T0
open PySem L2.MP L2.MP.Hn
variable {n m l:Nat}{st:Sto}{d:D}
def zjc{f:D->Option PyData}:∀ {ds:List D} {ps:List PyData},toPs f ds=some ps->ps.length=ds.length
 | [],ps,h=>by cases h;rfl
 | d::ds,ps,h=>by rw[toPs] at h;obtain⟨p,_,h⟩:=zae h;obtain⟨qs,e,h⟩:=zaj h;subst h;simp[zjc e]
theorem zrn:eqZ (.tup []) (.tup []) st=some (.bl true,st):=rfl
def zoR{a:D}{ds:List D}:eqZ (.tup (a::ds)) (.tup []) st=some (.bl false,st):=by
 unfold eqZ orG;have e2:toP 100 st (.tup [])=some (.tuple []):=rfl;unfold eqD
 cases hp:toP 100 st (.tup (a::ds)) with
 | none =>
   rw[Option.bind_none,zbA];rfl
 | some p =>
   rw[toP] at hp;obtain⟨ps,e,h⟩:=zaj hp;subst h;have:=zjc e
   cases ps with
   | nil=>simp at this
   | cons b bs =>
     rw[Ac,e2];rfl
def ro4(n:Nat)(d:D)(k:Int)(x:Option D):Rho:=[some (.ref n),some d,some (.int k),x]
def zdr{k:Int}{x:Option D}(hp:zbU n st)(h:Fit n m st d)(hm:m<=5):∃ e st',mRet (zal zbM<|zab (mVar 0)<|zab (mVar 1)<|mNil) (ro4 n d k x) st=some (.rt e,st')/\Got n (m+1) st e st':=by obtain⟨e,s1,e1,G⟩:=zkK hp h hm;exact⟨e,s1,zbX<|by simpa[ro4] using e1,G⟩
def zhQ(hm:m<=5):∀ (k:Nat) (d:D) (j:Nat) (st:Sto),Fit n m st d->k < j->zbU n st->∃ e st',recG 4 zak j [.ref n,d,.int (k:Int)] st=some (e,st')/\Got n (m+1) st e st':=by
 intro k
 induction k with
 | zero =>
   intro d j st h hj hp;obtain⟨i,rfl⟩:∃ i,j=i+1:=⟨j - 1,by omega⟩
   obtain⟨e,s9,e9,G⟩:=zdr (k:=0) (x:=none) hp h hm;refine⟨e,s9,zbv ?_,G⟩;show zak (recG 4 zak i) (ro4 n d 0 none) st=_;generalize recG 4 zak i=g;unfold zak;exact zbe<|ifT (orL<|tstB (b:=true) (s1:=st) rfl) e9
 | succ k ih =>
   intro d j st h hj hp;obtain⟨i,rfl⟩:∃ i,j=i+1:=⟨j - 1,by omega⟩
   have t1:mTst (mBin eqD (mVar 2)<|mCon<|.int 0) (ro4 n d ((k+1:Nat):Int) none) st=some (false,st):=by refine tstB ?_;show eqD (.int ((k+1:Nat):Int)) (.int 0) st=_;rw[eq_int];have:(((k+1:Nat):Int)==0)=false:=beq_false_of_ne (by omega);rw[this]
   have t2:mTst (mIsi "tuple"<|mVar 1) (ro4 n d ((k+1:Nat):Int) none) st=some (istB d,st):=tstB<|zfq h rfl;have t2n:zcN (mTst<|mIsi "tuple"<|mVar 1) (ro4 n d ((k+1:Nat):Int) none) st=some (!istB d,st):=notB<|zfq h rfl
   cases hi:istB d with
   | false =>
     rw[hi] at t2n;obtain⟨e,s9,e9,G⟩:=zdr (k:=((k+1:Nat):Int)) (x:=none) hp h hm;refine⟨e,s9,zbv ?_,G⟩;show zak (recG 4 zak i) (ro4 n d ((k+1:Nat):Int) none) st=_;generalize recG 4 zak i=g;unfold zak;exact zbe<|ifT (orR t1<|orL t2n) e9
   | true =>
     rw[hi] at t2n;obtain⟨ds,rfl⟩:∃ ds,d=.tup ds:=by
       cases d with
       | tup ds=>exact⟨ds,rfl⟩
       | _=>simp[istB] at hi
     cases ds with
     | nil =>
       obtain⟨e,s9,e9,G⟩:=zdr (k:=((k+1:Nat):Int)) (x:=none) hp h hm;refine⟨e,s9,zbv ?_,G⟩;show zak (recG 4 zak i) (ro4 n (.tup []) ((k+1:Nat):Int) none) st=_;generalize recG 4 zak i=g;unfold zak;exact zbe<|ifT (orR t1<|orR t2n<|orL<|tstB (b:=true) (s1:=st) zrn) e9
     | cons a as =>
       have t3:mTst (mBin eqZ (mVar 1)<|mTup<|mNil) (ro4 n (.tup (a::as)) ((k+1:Nat):Int) none) st=some (false,st):=tstB<|zoR;obtain⟨b,s1,ec,p1,f1⟩:=znb (N:=5) (i:=0) (U:=ro4 n (.tup (a::as)) ((k+1:Nat):Int) none) rfl hp (by decide) (by decide);have h1:=h.fr f1
       cases b with
       | true =>
         obtain⟨e,s9,e9,G⟩:=zdr (k:=((k+1:Nat):Int)) (x:=none) p1 h1 hm;refine⟨e,s9,zbv ?_,G.on f1⟩;show zak (recG 4 zak i) (ro4 n (.tup (a::as)) ((k+1:Nat):Int) none) st=_;generalize recG 4 zak i=g;unfold zak;exact zbe<|ifT (orR t1<|orR t2n<|orR t3 ec) e9
       | false =>
         have hl:=h.ln;have hlp:0 < (a::as).length:=by simp
         generalize a::as=ds at *;obtain⟨r,s2,e2,r0,r1,p2,f2,_⟩:=zbT (many:=(ds.length:Int)) p1 (by omega) (by omega);have hr:r.toNat < ds.length:=by omega
         have hget:ds[r.toNat]?=some ds[r.toNat]:=Ak hr;have h2:=h1.fr f2;obtain⟨e,s3,e3,G⟩:=ih ds[r.toNat] i s2 (h2.at _<|BK hr) (by omega) p2;have ix:ixA (.tup ds) (.int r) s2=some (ds[r.toNat],s2):=zbs r0 hget;generalize ds[r.toNat]=dr at e3 ix;have l1:=zr7 (ds:=ds) r0 hr;have l2:=zpN (ds:=ds) r0 hr;have a1:∀ s,addE (.tup<|slT ds none<|some r) (.tup [e]) s=some (.tup (slT ds none (some r)++[e]),s):=fun s=>zhF (by simp;omega);have a2:∀ s,addD (.tup<|slT ds none (some r)++[e]) (.tup<|slT ds (some<|r+1) none) s=some (.tup (slT ds none (some r)++[e]++slT ds (some<|r+1) none),s):=fun s=>zgP (by simp) (by simp;omega);have hk1:((k+1:Nat):Int) - 1=(k:Int):=by omega
         refine⟨.tup<|slT ds none (some r)++[e]++slT ds (some<|r+1) none,s3,zbv ?_,⟨?_,G.pot,(f1.trans f2).trans G.fr⟩⟩
         . show zak (recG 4 zak i) (ro4 n (.tup ds) ((k+1:Nat):Int) none) st=_;generalize recG 4 zak i=g at e3;unfold zak;refine zan (ifF<|orR t1<|orR t2n<|orR t3 ec) ?_;have el:lenD [.tup ds] s1=some (.int (ds.length:Int),s1):=zcO;refine zan (U1:=ro4 n (.tup ds) ((k+1:Nat):Int) (some<|.int r)) (s1:=s2) (by
             have ev:zal zag (zab (mVar 0)<|zab (zal lenD<|zab (mVar 1)<|mNil)<|mNil) (ro4 n (.tup ds) ((k+1:Nat):Int) none) s1=some (.int r,s2):=by simp only[ro4,zav,zat,zaK,zaP,B7,CI,Ac,el,e2]
             rw[zaN,ev]
             rfl) ?_
           generalize ((k+1:Nat):Int)=K at *;simp[ro4,zmm,zjp,ix,e3,a1,a2,hk1]
         . refine .tup _ (by simp;omega) fun d hd=>?_
           rcases List.mem_append.mp hd with hd | hd
           . rcases List.mem_append.mp hd with hd | hd
             . exact ((h2.at d<|zft hd).fr G.fr).up<|BM m
             rw[List.mem_singleton.mp hd];exact G.fit
           exact ((h2.at d<|zft hd).fr G.fr).up<|BM m
def zm2{me:ME}{g:MG}{b:MS}{U U':Rho}{st':Sto}{k:Nat}(e:me U st=some (.int (k:Int),st))(hk:k<=1000)(el:zel ⟨run 0 k,[]⟩ g b (run 0 k) U st=some (.nx U',st')):mFor (mR1 me) g b U st=some (.nx U',st'):=by rw[zaL,Hd.zsl e hk];exact el
def zm9{b:Bool}(hn:n < st.length):∃ e st',zbl [.int 55,.bl b] st=some (e,st')/\Fit n 0 st' e/\Gr st st':=by
 have key:=zen (W:=⟨run 0 55,[]⟩) (g:=gNm 3) (m:=zcz) (ds:=run 0 55) (U:=[some (.int 55),some (.bl b),some (.tup []),none]) (st:=st)
   (Inv:=fun i U s=>∃ e x,U=[some (.int 55),some (.bl b),some e,x]/\Fit n 0 s e/\Gr st s) ⟨.tup [],none,rfl,.tup [] (by simp)<|by simp,Gr.refl st⟩ (fun _ _ _ _ _=>rfl) (fun i d U s hd hI=>by
     obtain⟨e,x,rfl,hF,g⟩:=hI
     cases b with
     | true =>
       have g2:=Gr.app s [.lst [e]];have a2:=zbg s<|.lst [e];exact⟨[some (.int 55),some (.bl true),some e,some d],s,[some (.int 55),some (.bl true),some (.ref s.length),some d],s++[.lst [e]],rfl,by unfold zcz;simp[Hd.zpa],_,_,rfl,.lst _ _ a2 (by have:=g.len;omega),g.trans g2⟩
     | false =>
       exact⟨[some (.int 55),some (.bl false),some e,some d],s,[some (.int 55),some (.bl false),some (.tup [e]),some d],s,rfl,by unfold zcz;simp[Hd.zpa],_,_,rfl,.tup _ (by simp) (fun x hx=>by rw[List.mem_singleton.mp hx];exact hF),g⟩)
 obtain⟨U',s',el,e,x,rfl,hF,g⟩:=key;refine⟨e,s',zbv ?_,hF,g⟩;show zdM [some (.int 55),some (.bl b),none,none] st=_;unfold zdM;refine zan (U1:=[some (.int 55),some (.bl b),some (.tup []),none]) (s1:=st) (by simp) ?_;refine zan (zm2 (k:=55) (by simp) (by decide) el) ?_;simp
def Fit.set{l:Nat}{xs ys:List D}(hl:st[l]?=some (.lst xs))(h:Fit n m st d):Fit n m (st.set l<|.lst ys) d:=by
 have hlt:=getElem?_lt hl
 induction h with
 | non=>exact .non
 | bl b=>exact .bl b
 | int i h=>exact .int i h
 | str z h ok=>exact .str z h ok
 | tup ds h f ih=>exact .tup ds h ih
 | lst k zs h h1 =>
   by_cases e:k=l
   . subst e;exact .lst k ys (by rw[Cf hlt]) h1
   exact .lst k zs (by rw[AH (fun q=>e q.symm)];exact h) h1
 | dk k zs h h1 =>
   by_cases e:k=l
   . subst e;rw[hl] at h;cases h
   exact .dk k zs (by rw[AH (fun q=>e q.symm)];exact h) h1
def zl1{ho:House}(h:ho.Ok 12):Fit n 0 st ho.d:=by
 have nm:∀ x:Str,NameOk x->Fit n 0 st (.str x):=fun x hx=>.str x (by have:=hx.hi;omega) fun c hc=>by have:=hx.ab c hc;omega
 have sd:∀ x:Str,zgb (ho.sticks.map (·.1)) x->Fit n 0 st (.str x):=fun x hx=>by
   rcases hx with rfl | hx
   . exact .str _ (by decide)<|by decide
   obtain⟨p,hp,rfl⟩:=List.mem_map.mp hx;exact nm _<|h.names p hp
 have e0:=h.e0;have e1:=h.e1;have few:=h.few;have k1:=h.k1;have b0:big 0=1000000000000000000000000000000:=by unfold big;omega
 unfold House.d;refine .tup _ (by simp) fun d hd=>?_;simp only[AI,AM,or_false] at hd
 rcases hd with rfl | rfl | rfl
 . exact .int _<|by omega
 . refine .tup _ (by rw[Ai];omega) fun d hd=>?_;obtain⟨p,hp,rfl⟩:=List.mem_map.mp hd;have:=h.str p hp;refine .tup _ (by simp) fun d hd=>?_;simp only[AI,AM,or_false] at hd
   rcases hd with rfl | rfl
   . exact nm _<|h.names p hp
   exact .int _<|by omega
 . refine .tup _ (by rw[Ai];omega) fun d hd=>?_;obtain⟨q,hq,rfl⟩:=List.mem_map.mp hd;obtain⟨f,a,b,c,dd,rfl,hf,ha,hb,hc,hdd⟩:=h.kind q hq;refine .tup _ (by simp) fun d hd=>?_;simp only[Ao,Cz,AI,AM,or_false] at hd
   rcases hd with rfl | rfl | rfl | rfl | rfl
   . exact .str _ (by have:=hf.len;omega) fun c hc=>by have:=hf.ab c hc;omega
   . exact sd _ ha
   . exact sd _ hb
   . exact sd _ hc
   exact sd _ hdd
def ziC:List (List Int)->Bool
 | a::b::r=>HT.lexLt a b&&ziC (b::r)
 | _=>true
variable {a b:List Int}
def zgx(h:HT.lexLt a b=true):HT.lexLt b a=false:=by
 cases c:HT.lexLt b a with
 | false=>rfl
 | true =>
   have t:=zc3 a b;unfold tle at t;rw[h,c] at t;cases t
def zs0(h:HT.lexLt a b=true):tle a b=true:=by unfold tle;rw[zgx h];rfl
def zun(h:HT.lexLt a b=true):a≠b:=fun e=>by subst e;rw[zon] at h;cases h
def ztE(h:tle a b=true)(hn:a≠b):HT.lexLt a b=true:=by
 cases c:HT.lexLt a b with
 | true=>rfl
 | false =>
   refine absurd (zg8 h ?_) hn;unfold tle;rw[c];rfl
def zum{c:List Int}(h1:HT.lexLt a b=true)(h2:HT.lexLt b c=true):HT.lexLt a c=true :=
 ztE (zcv a b c (zs0 h1)<|zs0 h2) fun e=>by subst e;rw[zgx h1] at h2;cases h2
def zjx:∀ {as:List (List Int)},ziC as=true ↔ as.Pairwise fun a b=>HT.lexLt a b=true
 | []=>by simp[ziC]
 | [a]=>by simp[ziC]
 | a::b::r=>by
   rw[show ziC (a::b::r)=(HT.lexLt a b&&ziC (b::r)) from rfl,An,zjx (as:=b::r)]
   constructor
   . rintro ⟨h1,h2⟩;refine List.pairwise_cons.mpr ⟨fun x hx=>?_,h2⟩
     rcases List.mem_cons.mp hx with rfl | hx
     . exact h1
     exact zum h1<|(List.pairwise_cons.mp h2).1 x hx
   intro h;have h:=List.pairwise_cons.mp h;exact⟨h.1 b Aj,h.2⟩
variable {ss:List (List Int)}
def zh7{ss:List (List Int)}(nd:ss.Nodup):∀ i,i<=ss.length->met (fun i=>ss.getD i []) i=ss.take i
 | 0,_=>rfl
 | i+1,h=>by
   have hi:i < ss.length:=h;have e:ss.getD i []=ss[i]:=by rw[Ar,Ak hi];rfl
   have hn:ss[i] ∉ ss.take i:=fun hm=>by obtain⟨j,hj,e⟩:=List.mem_iff_getElem.mp hm;rw[A1] at hj;rw[EI] at e;have:=(ER nd).mp e;omega
   rw[met,zh7 nd i (by omega),e,if_neg hn,EF,Ak hi];rfl
def zob(nd:ss.Nodup):zjK ss=ss:=by unfold zjK;rw[zh7 nd _ (Af _),Cc]
def zlz(ss:List (List Int)):(ss=zfO (zjK ss)) ↔ ziC ss=true:=by
 rw[zjx]
 constructor
 . intro e;have p:ss.Perm (zjK ss):=by
     conv=>lhs;rw[e]
     exact Bg _ _
   have nd:ss.Nodup:=(Gm p).mpr<|zdo _ _;have sr:ss.Pairwise fun a b=>tle a b=true:=by rw[e];exact Bd (fun a b c=>zcv a b c) zc3 _
   exact (GS sr nd).imp fun h=>ztE h.1 h.2
 intro h;rw[zob (DF zun h),zfN (C2 ss) (DF zs0 h)]
def zg2(w h n:Int):D->Bool
 | .tup [x,y,k]=>whB 0 (w - 1) x&&(whB 0 (h - 1) y&&whB 0 (n - 1) k)
 | _=>false
def rowP:D->List Int
 | .tup [.int x,.int y,_]=>[x,y]
 | _=>[]
def zgl(w h n:Int):D->Bool
 | .tup ds=>ds.all (zg2 w h n)&&ziC (ds.map rowP)
 | _=>false
def zgg{lo hi:Int}(h:whB lo hi d=true):∃ x:Int,d=.int x:=by
 cases d with
 | int x=>exact⟨x,rfl⟩
 | _=>simp[whB] at h
variable {w h:Int}
def zhK{n:Int}(e:zg2 w h n d=true):∃ x y k:Int,d=.tup [.int x,.int y,.int k]:=by
 unfold zg2 at e
 split at e
 . rename_i x y k;rw[An,An] at e;obtain⟨a,rfl⟩:=zgg e.1;obtain⟨b,rfl⟩:=zgg e.2.1;obtain⟨c,rfl⟩:=zgg e.2.2;exact⟨a,b,c,rfl⟩
 . cases e
open L2.MP.Hb (zfG ty_str ty_int)
def prD(p:Int×Int):D:=.tup [.int p.1,.int p.2]
def ltP(a b:Int×Int):Bool:=HT.lexLt [a.1,a.2] [b.1,b.2]
def zmH(as:List (Int×Int)):Bool:=(as.zip<|as.drop 1).all fun p=>ltP p.1 p.2
def zfR:∀ as:List (Int×Int),zmH as=ziC (as.map fun p=>[p.1,p.2])
 | []=>rfl
 | [a]=>rfl
 | a::b::r=>by
   have ih:=zfR (b::r);show (ltP a b&&zmH (b::r))=(HT.lexLt [a.1,a.2] [b.1,b.2]&&ziC ((b::r).map fun p=>[p.1,p.2]))
   rw[ih];rfl
def zl8(ds:List D):cutD ds (some 1) none=ds.drop 1:=by
 unfold cutD;have h1:HT.sIx ds.length 0 (some 1)=min 1 ds.length:=by unfold HT.sIx;simp
 have h2:HT.sIx ds.length ds.length none=ds.length:=rfl;rw[h1,h2]
 cases ds with
 | nil=>rfl
 | cons a r =>
   have:min 1 (a::r).length=1:=by simp
   rw[this];simp
def zlx{as:List (Int×Int)}(hl:st[l]?=some (.lst<|as.map prD))(hn:as.length<=10000):∃ st',zgT [.ref l] st=some (.bl (zmH as),st')/\Gr st st':=by
 have hll:=getElem?_lt hl;have es:slC (.ref l) (some 1) none st=some (.ref st.length,st++[.lst ((as.drop 1).map prD)]):=by
   have:slD (.ref l) (some 1) none st=some (.ref st.length,st++[.lst ((as.drop 1).map prD)]):=by show (zbY st l).map _=_;simp only[zbY,hl,Ag,zl8];rw[Gd]
   unfold slC slB slA;rw[this,zbo,zbo,zbo]
 have a1:(st++[O.lst ((as.drop 1).map prD)])[l]?=some (.lst<|as.map prD):=by rw[Az hll];exact hl
 have a2:=zbg st<|.lst<|(as.drop 1).map prD;have g1:=Gr.app st [.lst ((as.drop 1).map prD)];generalize hs1:st++[O.lst ((as.drop 1).map prD)]=s1 at *;have ep:pairD (as.map prD) ((as.drop 1).map prD)=(as.zip<|as.drop 1).map fun p=>D.tup [prD p.1,prD p.2]:=by unfold pairD;rw[HM,A9];rfl
 have ez:zipW (.ref l) (.ref st.length) s1=some (⟨(as.zip<|as.drop 1).map fun p=>D.tup [prD p.1,prD p.2],[(l,as.map prD),(st.length,(as.drop 1).map prD)]⟩,s1):=by unfold zipW;simp only[seqD,zbY,a1,a2,Ag,Ac,ep];rfl
 have hw:walked ⟨(as.zip<|as.drop 1).map fun p=>D.tup [prD p.1,prD p.2],[(l,as.map prD),(st.length,(as.drop 1).map prD)]⟩ s1=true:=by have w1:=zcY (ds:=[]) a1;have w2:=zcY (ds:=[]) a2;unfold walked at w1 w2 ⊢;simp only[Bz,Gz,DO] at w1 w2 ⊢;rw[w1,w2];rfl
 have ec:=zhA (W:=⟨(as.zip<|as.drop 1).map fun p=>D.tup [prD p.1,prD p.2],[(l,as.map prD),(st.length,(as.drop 1).map prD)]⟩) (g:=gTp 2 (gC (gNm 0)<|gC (gNm 1)<|gN0)) (c:=zcV) (m:=zc6) (f:=fun p:(Int×Int)×(Int×Int)=>D.tup [prD p.1,prD p.2]) (h:=fun p:(Int×Int)×(Int×Int)=>D.bl (ltP p.1 p.2)) (R:=fun r=>∃ x y,r=[x,y]) (as:=as.zip (as.drop 1)) (U:=[none,none]) (st:=s1) ⟨_,_,rfl⟩ hw (fun p hp r hr=>by obtain⟨x,y,rfl⟩:=hr;refine⟨[some (prD p.1),some (prD p.2)],rfl,rfl,?_,_,_,rfl⟩;have:ltB (prD p.1) (prD p.2) s1=some (.bl (ltP p.1 p.2),s1):=rfl;unfold zc6;simp[this])
 have fl:fits ((as.zip<|as.drop 1).map fun p=>D.bl (ltP p.1 p.2)).length=true:=zaH (by rw[Ai,Fu];omega);refine⟨_,zbv ?_,g1.trans<|Gr.app s1 [.lst ((as.zip<|as.drop 1).map fun p=>D.bl (ltP p.1 p.2))]⟩;have ecm:zdR (mZip (mVar 0)<|mSlC (mVar 0) (zcL<|mCon<|.int 1)<|zcM) 2 [] (gTp 2<|gC (gNm 0)<|gC (gNm 1)<|gN0) zcV zc6 [some (.ref l)] st=some (.ref s1.length,s1++[.lst ((as.zip<|as.drop 1).map fun p=>D.bl (ltP p.1 p.2))]):=by
   have ezz:mZip (mVar 0) (mSlC (mVar 0) (zcL<|mCon<|.int 1)<|zcM) [some (.ref l)] st=some (⟨(as.zip<|as.drop 1).map fun p=>D.tup [prD p.1,prD p.2],[(l,as.map prD),(st.length,(as.drop 1).map prD)]⟩,s1):=by
     rw[za0];have e2:mSlC (mVar 0) (zcL<|mCon<|.int 1) zcM [some (.ref l)] st=some (.ref st.length,s1):=by unfold mSlC;simp[es]
     have v0:mVar 0 [some (.ref l)] st=some (.ref l,st):=rfl;rw[v0,Ac,e2,Ac,ez]
   rw[zaw,ezz];simp only[Ac];rw[show rho0 [some (.ref l)] 2 []=[none,none] from rfl,ec];simp only[Ac,fl,if_true]
 have ea:=zpb<|zbg s1<|.lst<|(as.zip<|as.drop 1).map fun p=>D.bl (ltP p.1 p.2);unfold zkX zmH;show mRet _ [some (.ref l)] st=_;rw[zaX];simp only[zav,zat,zaK,ecm,Ac,ea,Ag]
structure BedAt(B:D)(w h:Int)(KN:Nat):Prop where
 fl:∀ s:Sto,ixA B (.int 1) s=some (.tup [.int w,.int h],s)
 kd:∃ (H:D) (ks:List D),(∀ s:Sto,ixA B (.int 0) s=some (H,s))/\(∀ s:Sto,ixA H (.int 2) s=some (.tup ks,s))/\ks.length=KN
def tup3(h:tupB 3 d=true):∃ x y k,d=.tup [x,y,k]:=by
 cases d with
 | tup ds =>
   have:ds.length=3:=by have:=eq_of_beq h;omega
   match ds,this with
   | [x,y,k],_=>exact⟨x,y,k,rfl⟩
 | _=>simp[tupB] at h
def zmy{n:Int}(e:tupB 3 d=false):zg2 w h n d=false:=by
 cases hc:zg2 w h n d with
 | false=>rfl
 | true =>
   obtain⟨x,y,k,rfl⟩:=zhK hc;simp[tupB] at e
section
variable {B:D} {KN:Nat}
def zn0{x y:D}(c:BedAt B w h KN)(hx:Fit n m st x)(hy:Fit n m st y):zff [B,.tup [x,y]] st=some (.bl (whB 0 (w - 1) x&&whB 0 (h - 1) y),st):=by
 have et:zbf [.tup [x,y],.int 2] st=some (.bl true,st):=rfl;have i1:=c.fl st;have j0:ixA (.tup [.int w,.int h]) (.int 0) st=some (.int w,st):=zbs (by decide) rfl;have j1:ixA (.tup [.int w,.int h]) (.int 1) st=some (.int h,st):=zbs (by decide) rfl;have x0:ixA (.tup [x,y]) (.int 0) st=some (x,st):=zbs (by decide) rfl;have x1:ixA (.tup [x,y]) (.int 1) st=some (y,st):=zbs (by decide) rfl;have w0:=zdd (lo:=0) (hi:=w - 1) hx;have w1:=zdd (lo:=0) (hi:=h - 1) hy;refine zbv ?_;unfold zg0;show mSeq _ _ [some B,some (.tup [x,y]),none] st=_;refine zan (U1:=[some B,some (.tup [x,y]),some (.tup [.int w,.int h])]) (s1:=st) (by simp[i1]) ?_;generalize D.tup [x,y]=P at *;generalize D.tup [.int w,.int h]=F at *
 cases hh:whB 0 (w - 1) x with
 | true=>rw[hh] at w0;simp[et,x0,j0,w0,x1,j1,w1]
 | false=>rw[hh] at w0;simp[et,x0,j0,w0]
def zpy(c:BedAt B w h KN)(hd:Fit n m st d):zgc [B,d] st=some (.bl (zg2 w h KN d),st):=by
 obtain⟨H,ks,i0,i2,hl⟩:=c.kd;have et:=zdZ (N:=3) hd;have el:lenD [.tup ks] st=some (.int (KN:Int),st):=by rw[zcO,hl]
 have j0:=i0 st;have j2:=i2 st;refine zbv ?_;unfold zir;show mSeq _ _ [some B,some d,none] st=_;refine zan (U1:=[some B,some d,some (.tup ks)]) (s1:=st) (by simp[j0,j2]) ?_
 cases h3:tupB 3 d with
 | false =>
   rw[h3] at et;rw[zmy h3];generalize D.tup ks=KS at *;simp[et]
 | true =>
   rw[h3] at et;obtain⟨x,y,k,rfl⟩:=tup3 h3;have es:∀ U:Option D,mSlC (mVar 1) zcM (zcL<|mCon<|.int 2) [some B,some (.tup [x,y,k]),U] st=some (.tup [x,y],st):=fun U=>rfl;have ep:=zn0 c (hd.at x<|by simp) (hd.at y<|by simp);have x2:ixA (.tup [x,y,k]) (.int 2) st=some (k,st):=zbs (by decide) rfl;have w1:=zdd (lo:=0) (hi:=(KN:Int) - 1) (hd.at k<|by simp);show _=some (Fl.rt (.bl<|whB 0 (w - 1) x&&(whB 0 (h - 1) y&&whB 0 ((KN:Int) - 1) k)),st);rw[<-Bool.and_assoc];generalize D.tup ks=KS at *;generalize D.tup [x,y,k]=P at *;generalize D.tup [x,y]=P2 at *;generalize mSlC (mVar 1) zcM (zcL<|mCon<|.int 2)=M1 at *
   cases hh:(whB 0 (w - 1) x&&whB 0 (h - 1) y) with
   | true=>rw[hh] at ep;simp[et,es,ep,x2,el,w1]
   | false=>rw[hh] at ep;simp[et,es,ep]
end
end L2.MP.T0
namespace L2.MP.T0
open PySem L2.MP L2.MP.Hn
def tD3(t:Tl):D:=.tup [.int t.1,.int t.2.1,.int t.2.2]
variable {w h:Int}
def zeP{w h n:Int}:∀ {ds:List D},ds.all (zg2 w h n)=true->∃ T:List Tl,ds=T.map tD3
 | [],_=>⟨[],rfl⟩
 | d::ds,e=>by rw[Bz,An] at e;obtain⟨x,y,k,rfl⟩:=zhK e.1;obtain⟨T,rfl⟩:=zeP e.2;exact⟨(x,y,k)::T,rfl⟩
variable {d:D}
def zji{n:Int}(e:istB d=false):zgl w h n d=false:=by cases d <;> first | rfl | cases e
def zgn(T:List Tl):(T.map tD3).map rowP=(T.map fun t=>(t.1,t.2.1)).map fun p=>[p.1,p.2]:=by rw[A9,A9];rfl
variable {n m KN:Nat}{st:Sto}
section
variable {B:D}
def zix(c:BedAt B w h KN)(hd:Fit n m st d)(hm:m<=5):∃ st',zcR [B,d] st=some (.bl (zgl w h KN d),st')/\Gr st st':=by
 have ei:=zfq (U:=[some B,some d]) (i:=1) hd rfl
 cases hs:istB d with
 | false =>
   rw[hs] at ei;refine⟨st,zbv ?_,Gr.refl st⟩;unfold zcS;rw[zji hs];exact zbe<|ifT (orL<|notB ei) rfl
 | true =>
   rw[hs] at ei
   cases hd with
   | tup ds hl f =>
     obtain⟨s1,ea,g1⟩:=zdj (mi:=mWA (mVar 1)) (b:=zg2 w h KN) (as:=ds) (fr:=[0]) (m:=zcX) (U0:=[some B]) (U:=[some B,some (.tup ds)]) (st:=st) (gd:=[]) rfl (fun _ _=>rfl) rfl (by omega) (fun x hx s g=>by have e1:=zpy c ((f x hx).gr g);refine⟨s,?_,Gr.refl s⟩;unfold zcX;simp[e1])
     show ∃ st',zcR [B,.tup ds] st=some (.bl (ds.all (zg2 w h KN)&&ziC (ds.map rowP)),st')/\Gr st st'
     cases hall:ds.all (zg2 w h KN) with
     | false =>
       rw[hall] at ea;refine⟨s1,zbv ?_,g1⟩;unfold zcS;exact zbe<|ifT (orR (notB ei)<|notB ea) rfl
     | true =>
       rw[hall] at ea;obtain⟨T,rfl⟩:=zeP hall;rw[zgn,<-zfR];rw[Ai] at hl;have ec:=zhA (W:=⟨T.map tD3,[]⟩) (g:=gNm 0) (c:=zcV) (m:=zcb) (f:=tD3) (h:=fun t:Tl=>prD (t.1,t.2.1)) (R:=fun r=>∃ x,r=[x]) (as:=T) (U:=[none]) (st:=s1) ⟨_,rfl⟩ rfl (fun p hp r hr=>by obtain⟨x,rfl⟩:=hr;exact⟨[some (tD3 p)],rfl,rfl,rfl,_,rfl⟩)
       have fl:fits (T.map fun t:Tl=>prD (t.1,t.2.1)).length=true:=zaH (by rw[Ai];omega);have ecm:zdR (mWA<|mVar 1) 1 [] (gNm 0) zcV zcb [some B,some (.tup<|T.map tD3)] s1=some (.ref s1.length,s1++[.lst ((T.map fun t=>(t.1,t.2.1)).map prD)]):=by rw[zaw];show (mCI _ _ _ _ _ _ _).bind _=_;rw[show rho0 [some B,some (.tup<|T.map tD3)] 1 []=[none] from rfl];show (mCI ⟨T.map tD3,[]⟩ (gNm 0) zcV zcb (T.map tD3) [none] s1).bind _=_;rw[ec];simp only[Ac,fl,if_true,A9];rfl
       have b1:=zbg s1<|.lst<|(T.map fun t=>(t.1,t.2.1)).map prD;have g2:=Gr.app s1 [.lst ((T.map fun t=>(t.1,t.2.1)).map prD)];generalize s1++[O.lst ((T.map fun t=>(t.1,t.2.1)).map prD)]=s2 at *;obtain⟨s3,e3,g3⟩:=zlx b1 (by rw[Ai];omega);refine⟨s3,zbv ?_,g1.trans<|g2.trans g3⟩;unfold zcS;refine zan (U1:=[some B,some (.tup<|T.map tD3)]) (s1:=s1) (ifF<|orR (notB ei)<|notB ea)<|zbX ?_;simp only[zav,zat,zaK,ecm,Ac,e3,Bc]
   | _=>cases hs
end
structure HsAt(H:D)(KN:Nat):Prop where
 kd:∃ ks:List D,(∀ s:Sto,ixA H (.int 2) s=some (.tup ks,s))/\ks.length=KN
def zhL(d:D):(∃ a b c,d=.tup [a,b,c])\/tupB 3 d=false:=by
 cases h:tupB 3 d with
 | false=>exact .inr rfl
 | true=>exact .inl<|tup3 h
variable {P:D}{x4:Option D}{l k:Nat}{ps:List (Int×Int)}
section
variable {H:D}
def zj7(c:HsAt H KN)(hd:Fit n m st d) :
   zbp [some H,some (.tup [.int w,.int h]),some P,some d,x4] st=if zg2 w h KN d=true then some (.nx [some H,some (.tup [.int w,.int h]),some P,some d,x4],st) else some (.rt (.bl false),st):=by
 have it:=zfq (U:=[some H,some (.tup [.int w,.int h]),some P,some d,x4]) (i:=3) hd rfl;unfold zbp
 cases hs:istB d with
 | false =>
   rw[hs] at it;have:zg2 w h KN d=false:=by cases d <;> first | rfl | cases hs
   rw[this];exact zbe<|ifT (orL<|notB it) rfl
 | true =>
   rw[hs] at it
   rcases zhL d with ⟨x,y,k,rfl⟩ | h3
   . have x0:ixA (.tup [x,y,k]) (.int 0) st=some (x,st):=zbs (by decide) rfl;have x1:ixA (.tup [x,y,k]) (.int 1) st=some (y,st):=zbs (by decide) rfl;have x2:ixA (.tup [x,y,k]) (.int 2) st=some (k,st):=zbs (by decide) rfl;have j0:ixA (.tup [.int w,.int h]) (.int 0) st=some (.int w,st):=zbs (by decide) rfl;have j1:ixA (.tup [.int w,.int h]) (.int 1) st=some (.int h,st):=zbs (by decide) rfl;obtain⟨ks,i2,hl⟩:=c.kd;have i2:=i2 st;have el:lenD [.tup ks] st=some (.int (KN:Int),st):=by rw[zcO,hl]
     have w0:=zdp (lo:=0) (hi:=w - 1) (hd.at x<|by simp);have w1:=zdp (lo:=0) (hi:=h - 1) (hd.at y<|by simp);have w2:=zdp (lo:=0) (hi:=(KN:Int) - 1) (hd.at k<|by simp);have l3:lenD [.tup [x,y,k]] st=some (.int 3,st):=rfl;have ne3:=ne_int 3 3 st;show _=if (whB 0 (w - 1) x&&(whB 0 (h - 1) y&&whB 0 ((KN:Int) - 1) k))=true then _ else _;generalize D.tup ks=KS at *;generalize D.tup [x,y,k]=T at *;generalize D.tup [.int w,.int h]=F at *;have tl:mTst (mBin neD (zal lenD<|zab (mVar 3) mNil)<|mCon<|.int 3) [some H,some F,some P,some T,x4] st=some (false,st):=tstB (b:=false) (by simp[l3,ne3]);have q0:zal zaT (zab (mBin ixA (mVar 3)<|mCon<|.int 0)<|zab (mCon<|.int 0)<|zab (mBin subD (mBin ixA (mVar 1)<|mCon<|.int 0)<|mCon<|.int 1)<|mNil) [some H,some F,some P,some T,x4] st=some (.bl (whB 0 (w - 1) x),st):=by simp[x0,j0,w0]
     have q1:zal zaT (zab (mBin ixA (mVar 3)<|mCon<|.int 1)<|zab (mCon<|.int 0)<|zab (mBin subD (mBin ixA (mVar 1)<|mCon<|.int 1)<|mCon<|.int 1)<|mNil) [some H,some F,some P,some T,x4] st=some (.bl (whB 0 (h - 1) y),st):=by simp[x1,j1,w1]
     have q2:zal zaT (zab (mBin ixA (mVar 3)<|mCon<|.int 2)<|zab (mCon<|.int 0)<|zab (mBin subD (zal lenD<|zab (mBin ixA (mVar 0)<|mCon<|.int 2)<|mNil)<|mCon<|.int 1)<|mNil) [some H,some F,some P,some T,x4] st=some (.bl (whB 0 ((KN:Int) - 1) k),st):=by simp[x2,i2,el,w2]
     generalize whB 0 (w - 1) x=b0 at *;generalize whB 0 (h - 1) y=b1 at *;generalize whB 0 ((KN:Int) - 1) k=b2 at *
     cases b0 with
     | false=>exact zbe<|ifT (orR (notB it)<|orR tl<|notB q0) rfl
     | true =>
       refine zan (ifF<|orR (notB it)<|orR tl<|notB q0) ?_
       cases b1 with
       | false=>exact ifT (orL<|notB q1) rfl
       | true =>
         cases b2 with
         | false=>exact ifT (orR (notB q1)<|notB q2) rfl
         | true=>exact ifF<|orR (notB q1)<|notB q2
   . cases d with
     | tup ds =>
       have hne:((ds.length:Int)==3)=false:=h3;have ne3:=ne_int (ds.length:Int) 3 st;rw[hne] at ne3;have el:lenD [.tup ds] st=some (.int ds.length,st):=zcO;rw[zmy h3];exact zbe<|ifT (orR (notB it)<|orL<|tstB (b:=true)<|by simp[el,ne3]) rfl
     | _=>cases hs
def zfy{W:List D}{P:D}{x4:Option D}(c:HsAt H KN):∀ (ds:List D) (x:Option D),(∀ d∈ds,Fit n m st d) ->
   ∃ x',zel ⟨W,[]⟩ (gNm 3) zbp ds [some H,some (.tup [.int w,.int h]),some P,x,x4] st=if ds.all (zg2 w h KN)=true then some (.nx [some H,some (.tup [.int w,.int h]),some P,x',x4],st) else some (.rt (.bl false),st)
 | [],x,_=>⟨x,by unfold zel;rfl⟩
 | d::ds,x,hf=>by
   have e1:=zj7 (w:=w) (h:=h) (P:=P) (x4:=x4) c<|hf d Aj
   cases hb:zg2 w h KN d with
   | false =>
     rw[hb] at e1;refine⟨x,?_⟩;rw[Bz,hb];exact zj9 rfl rfl e1
   | true =>
     rw[hb] at e1;obtain⟨x',e2⟩:=zfy (W:=W) (P:=P) (x4:=x4) c ds (some d) fun y hy=>hf y (Ah _ hy);refine⟨x',?_⟩;rw[Bz,hb,Bc,<-e2];exact zka rfl rfl e1
def prP(p:Int×Int):PyData:=.tuple [.int p.1,.int p.2]
def zmw{n:Nat}{st:Sto}:∀ ps:List (Int×Int),toPs (toP (n+2) st) (ps.map prD)=some (ps.map prP)
 | []=>rfl
 | p::ps=>by
   have e:toP (n+2) st (prD p)=some (prP p):=by show toP (n+2) st (.tup [.int p.1,.int p.2])=_;rw[toP];simp only[toPs,toP,Ac,Ag];rfl
   rw[Ao,toPs,e,Ac,zmw ps];rfl
def zmx(hl:st[l]?=some (.lst<|ps.map prD)):toP 100 st (.ref l)=some (.list<|ps.map prP):=by rw[toP];simp only[zbY,hl,Ac];rw[zmw];rfl
def zm5:∀ (ss tt:List (Int×Int)),CL (ss.map prP) (tt.map prP)=decide (ss=tt)
 | [],[]=>rfl
 | [],b::tt=>rfl
 | a::ss,[]=>rfl
 | a::ss,b::tt=>by
   rw[Ao,Ao,CL,zm5 ss tt];have e:Bm (prP a) (prP b)=decide (a=b):=by unfold prP;rw[Bm,CL,CL,CL,Bm,Bm,BR];obtain⟨a1,a2⟩:=a;obtain⟨b1,b2⟩:=b;simp
   rw[e,BR];simp
def ztj{ss tt:List (Int×Int)}(hl:st[l]?=some (.lst<|ss.map prD))(hk:st[k]?=some (.lst<|tt.map prD)):eqD (.ref l) (.ref k) st=some (.bl (decide (ss=tt)),st):=by
 unfold eqD;rw[zmx hl,zmx hk];have:Bm (.list<|ss.map prP) (.list<|tt.map prP)=decide (ss=tt):=by rw[Bm];exact zm5 ss tt
 simp only[Ac,Ag,this]
def rwI(p:Int×Int):List Int:=[p.1,p.2]
def zjB(ps:List (Int×Int)):ps.map prD=(ps.map rwI).map tupD:=by rw[A9];rfl
def zqg{a b:List (Int×Int)}(h:a.map rwI=b.map rwI):a=b:=by refine List.map_inj_right (f:=rwI) ?_ |>.mp h;rintro ⟨a,b⟩ ⟨c,d⟩ e;unfold rwI at e;simp at e;rw[e.1,e.2]
def ziB{ts:List (List Int)}(h:∀ t∈ts,t∈ps.map rwI):∃ qs:List (Int×Int),ts=qs.map rwI:=by refine⟨ts.map fun t=>(t.getD 0 0,t.getD 1 0),?_⟩;rw[A9];refine (Eh _).symm.trans<|CC fun t ht=>?_;obtain⟨p,_,rfl⟩:=List.mem_map.mp<|h t ht;rfl
def zpK{me:ME}{U:Rho}(em:me U st=some (.ref l,st))(hl:st[l]?=some (.lst<|ps.map prD))(h1:ps.length<=60):∃ qs,zlO me U st=some (.ref st.length,st++[.lst (qs.map prD)])/\(ps=qs ↔ zmH ps=true):=by
 have e0:zmH ps=ziC (ps.map rwI):=zfR ps
 cases ps with
 | nil =>
   refine⟨[],?_,by simp[zmH]⟩;have e1:zok me U st=some (.ref st.length,st++[.lst ((zbz<|once []).map D.str)]):=by unfold zok;simp only[em,Ac,zbY,hl];rfl
   have e2:zbz (once [])=[]:=by have:once []=[]:=rfl;rw[this];unfold zbz;simp
   unfold zlO;rw[e1,e2,zbo];rfl
 | cons p ps =>
   have hmem:∀ t∈zfO (zjK<|(p::ps).map rwI),t∈(p::ps).map rwI:=fun t ht=>by have h2:t∈zjK ((p::ps).map rwI):=(Bg _ _).mem_iff.mp ht;unfold zjK at h2;obtain⟨j,hj,ej⟩:=(zoj _).mp h2;rw[<-ej,Ar,Ak hj];exact BK hj
   obtain⟨qs,hq⟩:=ziB hmem;refine⟨qs,?_,?_⟩
   . have es:zok me U st=none:=by
       unfold zok;simp only[em,Ac,zbY,hl];rfl
     have hr:rowsOf ((p::ps).map prD)=some ((p::ps).map rwI):=by
       rw[zjB];exact zeW fun r hr=>by obtain⟨p,_,rfl⟩:=List.mem_map.mp hr;simp[rwI]
     have hlen:((p::ps).map rwI).length < 63:=by rw[Ai];omega
     unfold zlO zsZ zjj;rw[es,em];simp only[Ac,zbY,hl,hr,decide_eq_true hlen,if_true,hq,zbA];rw[zjB]
   rw[e0,<-zlz,hq];exact⟨fun e=>by rw[e],fun e=>zqg e⟩
def zht(c:HsAt H KN)(hd:Fit n m st d)(hm:m<=5):∃ st',zbx [H,.tup [.int w,.int h],d] st=some (.bl (zgl w h KN d),st')/\Gr st st':=by
 have ei:=zfq (U:=[some H,some (.tup [.int w,.int h]),some d,none,none]) (i:=2) hd rfl
 cases hs:istB d with
 | false =>
   rw[hs] at ei;refine⟨st,zbv ?_,Gr.refl st⟩;unfold zby;rw[zji hs];exact zbe<|ifT (notB ei) rfl
 | true =>
   rw[hs] at ei
   cases hd with
   | tup ds hl f =>
     show ∃ st',zbx [H,.tup [.int w,.int h],.tup ds] st=some (.bl (ds.all (zg2 w h KN)&&ziC (ds.map rowP)),st')/\Gr st st';obtain⟨x',lp⟩:=zfy (w:=w) (h:=h) (W:=ds) (P:=.tup ds) (x4:=none) c ds none f;have fr1:∀ (U:Rho),U[2]?=some (some<|.tup ds)->mWA (mVar 2) U st=some (⟨ds,[]⟩,st):=fun U e=>by unfold mWA;simp[e,zmq,zbo]
     have fr:=fr1 [some H,some (.tup [.int w,.int h]),some (.tup ds),none,none] rfl
     cases hall:ds.all (zg2 w h KN) with
     | false =>
       rw[hall] at lp;refine⟨st,zbv ?_,Gr.refl st⟩;unfold zby;refine zan (ifF<|notB ei)<|zbe ?_;rw[zaL]
       erw[fr]
       exact lp
     | true =>
       rw[hall] at lp;obtain⟨T,rfl⟩:=zeP hall;rw[zgn,<-zfR];rw[Ai] at hl;have ec:=zhA (W:=⟨T.map tD3,[]⟩) (g:=gTp 3 (gC (gNm 0)<|gC (gNm 1)<|gC (gNm 2)<|gN0)) (c:=zcV) (m:=zbJ) (f:=tD3) (h:=fun t:Tl=>prD (t.1,t.2.1)) (R:=fun r=>∃ x y z,r=[x,y,z]) (as:=T) (U:=[none,none,none]) (st:=st) ⟨_,_,_,rfl⟩ rfl (fun p hp r hr=>by obtain⟨x,y,z,rfl⟩:=hr;exact⟨[some (.int p.1),some (.int p.2.1),some (.int p.2.2)],rfl,rfl,rfl,_,_,_,rfl⟩)
       have fl:fits (T.map fun t:Tl=>prD (t.1,t.2.1)).length=true:=zaH (by rw[Ai];omega);have ecm:zdR (mWA<|mVar 2) 3 [] (gTp 3<|gC (gNm 0)<|gC (gNm 1)<|gC (gNm 2)<|gN0) zcV zbJ [some H,some (.tup [.int w,.int h]),some (.tup<|T.map tD3),x',none] st=some (.ref st.length,st++[.lst ((T.map fun t=>(t.1,t.2.1)).map prD)]):=by rw[zaw,fr1 _ rfl];simp only[Ac];rw[show rho0 [some H,some (.tup [.int w,.int h]),some (.tup<|T.map tD3),x',none] 3 []=[none,none,none] from rfl,ec];simp only[Ac,fl,if_true,A9];rfl
       have b1:=zbg st<|.lst<|(T.map fun t=>(t.1,t.2.1)).map prD;have g2:=Gr.app st [.lst ((T.map fun t=>(t.1,t.2.1)).map prD)];generalize st++[O.lst ((T.map fun t=>(t.1,t.2.1)).map prD)]=s2 at *;have hlen:(T.map fun t=>(t.1,t.2.1)).length<=60:=by rw[Ai];omega
       generalize T.map (fun t=>(t.1,t.2.1))=ps at *;obtain⟨qs,es,hq⟩:=zpK (me:=mVar 4) (U:=[some H,some (.tup [.int w,.int h]),some (.tup<|T.map tD3),x',some (.ref st.length)]) rfl b1 hlen;have b2:(s2++[O.lst (qs.map prD)])[st.length]?=some (.lst<|ps.map prD):=by rw[Az (getElem?_lt b1)];exact b1
       have b3:=zbg s2<|.lst<|qs.map prD;have g3:=Gr.app s2 [.lst (qs.map prD)];generalize s2++[O.lst (qs.map prD)]=s3 at *;have eqq:=ztj b2 b3;have hdq:decide (ps=qs)=zmH ps:=by rw[BR,decide_eq_true_iff];exact hq
       rw[hdq] at eqq;refine⟨s3,zbv ?_,g2.trans g3⟩;unfold zby;refine zan (ifF<|notB ei)<|zan (U1:=[some H,some (.tup [.int w,.int h]),some (.tup<|T.map tD3),x',none]) (s1:=st) ?_<|zan (U1:=[some H,some (.tup [.int w,.int h]),some (.tup<|T.map tD3),x',some (.ref st.length)]) (s1:=s2) ?_<|zbX ?_
       . rw[zaL]
         erw[fr]
         exact lp
       . rw[zaN,ecm];rfl
       have v4:mVar 4 [some H,some (.tup [.int w,.int h]),some (.tup<|T.map tD3),x',some (.ref st.length)] s2=some (.ref st.length,s2):=rfl;rw[zaM,v4];simp only[Ac,es,eqq,Bc]
   | _=>cases hs
end
def zeA:D->Bool
 | .tup [x,y]=>whB 1 12 x&&whB 1 12 y
 | _=>false
def fwO:D->Int
 | .tup [.int x,_]=>x
 | _=>0
def fhO:D->Int
 | .tup [_,.int y]=>y
 | _=>0
def knO:D->Nat
 | .tup [_,_,.tup ks]=>ks.length
 | _=>0
def bedB:D->Bool
 | .tup [h,f,s]=>zey h&&(zeA f&&zgl (fwO f) (fhO f) (knO h) s)
 | _=>false
def zi5(d:D):(∃ x y,d=.tup [x,y])\/(tupB 2 d=false/\zeA d=false):=by
 cases d with
 | tup ds =>
   match ds with
   | [x,y]=>exact .inl ⟨x,y,rfl⟩
   | []=>exact .inr ⟨rfl,rfl⟩
   | [x]=>exact .inr ⟨rfl,rfl⟩
   | x::y::z::r =>
     refine .inr ⟨?_,rfl⟩;have:((x::y::z::r).length:Int)≠2:=by rw[AA,AA,AA];omega
     exact beq_false_of_ne this
 | _=>exact .inr ⟨rfl,rfl⟩
def zhM(d:D):(∃ x y z,d=.tup [x,y,z])\/(tupB 3 d=false/\bedB d=false):=by
 rcases zhL d with h | h
 . exact .inl h
 . refine .inr ⟨h,?_⟩
   cases hc:bedB d with
   | false=>rfl
   | true =>
     unfold bedB at hc
     split at hc
     . cases h
     . cases hc
def zgF(h:zeA d=true):∃ x y:Int,d=.tup [.int x,.int y]:=by
 rcases zi5 d with ⟨x,y,rfl⟩ | ⟨_,h'⟩
 . have h:(whB 1 12 x&&whB 1 12 y)=true:=h;rw[An] at h;obtain⟨a,rfl⟩:=zgg h.1;obtain⟨b,rfl⟩:=zgg h.2;exact⟨a,b,rfl⟩
 rw[h'] at h;cases h
def zgD(h:zey d=true):∃ (e s:D) (ks:List D),d=.tup [e,s,.tup ks]:=by
 rcases zg9 d with ⟨e,s,k,rfl⟩ | ⟨_,h'⟩
 . have h:(whB 1 4 e&&(zeS s&&zhw (nsOf s) k))=true:=h;rw[An,An] at h
   cases k with
   | tup ks=>exact⟨e,s,ks,rfl⟩
   | _=>simp[zhw] at h
 rw[h'] at h;cases h
def zoM(h:Fit n m st d):zdW [d] st=some (.bl (zeA d),st):=by
 have et:=zdZ (N:=2) h;refine zbv ?_;unfold zg1;show mRet _ [some d] st=_
 rcases zi5 d with ⟨x,y,rfl⟩ | ⟨h1,h2⟩
 . have x0:ixA (.tup [x,y]) (.int 0) st=some (x,st):=zbs (by decide) rfl;have x1:ixA (.tup [x,y]) (.int 1) st=some (y,st):=zbs (by decide) rfl;have w0:=zdd (lo:=1) (hi:=12) (h.at x<|by simp);have w1:=zdd (lo:=1) (hi:=12) (h.at y<|by simp);have hb:tupB 2 (.tup [x,y])=true:=rfl;rw[hb] at et;show _=some (Fl.rt (.bl<|whB 1 12 x&&whB 1 12 y),st);generalize D.tup [x,y]=P at *
   cases hh:whB 1 12 x with
   | true=>rw[hh] at w0;simp[et,x0,w0,x1,w1]
   | false=>rw[hh] at w0;simp[et,x0,w0]
 rw[h1] at et;rw[h2];simp[et]
def ztq(h:Fit n m st d)(hm:m<=5):∃ st',zgf [d] st=some (.bl (bedB d),st')/\Gr st st':=by
 have et:=zdZ (N:=3) h
 rcases zhM d with ⟨x,f,s,rfl⟩ | ⟨h1,h2⟩
 . have x0:∀ t:Sto,ixA (.tup [x,f,s]) (.int 0) t=some (x,t):=fun t=>zbs (by decide) rfl;have x1:∀ t:Sto,ixA (.tup [x,f,s]) (.int 1) t=some (f,t):=fun t=>zbs (by decide) rfl;have x2:∀ t:Sto,ixA (.tup [x,f,s]) (.int 2) t=some (s,t):=fun t=>zbs (by decide) rfl;have fx:=h.at x (by simp);have ff:=h.at f (by simp);have fs:=h.at s (by simp);obtain⟨s1,e1,g1⟩:=zoF fx hm;have e2:=zoM<|ff.gr g1;have hb:tupB 3 (.tup [x,f,s])=true:=rfl;rw[hb] at et;have t0:zal zbf (zab (mVar 0)<|zab (mCon<|.int 3)<|mNil) [some (.tup [x,f,s])] st=some (.bl true,st):=by
     generalize D.tup [x,f,s]=P at *;simp[et]
   have t1:zal zc0 (zab (mBin ixA (mVar 0)<|mCon<|.int 0)<|mNil) [some (.tup [x,f,s])] st=some (.bl (zey x),s1):=by generalize D.tup [x,f,s]=P at *;simp[x0,e1]
   have t2:zal zdW (zab (mBin ixA (mVar 0)<|mCon<|.int 1)<|mNil) [some (.tup [x,f,s])] s1=some (.bl (zeA f),s1):=by generalize D.tup [x,f,s]=P at *;simp[x1,e2]
   show ∃ st',zgf [.tup [x,f,s]] st=some (.bl (zey x&&(zeA f&&zgl (fwO f) (fhO f) (knO x) s)),st')/\Gr st st'
   cases hx:zey x with
   | false =>
     rw[hx] at t1;refine⟨s1,zbv ?_,g1⟩;unfold zfh;exact zbe<|ifT (orR (notB t0)<|orL<|notB t1) rfl
   | true =>
     rw[hx] at t1
     cases hf:zeA f with
     | false =>
       rw[hf] at t2;refine⟨s1,zbv ?_,g1⟩;unfold zfh;exact zbe<|ifT (orR (notB t0)<|orR (notB t1)<|notB t2) rfl
     | true =>
       rw[hf] at t2;obtain⟨w,hh,rfl⟩:=zgF hf;obtain⟨e,ss,ks,rfl⟩:=zgD hx;have c:BedAt (.tup [.tup [e,ss,.tup ks],.tup [.int w,.int hh],s]) w hh ks.length:=⟨x1,_,ks,x0,fun t=>zbs (by decide) rfl,rfl⟩
       obtain⟨s2,e3,g2⟩:=zix c (fs.gr g1) hm;refine⟨s2,zbv ?_,g1.trans g2⟩;unfold zfh;refine zan (ifF<|orR (notB t0)<|orR (notB t1)<|notB t2)<|zbX ?_;show zal _ _ [some (.tup [.tup [e,ss,.tup ks],.tup [.int w,.int hh],s])] s1=some (.bl (zgl w hh ks.length s),s2);have x2':=x2 s1;generalize D.tup [.tup [e,ss,.tup ks],.tup [.int w,.int hh],s]=P at *;simp[x2',e3]
 . rw[h1] at et;rw[h2];refine⟨st,zbv ?_,Gr.refl st⟩;unfold zfh;exact zbe (ifT (orL (notB (s1:=st) (b:=false) (by
     show zal _ _ [some d] st=_;simp[et]))) rfl)
def zq5(h:Fit n m st d)(hm:m<=5):∃ st',zcA [d] st=some (.bl (bedB d),st')/\Gr st st':=by
 have it:=zfq (U:=[some d]) (i:=0) h rfl
 cases hs:istB d with
 | false =>
   rw[hs] at it;have:bedB d=false:=by cases d <;> first | rfl | cases hs
   rw[this];refine⟨st,zbv ?_,Gr.refl st⟩;unfold zbk;exact zbe<|ifT (orL<|notB it) rfl
 | true =>
   rw[hs] at it
   rcases zhM d with ⟨x,f,s,rfl⟩ | ⟨h1,h2⟩
   . have x0:∀ t:Sto,ixA (.tup [x,f,s]) (.int 0) t=some (x,t):=fun t=>zbs (by decide) rfl;have x1:∀ t:Sto,ixA (.tup [x,f,s]) (.int 1) t=some (f,t):=fun t=>zbs (by decide) rfl;have x2:∀ t:Sto,ixA (.tup [x,f,s]) (.int 2) t=some (s,t):=fun t=>zbs (by decide) rfl;have fx:=h.at x (by simp);have ff:=h.at f (by simp);have fs:=h.at s (by simp);have el:lenD [.tup [x,f,s]] st=some (.int 3,st):=rfl;have ne3:=ne_int 3 3 st;obtain⟨s1,e1,g1⟩:=zlQ fx hm;have ff1:=ff.gr g1;show ∃ st',zcA [.tup [x,f,s]] st=some (.bl (zey x&&(zeA f&&zgl (fwO f) (fhO f) (knO x) s)),st')/\Gr st st';generalize D.tup [x,f,s]=P at *;have tl:mTst (mBin neD (zal lenD<|zab (mVar 0) mNil)<|mCon<|.int 3) [some P] st=some (false,st):=tstB (b:=false) (by simp[el,ne3]);have t1:zal zbr (zab (mBin ixA (mVar 0)<|mCon<|.int 0)<|mNil) [some P] st=some (.bl (zey x),s1):=by simp[x0,e1]
     cases hx:zey x with
     | false =>
       rw[hx] at t1;refine⟨s1,zbv ?_,g1⟩;unfold zbk;exact zbe<|ifT (orR (notB it)<|orR tl<|notB t1) rfl
     | true =>
       rw[hx] at t1;have i0:=ifF (a:=mRet (mCon<|.bl false))<|orR (notB it)<|orR tl<|notB t1;obtain⟨ty,ety,est,_⟩:=zpg ff1;have it1:mIsi "tuple" (mBin ixA (mVar 0)<|mCon<|.int 1) [some P] s1=some (.bl (istB f),s1):=by simp[x1,ety,est]
       cases hsf:istB f with
       | false =>
         rw[hsf] at it1;have:zeA f=false:=by cases f <;> first | rfl | cases hsf
         rw[this];refine⟨s1,zbv ?_,g1⟩;unfold zbk;exact zan i0<|zbe<|ifT (orL<|notB it1) rfl
       | true =>
         rw[hsf] at it1
         rcases zi5 f with ⟨a,b,rfl⟩ | ⟨h3,h4⟩
         . have el2:lenD [.tup [a,b]] s1=some (.int 2,s1):=rfl;have ne2:=ne_int 2 2 s1;have hw:mWA (mBin ixA (mVar 0)<|mCon<|.int 1) [some P] s1=some (⟨[a,b],[]⟩,s1):=by
             unfold mWA;simp[x1,zmq,zbo]
           obtain⟨s2,e2,g2⟩:=zdj (mi:=mWA (mBin ixA (mVar 0)<|mCon<|.int 1)) (b:=whB 1 12) (as:=[a,b]) (fr:=[]) (m:=zcH) (U0:=[]) (U:=[some P]) (st:=s1) (gd:=[]) hw (fun _ _=>rfl) rfl (by simp) (fun z hz t g=>by have ez:=zdp (lo:=1) (hi:=12) ((ff1.at z hz).gr g);refine⟨t,?_,Gr.refl t⟩;unfold zcH;simp[ez])
           have hfl:[a,b].all (whB 1 12)=zeA (.tup [a,b]):=by simp[zeA]
           rw[hfl] at e2;have tl2:mTst (mBin neD (zal lenD<|zab (mBin ixA (mVar 0)<|mCon<|.int 1) mNil)<|mCon<|.int 2) [some P] s1=some (false,s1):=tstB (b:=false)<|by simp[x1,el2,ne2]
           cases hf:zeA (.tup [a,b]) with
           | false =>
             rw[hf] at e2;refine⟨s2,zbv ?_,g1.trans g2⟩;unfold zbk;exact zan i0<|zbe<|ifT (orR (notB it1)<|orR tl2<|notB e2) rfl
           | true =>
             rw[hf] at e2;obtain⟨w,hh,ef⟩:=zgF hf;cases ef;obtain⟨e,ss,ks,rfl⟩:=zgD hx;have c:HsAt (.tup [e,ss,.tup ks]) ks.length:=⟨ks,fun t=>zbs (by decide) rfl,rfl⟩
             obtain⟨s3,e3,g3⟩:=zht (w:=w) (h:=hh) c ((fs.gr g1).gr g2) hm;refine⟨s3,zbv ?_,(g1.trans g2).trans g3⟩;unfold zbk;refine zan i0<|zan (ifF<|orR (notB it1)<|orR tl2<|notB e2)<|zbX ?_;show zal _ _ [some P] s2=some (.bl (zgl w hh ks.length s),s3);generalize D.tup [e,ss,.tup ks]=Hh at *;generalize D.tup [.int w,.int hh]=Ff at *;simp[x0,x1,x2,e3]
         . cases f with
           | tup ds =>
             have hne:((ds.length:Int)==2)=false:=h3;have ne2:=ne_int (ds.length:Int) 2 s1;rw[hne] at ne2;have el2:lenD [.tup ds] s1=some (.int ds.length,s1):=zcO;rw[h4];refine⟨s1,zbv ?_,g1⟩;unfold zbk;exact zan i0<|zbe<|ifT (orR (notB it1)<|orL<|tstB (b:=true)<|by simp[x1,el2,ne2]) rfl
           | _=>cases hsf
   . cases d with
     | tup ds =>
       have hne:((ds.length:Int)==3)=false:=h1;have ne3:=ne_int (ds.length:Int) 3 st;rw[hne] at ne3;have el:lenD [.tup ds] st=some (.int ds.length,st):=zcO;rw[h2];refine⟨st,zbv ?_,Gr.refl st⟩;unfold zbk;exact zbe<|ifT (orR (notB it)<|orL<|tstB (b:=true)<|by simp[el,ne3]) rfl
     | _=>cases hs
def zqX(b:Bool)(st:Sto):neD (.bl b) (.bl b) st=some (.bl false,st):=by cases b <;> rfl
variable {a0 a1 a5 a6 a7 a8:Option D}{s:Sto}{x:D}
section
variable {R:D}
structure Has(n l:Nat)(R:D)(s:Sto)(k:Nat):Prop where
 pot:zbU n s
 ne:l≠n
 right:Fit n 0 s R
 at_:∃ xs,s[l]?=some (.lst xs)/\xs.length<=k/\∀ x∈xs,Fit n 2 s x
def Has.fr{s s':Sto}{k:Nat}(h:Has n l R s k)(p:zbU n s')(f:Fr n s s'):Has n l R s' k:=by obtain⟨xs,e,hx,hf⟩:=h.at_;exact⟨p,h.ne,h.right.fr f,xs,(f.old l (getElem?_lt e) h.ne).trans e,hx,fun x hx=>(hf x hx).fr f⟩
def Has.add(h:Has n l R s k)(hk:k<=1000)(hx:Fit n 2 s x):∃ s',zdy (.ref l) [x] s=some (.non,s')/\(∃ xs,s[l]?=some (.lst xs))/\Has n l R s' (k+1):=by
 obtain⟨xs,e,hl,hf⟩:=h.at_;have hlt:=getElem?_lt e;refine⟨s.set l<|.lst<|xs++[x],?_,⟨xs,e⟩,?_,h.ne,h.right.set e,xs++[x],by rw[Cf hlt],by simp;omega,fun y hy=>?_⟩
 . unfold zdy;simp only[e];have hs:sizeLine=16777216:=by decide
   rw[if_pos (decide_eq_true<|by omega)]
 . obtain⟨a,b,e1,e2⟩:=h.pot;exact⟨a,b,by rw[AH h.ne];exact e1,e2⟩
 . rcases List.mem_append.mp hy with hy | hy
   . exact (hf y hy).set e
   rw[List.mem_singleton.mp hy];exact hx.set e
def r9(a0 a1:Option D)(n:Nat)(R:D)(l:Nat)(a5 a6 a7 a8:Option D):Rho:=[a0,a1,some (.ref n),some R,some (.ref l),a5,a6,a7,a8]
def zpw(h:Has n l R s k)(hk:k<=1000):∃ b6 s',zgS (r9 a0 a1 n R l a5 a6 a7 a8) s=some (.nx (r9 a0 a1 n R l a5 b6 a7 a8),s')/\Has n l R s' (k+1):=by
 obtain⟨r,s1,e1,r0,r1,p1,f1,_⟩:=zbT (many:=5) h.pot (by decide) (by decide);have h1:=h.fr p1 f1;obtain⟨j,hj⟩:∃ j:Nat,1+r=(j:Int):=⟨(1+r).toNat,by omega⟩
 obtain⟨e,s2,e2,G⟩:=zhQ (n:=n) (m:=0) (by decide) j R 12 s1 h1.right (by omega) p1;have e2':zbu [.ref n,R,.int (1+r)] s1=some (e,s2):=by rw[hj];exact e2
 have h2:=h1.fr G.pot G.fr;have st1:mAsg (zal zbu<|zab (mVar 2)<|zab (mVar 3)<|zab (mBin addD (mCon<|.int 1)<|zal zag<|zab (mVar 2)<|zab (mCon<|.int 5)<|mNil)<|mNil) (gNm 6) (r9 a0 a1 n R l a5 a6 a7 a8) s=some (.nx (r9 a0 a1 n R l a5 (some e) a7 a8),s2):=by simp[r9,e1,e2']
 obtain⟨b,s3,ec,p3,f3⟩:=znb (N:=4) (i:=2) (U:=r9 a0 a1 n R l a5 (some e) a7 a8) rfl h2.pot (by decide) (by decide);have h3:=h2.fr p3 f3;have F3:=G.fit.fr f3;have mid:∃ x s4,mIf (mTst<|mBin eqD (zal zag<|zab (mVar 2)<|zab (mCon<|.int 4)<|mNil)<|mCon<|.int 0) (mAsg (zal zbu<|zab (mVar 2)<|zab (mVar 6)<|zab (mBin addD (mCon<|.int 1)<|zal zag<|zab (mVar 2)<|zab (mCon<|.int 5)<|mNil)<|mNil)<|gNm 6) zcf (r9 a0 a1 n R l a5 (some e) a7 a8) s2=some (.nx (r9 a0 a1 n R l a5 (some x) a7 a8),s4)/\Has n l R s4 k/\Fit n 2 s4 x:=by
   cases b with
   | false=>exact⟨e,s3,ifF ec,h3,F3.up<|by decide⟩
   | true =>
     obtain⟨q,s4,e4,q0,q1,p4,f4,_⟩:=zbT (many:=5) p3 (by decide) (by decide);have h4:=h3.fr p4 f4;obtain⟨i,hi⟩:∃ i:Nat,1+q=(i:Int):=⟨(1+q).toNat,by omega⟩
     obtain⟨x,s5,e5,G5⟩:=zhQ (n:=n) (m:=1) (by decide) i e 12 s4 (F3.fr f4) (by omega) p4;have e5':zbu [.ref n,e,.int (1+q)] s4=some (x,s5):=by rw[hi];exact e5
     exact⟨x,s5,ifT ec<|by simp[r9,e4,e5'],h4.fr G5.pot G5.fr,G5.fit⟩
 obtain⟨x,s4,e4,h4,F4⟩:=mid;obtain⟨s5,e5,⟨xs,hx⟩,h5⟩:=h4.add hk F4;refine⟨some x,s5,?_,h5⟩;unfold zgS;refine zan st1 ?_;refine zan e4 ?_;simp[r9,zbY,hx,e5]
def znm(h:Has n l R s k)(hk:k<=100):∃ b5 b6 s',mFor (mR1<|mCon<|.int 14) (gNm 5) zgS (r9 a0 a1 n R l a5 a6 a7 a8) s=some (.nx (r9 a0 a1 n R l b5 b6 a7 a8),s')/\Has n l R s' (k+14):=by
 have key:=zen (W:=⟨run 0 14,[]⟩) (g:=gNm 5) (m:=zgS) (ds:=run 0 14) (U:=r9 a0 a1 n R l a5 a6 a7 a8) (st:=s)
   (Inv:=fun i U s'=>∃ x y,U=r9 a0 a1 n R l x y a7 a8/\Has n l R s' (k+i)/\i<=14) ⟨_,_,rfl,h,by decide⟩ (fun _ _ _ _ _=>rfl) (fun i d U s' hd hI=>by obtain⟨x,y,rfl,h1,hi⟩:=hI;obtain⟨hi',_⟩:=Hd.zqh hd;obtain⟨b6,s2,e2,h2⟩:=zpw (a0:=a0) (a1:=a1) (a5:=some d) (a6:=y) (a7:=a7) (a8:=a8) h1 (by omega);exact⟨r9 a0 a1 n R l (some d) y a7 a8,s',_,s2,rfl,e2,_,_,rfl,h2,by omega⟩)
 obtain⟨U',s',el,x,y,rfl,h1,_⟩:=key;exact⟨x,y,s',zm2 (k:=14) (by simp) (by decide) el,h1⟩
def zrC(h:Has n l R s k):∃ b7 b8 s',mFor (mWA<|mVar 4) (gNm 7) ziq (r9 a0 a1 n R l a5 a6 a7 a8) s=some (.nx (r9 a0 a1 n R l a5 a6 b7 b8),s'):=by
 obtain⟨xs,e,hl,hf⟩:=h.at_;have key:=zen (W:=⟨xs,[(l,xs)]⟩) (g:=gNm 7) (m:=ziq) (ds:=xs) (U:=r9 a0 a1 n R l a5 a6 a7 a8) (st:=s)
   (Inv:=fun i U s'=>(∃ x y,U=r9 a0 a1 n R l a5 a6 x y)/\Gr s s') ⟨⟨_,_,rfl⟩,Gr.refl s⟩ (fun _ _ _ _ hI=>zcY ((hI.2.old _<|getElem?_lt e).trans e)) (fun i d U s' hd hI=>by obtain⟨⟨x,y,rfl⟩,g⟩:=hI;have F:=(hf d<|AW hd).gr g;obtain⟨s1,e1,g1⟩:=ztq F (by decide);obtain⟨s2,e2,g2⟩:=zq5 (F.gr g1) (by decide);refine⟨r9 a0 a1 n R l a5 a6 (some d) y,s',r9 a0 a1 n R l a5 a6 (some d)<|some<|.bl<|bedB d,s2,rfl,?_,⟨_,_,rfl⟩,(g.trans g1).trans g2⟩;have n1:=zqX (bedB d) s2;generalize bedB d=b at *;unfold ziq;refine zan (U1:=r9 a0 a1 n R l a5 a6 (some d) (some<|.bl b)) (s1:=s1) (by simp[r9,e1]) ?_;simp[r9,zrT,subT,e2,n1])
 obtain⟨U',s',el,⟨x,y,rfl⟩,_⟩:=key;refine⟨x,y,s',?_⟩;have ew:mWA (mVar 4) (r9 a0 a1 n R l a5 a6 a7 a8) s=some (⟨xs,[(l,xs)]⟩,s):=by unfold mWA;simp[r9,zmq,zbY,e,zbo]
 rw[zaL,ew];exact el
end
variable {a4:Option D}
def zk6{ds:List D}(hp:zbU n s)(hF:Fit n 0 s (.tup ds))(hne:ds≠[])(h3:ds.length<=3):∃ l s',mSeq (mAsg (mLst<|zab (mVar 3)<|zab (mTup<|zab (mVar 3)<|mNil)<|zab (mSlC (mVar 3) zcM<|zcL<|mNeg<|mCon<|.int 1)<|zab (mBin addD (mVar 3)<|mTup<|zab (mCon<|.int 1)<|mNil)<|zab (zal zke<|zab (mVar 3)<|mNil)<|zab (mCon .non)<|zab (mTup<|mNil)<|zab (mCon<|.str "bed")<|zab (mCon<|.bl true)<|zab (mCon<|.int 4)<|zab (ziZ false)<|mNil)<|gNm 4) (mAsg (mBin addD (mVar 4)<|mLst<|zab (zal zbl<|zab (mCon<|.int 55)<|zab (mCon<|.bl true)<|mNil)<|zab (zal zbl<|zab (mCon<|.int 55)<|zab (mCon<|.bl false)<|mNil)<|zab (mTup<|zab (mVar 3)<|zab (mVar 3)<|zab (mVar 3)<|mNil)<|mNil)<|gNm 4) [a0,a1,some (.ref n),some (.tup ds),a4,a5,a6,a7,a8] s=some (.nx (r9 a0 a1 n (.tup ds) l a5 a6 a7 a8),s')/\Has n l (.tup ds) s' 14:=by
 have g1:=Gr.app s [.lst ds];have at1:=zbg s<|.lst ds;have i1:=zia (ds:=ds) (s:=s) (by omega);generalize hs1:s++[O.lst ds]=s1 at g1 at1 i1;have p1:=hp.gr g1;have g2:=Gr.app s1 [.dk []];have at2:=zbg s1<|.dk [];have i2:∀ U,ziZ false U s1=some (.ref s1.length,s1++[.dk []]):=fun U=>rfl;generalize hs2:s1++[O.dk []]=s2 at g2 at2 i2;have p2:=p1.gr g2;have ad1:∀ s,addD (.tup ds) (.tup [.int 1]) s=some (.tup (ds++[.int 1]),s):=fun s=>zgP hne (by simp;omega);have f11:fits 11=true:=by decide
 generalize hX:[D.tup ds,.tup [.tup ds],.tup (slT ds none<|some<|-1),.tup (ds++[.int 1]),.ref s.length,.non,.tup [],.str "bed",.bl true,.int 4,.ref s1.length]=X;have em1:(mLst<|zab (mVar 3)<|zab (mTup<|zab (mVar 3)<|mNil)<|zab (mSlC (mVar 3) zcM<|zcL<|mNeg<|mCon<|.int 1)<|zab (mBin addD (mVar 3)<|mTup<|zab (mCon<|.int 1)<|mNil)<|zab (zal zke<|zab (mVar 3)<|mNil)<|zab (mCon .non)<|zab (mTup<|mNil)<|zab (mCon<|.str "bed")<|zab (mCon<|.bl true)<|zab (mCon<|.int 4)<|zab (ziZ false)<|mNil) [a0,a1,some (.ref n),some (.tup ds),a4,a5,a6,a7,a8] s=some (.ref s2.length,s2++[.lst X]):=by subst hX;simp[i1,i2,zmm,zjp,neg1,ad1,f11,- zao]
 have g3:=Gr.app s2 [.lst X];have at3:=zbg s2<|.lst X;generalize hs3:s2++[O.lst X]=s3 at g3 at3 em1;have p3:=p2.gr g3;obtain⟨e1,s4,i4,F4,g4⟩:=zm9 (b:=true) p3.lt;have p4:=p3.gr g4;obtain⟨e2,s5,i5,F5,g5⟩:=zm9 (b:=false) p4.lt;have p5:=p4.gr g5;generalize hY:[e1,e2,.tup [.tup ds,.tup ds,.tup ds]]=Y;have em2:(mLst<|zab (zal zbl<|zab (mCon<|.int 55)<|zab (mCon<|.bl true)<|mNil)<|zab (zal zbl<|zab (mCon<|.int 55)<|zab (mCon<|.bl false)<|mNil)<|zab (mTup<|zab (mVar 3)<|zab (mVar 3)<|zab (mVar 3)<|mNil)<|mNil) [a0,a1,some (.ref n),some (.tup ds),some (.ref s2.length),a5,a6,a7,a8] s3=some (.ref s5.length,s5++[.lst Y]):=by subst hY;simp[i4,i5]
 have g6:=Gr.app s5 [.lst Y];have at6:=zbg s5<|.lst Y;generalize hs6:s5++[O.lst Y]=s6 at g6 at6 em2;have p6:=p5.gr g6;have b3:s6[s2.length]?=some (.lst X):=(((g4.trans g5).trans g6).old _<|getElem?_lt at3).trans at3;have lX:X.length=11:=by subst hX;rfl
 have lY:Y.length=3:=by subst hY;rfl
 have ad:=zgQ b3 at6 (by rw[lX,lY];decide);have g7:=Gr.app s6 [.lst (X++Y)];have at7:=zbg s6<|.lst<|X++Y;generalize hs7:s6++[O.lst (X++Y)]=s7 at g7 at7 ad;have p7:=p6.gr g7;have G27:=((g3.trans g4).trans<|g5.trans g6).trans g7;have b1:s7[s.length]?=some (.lst ds):=((g2.trans G27).old _<|getElem?_lt at1).trans at1;have b2:s7[s1.length]?=some (.dk []):=(G27.old _<|getElem?_lt at2).trans at2;have F:Fit n 0 s7 (.tup ds):=hF.gr<|(g1.trans g2).trans G27;refine⟨s6.length,s7,?_,p7,AJ p6.lt,F,X++Y,at7,by rw[AE,lX,lY];decide,fun x hx=>?_⟩
 . refine zan (U1:=[a0,a1,some (.ref n),some (.tup ds),some (.ref s2.length),a5,a6,a7,a8]) (s1:=s3) (by rw[zaN,em1];rfl) ?_;have ev:mVar 4 [a0,a1,some (.ref n),some (.tup ds),some (.ref s2.length),a5,a6,a7,a8] s3=some (.ref s2.length,s3):=rfl;rw[zaN,zaM,ev];simp only[Ac,em2,ad];rfl
 . refine Fit.up (m:=0) ?_ (by decide);have sl:=zjo (ds:=ds) (lo:=none) (hi:=some (-1))
   rcases List.mem_append.mp hx with hx | hx
   . subst hX;simp only[AI,AM,or_false] at hx
     rcases hx with rfl | rfl | rfl | rfl | rfl | rfl | rfl | rfl | rfl | rfl | rfl
     . exact F
     . exact .tup _ (by simp) fun d hd=>by rw[List.mem_singleton.mp hd];exact F
     . exact .tup _ (by omega) fun d hd=>F.at d (zft hd)
     . exact zkD F.at (fun d hd=>by rw[List.mem_singleton.mp hd];exact zhX rfl) (by simp;omega)
     . exact .lst _ _ b1<|AJ hp.lt
     . exact .non
     . exact .tup _ (by simp)<|by simp
     . exact .str _ (by decide)<|by decide
     . exact .bl _
     . exact zhX rfl
     exact .dk _ _ b2<|AJ p1.lt
   . subst hY;simp only[AI,AM,or_false] at hx
     rcases hx with rfl | rfl | rfl
     . exact F4.gr<|(g5.trans g6).trans g7
     . exact F5.gr<|g6.trans g7
     . exact .tup _ (by simp) fun d hd=>by simp only[AI,AM,or_false,or_self] at hd;rw[hd];exact F
def zgC{i:Int}(h0:-1<=i)(h1:i<=1000):Fit n m st (.int i):=.int _ (by unfold big;omega)
variable {y:D}
def zjd{k:D}(hx:Fit n m st x)(hy:Fit n m st y)(hk:Fit n m st k):Fit n m st (.tup [x,y,k]):=.tup _ (by simp;omega) fun d hd=>by
 simp only[AI,AM,or_false] at hd
 rcases hd with rfl | rfl | rfl
 . exact hx
 . exact hy
 exact hk
def zpv(hx:Fit n m st x)(hy:Fit n m st y):Fit n m st (.tup [x,y]):=.tup _ (by simp;omega) fun d hd=>by
 simp only[AI,AM,or_false] at hd
 rcases hd with rfl | rfl
 . exact hx
 exact hy
def zla{kn:Int}{ts:List Tl}(hok:∀ t∈ts,zmo w h kn t)(hw:w<=12)(hh:h<=12)(hk:kn<=12)(hl:ts.length<=6):Fit n 0 st (zet ts):=by refine .tup _ (by rw[Ai];omega) fun d hd=>?_;obtain⟨t,ht,rfl⟩:=List.mem_map.mp hd;obtain⟨x0,x1,y0,y1,k0,k1⟩:=hok t ht;exact zjd (zgC (by omega)<|by omega) (zgC (by omega)<|by omega)<|zgC (by omega)<|by omega
def zrB{b:Bed}{most:Int}(h:b.Ok most)(hm:most<=6):Fit n 0 st b.d:=by
 obtain⟨hok,w0,w1,hh0,hh1,tsok,tl⟩:=h;have k0:=hok.k0;have k1:=hok.k1;have hok':b.ho.Ok 12:=⟨hok.e0,hok.e1,hok.names,hok.srt,hok.nd,hok.str,hok.few,hok.kind,hok.k0,by omega⟩
 exact zjd (zl1 hok') (zpv (zgC (by omega)<|by omega)<|zgC (by omega)<|by omega)<|zla tsok.ok w1 hh1 (by omega) tl
def znM{ns:List Int}{k:Int}{a2 a3:Option D}(h0:0<=k)(h1:k < 1000):∃ b2 b3 b4 b5 b6 b7 b8 s',zio [some (.kl<|ns.map D.int),some (.int k),a2,a3,a4,a5,a6,a7,a8] s=some (.nx [some (.kl<|ns.map D.int),some (.int k),b2,b3,b4,b5,b6,b7,b8],s'):=by
 obtain⟨s1,e1,p1,g1⟩:=zsv (ns:=ns) (k:=k) (st:=s) h0 h1;generalize s.length=n at *;obtain⟨d,s2,e2,hd,p2,f2⟩:=zho [.int 1,.int 3,.int 6] p1 (by decide) (by decide);obtain⟨most,rfl,hm0,hm1⟩:∃ most:Int,d=.int most/\1<=most/\most<=6:=by
   simp at hd
   rcases hd with rfl | rfl | rfl <;> exact⟨_,rfl,by decide,by decide⟩
 obtain⟨bd,s3,e3,bok,p3,f3⟩:=ztp p2 hm0 (by omega);have F:Fit n 0 s3 bd.d:=zrB bok hm1;unfold Bed.d at F e3;generalize hds:[bd.ho.d,.tup [.int bd.w,.int bd.h],zet bd.ts]=ds at F e3;have hl3:ds.length=3:=by subst hds;rfl
 obtain⟨l,s4,e4,H4⟩:=zk6 (a0:=some (.kl<|ns.map D.int)) (a1:=some (.int k)) (a4:=a4) (a5:=a5) (a6:=a6) (a7:=a7) (a8:=a8) p3 F (by intro e;rw[e] at hl3;simp at hl3) (by omega);obtain⟨b5,b6,s5,e5,H5⟩:=znm (a0:=some (.kl<|ns.map D.int)) (a1:=some (.int k)) (a5:=a5) (a6:=a6) (a7:=a7) (a8:=a8) H4 (by decide);obtain⟨b7,b8,s6,e6⟩:=zrC (a0:=some (.kl<|ns.map D.int)) (a1:=some (.int k)) (a5:=b5) (a6:=b6) (a7:=a7) (a8:=a8) H5;refine⟨some<|.ref n,some<|.tup ds,some<|.ref l,b5,b6,b7,b8,s6,?_⟩;generalize ns.map D.int=NS at *;unfold zio;refine zan (U1:=[some (.kl NS),some (.int k),some (.ref n),a3,a4,a5,a6,a7,a8]) (s1:=s1) (by simp[e1]) ?_;refine zan (U1:=[some (.kl NS),some (.int k),some (.ref n),some (.tup ds),a4,a5,a6,a7,a8]) (s1:=s3) (by simp[e2,e3]) ?_;generalize hA:mAsg (mLst<|zab (mVar 3)<|zab (mTup<|zab (mVar 3)<|mNil)<|zab (mSlC (mVar 3) zcM<|zcL<|mNeg<|mCon<|.int 1)<|zab (mBin addD (mVar 3)<|mTup<|zab (mCon<|.int 1)<|mNil)<|zab (zal zke<|zab (mVar 3)<|mNil)<|zab (mCon .non)<|zab (mTup<|mNil)<|zab (mCon<|.str "bed")<|zab (mCon<|.bl true)<|zab (mCon<|.int 4)<|zab (ziZ false)<|mNil) (gNm 4)=A at e4;generalize hB:mAsg (mBin addD (mVar 4)<|mLst<|zab (zal zbl<|zab (mCon<|.int 55)<|zab (mCon<|.bl true)<|mNil)<|zab (zal zbl<|zab (mCon<|.int 55)<|zab (mCon<|.bl false)<|mNil)<|zab (mTup<|zab (mVar 3)<|zab (mVar 3)<|zab (mVar 3)<|mNil)<|mNil) (gNm 4)=B at e4;have assoc:∀ (A B C:MS) (U U':Rho) (s s':Sto),mSeq A B U s=some (.nx U',s')->mSeq A (mSeq B C) U s=C U' s':=by
   intro A B C U U' s s' h;unfold mSeq at h ⊢
   cases hA:A U s with
   | none=>rw[hA] at h;cases h
   | some p =>
     obtain⟨f,s1⟩:=p;rw[hA] at h;simp only[Ac] at h ⊢
     cases f with
     | nx U1 =>
       dsimp only at h ⊢;rw[h];rfl
     | _=>cases h
 rw[assoc _ _ _ _ _ _ _ e4];refine zan e5 ?_;exact e6
def zos(ns:List Int)(hl:ns.length<=63):∃ st,ztt [.kl (ns.map D.int)] []=some (.bl true,st):=by
 have elen:lenD [.kl (ns.map D.int)] []=some (.int (ns.length:Int),[]):=by rw[zor,Ai]
 obtain⟨Mq,hM,hM4⟩:∃ Mq:Nat,(if (if (12:Int) < (ns.length:Int) then (12:Int) else (ns.length:Int)) > 1 then (if (12:Int) < (ns.length:Int) then (12:Int) else (ns.length:Int)) else 1)=(Mq:Int)/\Mq<=12:=by
   refine⟨(if (if (12:Int) < (ns.length:Int) then (12:Int) else (ns.length:Int)) > 1 then (if (12:Int) < (ns.length:Int) then (12:Int) else (ns.length:Int)) else 1).toNat,?_,?_⟩
   . split <;> split <;> omega
   split <;> split <;> omega
 have key:=zen (W:=⟨run 0 Mq,[]⟩) (g:=gNm 1) (m:=zio) (ds:=run 0 Mq) (U:=[some (.kl<|ns.map D.int),none,none,none,none,none,none,none,none]) (st:=[])
   (Inv:=fun i U s=>∃ a b c d e f g h,U=[some (.kl<|ns.map D.int),a,b,c,d,e,f,g,h]) ⟨_,_,_,_,_,_,_,_,rfl⟩ (fun _ _ _ _ _=>rfl) (fun i dd U s hd hI=>by obtain⟨a1,a2,a3,a4,a5,a6,a7,a8,rfl⟩:=hI;obtain⟨hi,rfl⟩:=Hd.zqh hd;obtain⟨b2,b3,b4,b5,b6,b7,b8,s',e⟩:=znM (ns:=ns) (k:=(i:Int)) (a2:=a2) (a3:=a3) (a4:=a4) (a5:=a5) (a6:=a6) (a7:=a7) (a8:=a8) (s:=s) (by omega) (by omega);exact⟨[some (.kl<|ns.map D.int),some (.int (i:Int)),a2,a3,a4,a5,a6,a7,a8],s,_,s',rfl,e,_,_,_,_,_,_,_,_,rfl⟩)
 obtain⟨U',s2,el,a1,a2,a3,a4,a5,a6,a7,a8,rfl⟩:=key;refine⟨s2,zbv ?_⟩;unfold ztK;have er:mR1 (zal zq3<|zab (mCon<|.int 1)<|zab (zal zq2<|zab (zal lenD<|zab (mVar 0)<|mNil)<|zab (mCon<|.int 12)<|mNil)<|mNil) [some (.kl<|ns.map D.int),none,none,none,none,none,none,none,none] []=some (⟨run 0 Mq,[]⟩,[]):=by refine Hd.zsm (s1:=[]) (k:=Mq) hM ?_ (by omega);generalize ns.map D.int=NS at *;generalize (ns.length:Int)=K at *;simp[elen,zq2,zq3]
 refine zan (U1:=[some (.kl<|ns.map D.int),a1,a2,a3,a4,a5,a6,a7,a8]) (s1:=s2) (by
   show mFor _ _ _ [some (.kl<|ns.map D.int),none,none,none,none,none,none,none,none] []=_;rw[zaL,er];exact el) ?_
 simp
end L2.MP.T0
namespace L2.MP.T0
open PySem L2 L2.MP PySem.Spec PyProof.Rows PySem.W
def vw:Program:=view PySem.Challenge.pw_stickytiles_k02_beds_or_not [1,2,3,4,5,6,7,8,9,10,11,12,13,14,15,16,17,19,20,21,22,23,24,25,26,27,28,29,30,31,32,33,34,35,36]
noncomputable abbrev hk:=Hx.hook fns bls cos
def zpW:LeftO PySem.Challenge.pw_stickytiles_k02_beds_or_not vw [] (fun s=>xlAt vw [] s&&recOk [] s) hk.obs hk.val 20000:=by
 intro w
 kernel_rfl
end L2.MP.T0
open PySem PySem.W PyProof.Rows L2 L2.MP L2.MP.T0 in
set_option maxRecDepth 100000 in
set_option maxHeartbeats 0 in
theorem PySem.Challenge.cw_stickytiles_k02_beds_or_not_holds : PySem.Challenge.rw_stickytiles_k02_beds_or_not.Holds := by
 refine holds_law (by decide +kernel) fun said=>?_;refine holds_open (q:=vw) (loose:=[]) (XP:=XL vw []) (YP:=hk.says) zpW hk.of hk.keeps (fun s e=>xl_of s (Bool.and_eq_true_iff.mp e).1) XL.keeps (by rfl) (by rfl) (by rfl) (fun s e=>recFacts_of (Bool.and_eq_true_iff.mp e).2) (by rfl) said (by decide +kernel) ⟨rfl,rfl,rfl,rfl,rfl,by decide +kernel⟩ ?hw ?hc
 case hw=>w_witness2
 case hc =>
   refine Hx.walk_has (l:=PySem.Challenge.rw_stickytiles_k02_beds_or_not) (n:=63) (k:=17) (x:="_law_script") (CX:=CX0) (sp:=fun K=>spM K 1 ztt) rfl (by decide) rfl ⟨rfl,by decide,by decide,rfl⟩ (fun K w mg fa h A X G e=>?_) (fun K H a ns hl hO hS=>(zos ns hl).elim fun _ e=>znw hO hS e) fun _ _ _ _ z=>z;obtain⟨f,⟨oc,od,kV,dc,pm,an,cd,ct,sl,l,c⟩,n,k⟩:=A.fn ("law",top 36) (AW (i:=32) rfl)
   cases e.symm.trans (mg_of X G n)
   exact⟨_,fun s v=>.of_eq rfl,fun base _ _=>zti (En.of A X G) (zoK (st:=top 36) l c k)⟩
