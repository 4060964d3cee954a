import PyProof.Rows.All
import Wide.All
import OpenK.AllK
import Wide.FinOn
import Lean
import PyProof.EqAt
import PyProof.EqKinds
import PyProof.TupleCall
import KE.KRevSl
import PyProof.AttrMissHeap
import KE.KDictOf
import PyProof.StrWalks
import PyProof.ListStr
import PyProof.EnumMake
import PyProof.Rows.Range3
import PyProof.Rows.StrIndexOr
import KE.KRevIter
import PyProof.SumWalk
import PyProof.ReprRoads
import PyProof.DictWalks
import PyProof.FitsBits
import PyProof.CallStr
import PyProof.Rows.FStr
import PyProof.Rows.StrNews
import KE.KIntText
import PyProof.Rows.MinMaxN
import PyProof.StrCalls
import KE.KDictList
import PyProof.RulesTry
import PyProof.Rows.RuleIs
import KE.KDictSum
import PyProof.DictTruth
import PyProof.MinMaxWalk
import PyProof.Rows.SetFrom
import PyProof.ListMulRoad
import PyProof.FactsAll.tuple_2
import PyProof.TupleOfStr
import PyProof.WalkInts
import PyProof.WalksMore
import PyProof.RowDictHeap
import KE.KItemsList
import PyProof.Draws
import PyProof.SetScanFacts
import PyProof.TupleKey
import PyProof.IsRules
import PyProof.StrLawsIn
import PyProof.Rows.StrLawsPart
import PyProof.StrLawsChain
import PyProof.Rows.StrIntSpec
import PyProof.StrLawsTight
import PyProof.Rows.ReprOcc
import PyProof.Rows.StrCase
import PySem.Challenge.RW_stickytiles_k03_standings_or_not
set_option maxHeartbeats 8000000
set_option maxRecDepth 100000
open PySem renaming wpAny_bind→Aa,wpAny_pure→Ab,wpAny_newObj_type→Aw,wpAny_call_entry→AC,wpAny_callSpecial?_slot→AM,wpAny_setState_of→AV,wpAny_holding→A0,wpAny_ite_split→A1,mem_of_lookup→A9,wpAny_field→Bb,wpAny_setField→Bd,wpAny_askSetting→Bn,wpAny_setField_rec→Bt,wpAny_seqItems→BB,codeAny_builtin→BC,wpAny_attempt→BD,wpAny_setEntries_of→BG,wpAny_mono→BH,wpAny_fieldsOf→BO,wpAny_typeNameOfWhole_itemiter→BW,wpAny_truthy_bool→BX,wpAny_pyIter_slot→B0,wpAny_typeNameOfWhole_keyiter→B2,wpAny_getItem_str_slice→B3,wpAny_dictEntries→Cn,wpAny_typeOf→Ct,plainId_quiet→CB,wpAny_rule→CC,wpAny_dictEpoch→CG,wpAny_pyIter_list→CK,codeAny_mono→CM,wpAny_isInstance→CT,wpAny_passesOwn→C2,post_val_or_str→C4,wpAny_bindName→Dh,wpAny_storeSet_of→Dr,fits_of_scanBound→Ds,wpAny_isOneOf_itemiter→Dw,wpAny_standAt→Dy,evalPart_none→Dz,wpAny_newList→DA,wpAny_forIn_list→DD,pushCells_keeps→DM,wpAny_updateSeq_pair→DP,wpAny_updateSeq→DT,wpAny_newTuple→D0,isSubtype_stop→D1,wpAny_runValue→D2,wpAny_of_eq→D5,wpAny_Call_Name_kw→D7,tupleKind_room_in1→D8,wpAny_handled→Ei,wpAny_onRaise→Ej,wpAny_sequenceKey→Eo,typeIs_str→Ex,wpAny_getItem_list_slice→ED,wpAny_Call_method0_late→EO,wpAny_execs_nil→EU,wpAny_specialOf→EW,codeAny_of_tree→Fe,sizeLine_eq→Ff,wpAny_Slice→Fi,wpAny_letGo→Fo,wpAny_throw→Fp,wpAny_isTrue_Compare1→Ft,wpAny_notOrdered_dict→Fz,wpAny_isOneOf_keyiter→FA,builtinLookup_eq_fast→FD,isSubtype_type→FE,weight_type_call_type→FG,wpAny_eqIsQuiet_tuple→FJ,codeAny_extend_loopS→FO,codeAny_call_builtin→FP,evalArgs_none→FY,seqIndex_neg→Gc,wpAny_assign_Name→Gk,seqIndex_of→GC,wpAny_Name→GS,wpAny_load→GU,wpAny_call→GV,call→GW
open Option renaming bind_some→Ac,map_some→Ai,getD_some→EE,isSome_some→F8,isSome_map→Gq,getD_none→GG,bind→HB
open PySem.Heap renaming get?_push_of_some→Ad,lt_size→Ak,get?_push_size→Al,get?_update_self→AS,size_push→A4,SameBut→Bg,get?_update_other→BQ,ExtBut→B9
open PySem.W renaming Frag→Ae,mg_none_of→A3,nsIn→Bp,fnOf→Cc,keepIn→Co,codeIn→Di,methodObj→Em,OpenLaw→EY,cellsFrom_some→Fg,KitAt→FU,kitx_list→Gs,kitx_dict→Gu,krv_range→Gy,kat_kind→GI,kas_ask→G6,krv_all→He,kitOne→Hi,WalkO→Hq,mg_of→Hr
open Nat renaming le_refl→Af,lt_of_lt_of_le→As,ne_of_lt→AB,ne_of_gt→AQ,le_trans→AR,lt_irrefl→AY,zero_le→AZ,le_succ→BE,le_add_right→BS,lt_succ_of_lt→BY,lt_of_le_of_lt→Cd,le_of_succ_le→Cm,le_of_lt→Cr,sub_self→C8,lt_succ_self→DE,succ_le_succ→DF,mod_lt→DS,add_le_add_left→DY,isDigit_of_mem_toDigits→Ec,le_of_lt_succ→Eu,add_zero→EF,succ_pos→EI,lt_trans→F9,min_le_right→GF,min_le_left→GY,not_lt_zero→G4,strongRecOn→Hg
open List renaming length_map→Ag,mem_cons_of_mem→Ah,mem_cons_self→Aj,getElem?_eq_getElem→Am,size_toArray→Ao,append_nil→Ap,map_cons→Ar,append_assoc→Av,getElem?_map→AA,getD_eq_getElem?_getD→AD,length_append→AE,not_mem_nil→AH,getElem?_append_left→AK,mem_cons→AN,getElem?_set_ne→AO,range→AX,mem_append_right→A2,length_cons→A6,mem_of_getElem?→Bc,getElem?_append_right→Be,length_take→Bm,map_map→Bo,pairwise_mergeSort→Bw,mem_append_left→Bx,lookup_cons→Bz,mergeSort_perm→BA,getElem?_eq_none→BU,find?_cons→BV,eq_nil_of_length_eq_zero→B1,filterMap_cons→B4,length_reverse→B5,length_drop→B6,getElem_mem→B8,mem_singleton→Ce,length_nil→Cg,length_range→Ck,replicate→Cp,map_nil→Cs,all_eq_true→Cu,toArray→Cv,map_congr_left→Cy,getElem?_replicate→Cz,zip_cons_cons→CD,getElem?_set_self→CJ,length_replicate→CN,length_singleton→CO,getElem?_toArray→CP,getElem?_of_mem→CU,any_cons→CV,getElem?_range→CZ,length_erase_of_mem→Df,forIn_nil→Dj,reverse_cons→Dq,all_cons→DB,take_length→DH,cons_append→DI,mem_of_mem_take→DR,mem_erase_of_ne→DU,mem_of_mem_drop→DV,nodup_nil→DZ,map_id→D6,set_comm→Ef,length_eraseIdx_of_lt→El,getElem?_set→Ep,nodup_append→Er,ext_getElem?→Et,drop_eq_getElem_cons→Ey,pairwise_iff_getElem→Ez,filterMap_cons_some→EJ,getElem?_cons_succ→ES,of_mem_zip→EV,length_set→EX,forIn_cons→EZ,nil_append→Fc,map_append→Fd,drop_eq_nil_of_le→Fk,filterMap_reverse→Fq,length_pos_of_mem→Fs,drop_zero→Fu,countP_mono_left→Fv,mem_range→FI,getElem_of_mem→FW,take_succ_cons→F0,drop_succ_cons→F5,filterMap_map→Gb,take_sublist→Gn,take_add_one→Gw,pairwise_map→Gx,getElem_take→GA,getElem_inj→GD,countP_cons→GH,ext_getElem→GJ,getElem_map→GK,zipIdx_cons→GL,isEmpty_nil→GP,nodup_cons→GX,zipIdx_nil→G9,length_zip→Hc,mem_append→Hf,map_drop→Hu,all_nil→Hy
open Bool renaming and_eq_true→An,false_eq_true→Aq,false_ne_true→Br,not_eq_true'→BZ,not_true→CA,eq_iff_iff→CF,or_eq_true→C3,not_false→D4,and_true→Ek,or_false→FT,true_and→FV,and_false→Hk
open Array renaming length_toList→Au,getElem?_toList→Az,getElem?_eq_getElem→AF,getD_eq_getD_getElem?→Bj,getElem?_eq_none→Ca,toList_push→Es,getD→EA,all_eq_true'→Ge,forIn_toList→Gj,toList_map→GQ,replicate→Hh,toList→Hw
open PySem.Obj renaming data_mapFields→Ax,mapSeq→Bf,isFreed_of_fields→Bl,cls_mapFields→BF,mapFields→CY,putSet→Dm
open Option.some renaming inj→Ay
open Or renaming inr→AG,inl→AI
open PySem.Value renaming ref→AJ,none→AW,type→BK,bool→Dg,isStrOf_shape→DW,isStrOf→Ed,str→ET,int→F6,isInt→Hz
open PySem.Heap.SameBut renaming update→AL,refl→Gz
open PySem.NameKind renaming free→AU,cell→Ba
open PySem.Str renaming ofString→A5,empty→E4
open Int renaming toNat_natCast→A7,emod_nonneg→CH,emod_lt_of_pos→CI,le_trans→Da,le_of_lt→Dc,eq_ofNat_of_zero_le→Do,le_refl→Dv,le_antisymm→G1,toNat→Hl,ofNat→Ho
open PySem.Builtin.SmallTypes renaming nextOf→A8,ownedTupleIsFree→BP,ownedTupleHandOut→De
open PySem.PyData renaming strOk→Bi,eqv→BM,canLay0→B7,canLayAll0→CL,depth→C9,eqvAll→DC,str→DQ,depthAll→E3
open PyProof.Rows.F renaming plain_set_update_loop→Bk,entry_set_update_loop→BJ
open PySem.Builtin.Slice renaming slicePlaces→Bq,sliceAdjust→BI,sliceApplied→Cj,sliceFields→Ew
open PySem.Txt renaming slice→Bs,upper→CS,slice_le→DO
open PySem.Builtin.Tuple renaming tupleExact→Bu,tupleItemsOf→CW
open PyProof.Rows renaming slot_tuple_getitem→Bv,assignInOrder_cons→Cb,callWith_type1→CQ,slot_tupleiter_next→C1,entry_proto_collect'→Dx,Subscript_→DL,entry_tuple_getitem→DX,args_tuple_getitem→D9,listUpdate_at→Eg,assignInOrder_nil→En,digit_range→EK,digits10_le→EL,entry_list_sort→Fb,subscriptTail_builtinR→Fj,seqEpoch_at→Fn,slot_list_sort→Fx,args_list_sort→Fy,tail_any→FL,entry_tupleiter_next→FN,tupleItemsOf_→FS,args_tupleiter_next→FZ,args_sorted1→Gd,unpackItems_tuple→Gm,lt_int→GR
open PySem.Around renaming under_plainId→By,under_plain→Gi
open Ne renaming symm→BL
open PySem.Builtin.Dict_items renaming ownsTuple→BN,ownedTupleFields→Dk,ownedTupleIsFree→Dl,pairFromOwner→DG,newIterator→G8,dictOf→Hv
open PySem.Paired renaming length→BR,snoc→HA
open PySem.Builtin.List renaming listExtendWith→Cf,listSameRef→Cw,listLengthHint→Eb
open PySem.PassesOwn renaming never→Ci
open List.Perm renaming refl→Cq,cons→FC,swap→Hj
open PySem.Builtin.Str renaming tooLong→C0,strSliceIndices→Ea
open Array.Perm renaming refl→C5
open PySem.Calls renaming call_function_entry→C6,callWith_builtin→Dt,Name_function_global→Ee
open PySem.Heap.IsSliceOf renaming new→C7
open List.Pairwise renaming nil→Dp,imp→GB
open Prod.mk renaming inj→Du
open Sum renaming inl→DJ,inr→EB
open PySem.Builtin.Dict renaming showsAll→DK
open ForInStep renaming yield→DN
open PySem.Builtin.Frozenset renaming updateFrom→D3,addrOf→EG,sizeOf→EH,slot0→ER,newClass→Ht
open PySem.Shared renaming TypeIs→Eh,heap→HC
open PySem.F renaming args_tuple_add_2→EC,entry_tuple_add→EM,slot_dict_items→EN,slot_tuple_add→Fh,plainAttrs_str→Fm
open PySem.W.Looks renaming of_pure→Fw
open True renaming intro→FK
open PySem.W.KasFin renaming intro→FM
open PySem.Builtin.Int renaming intBits→FX
open PySem.Flow renaming next→F7,ret→GO
open PySem.SeqAt.EqAt renaming int_int→Ga
open Nat.succ renaming inj→Gf
open PySem.pickOrder renaming go→Gg
open PySem.Code renaming quiet_builtin→Gh
open PySem.W.UpdF renaming head→Gv
open PySem.Fin renaming done→GM
open PySem.Walks renaming list→GZ
open StateT renaming run_pure→G7
open PySem.Expr renaming Call→Hm
open PySem.Moved renaming eq_with→Hs,trans→HE
open PySem.ItemsOf renaming nil→HD
open PySem.W.KatTups renaming cons→HF,nil→HI
open PyProof.Rows.SortSt renaming mk'→HG
open PySem.Heap.IsListIter renaming «at»→HJ
set_option Elab.async false
set_option linter.all false
namespace L2
open PySem PySem.Spec PyProof.Rows
noncomputable abbrev Key:=Sum Int Str
noncomputable def zni:Key->Value->Bool
 | .inl k,v=>Hz k v
 | .inr x,v=>Ed x v
noncomputable def keyH(w:World):Key->Int
 | .inl k=>hashInt k
 | .inr x=>hashStr w x
theorem zbn:∀ {k:Key} {v:Value},zni k v=true->(∃ i t,k=DJ i/\v=F6 i t)\/(∃ x t,k=EB x/\v=ET x t)
 | .inl i,v,h=>by
   obtain⟨t,e⟩:=Value.isInt_shape (k:=i) (v:=v) h;exact .inl ⟨i,t,rfl,e⟩
 | .inr x,v,h=>by
   obtain⟨t,e⟩:=DW (x:=x) (v:=v) h;exact .inr ⟨x,t,rfl,e⟩
theorem zkk(i:Int)(t:Tok):zni (.inl i) (.int i t)=true:=by simp[zni,Hz]
theorem zkj(x:Str)(t:Tok):zni (.inr x) (.str x t)=true:=by simp[zni,Ed]
theorem zqH(a b:Int):decide ((DJ a:Key)=DJ b)=(a==b):=by
 by_cases e:a=b
 . subst e;simp
 . have h:¬ (DJ a:Key)=DJ b:=fun q=>e (Sum.inl.inj q);rw[decide_eq_false h];exact (beq_eq_false_iff_ne.mpr e).symm
theorem zqE(a b:Str):decide ((EB a:Key)=EB b)=decide (a=b):=by
 by_cases e:a=b
 . subst e;simp
 . have h:¬ (EB a:Key)=EB b:=fun q=>e (Sum.inr.inj q);rw[decide_eq_false h,decide_eq_false e]
theorem zqG(a:Int)(b:Str):decide ((DJ a:Key)=EB b)=false:=decide_eq_false (fun q=>nomatch q)
theorem zqF(a:Str)(b:Int):decide ((EB a:Key)=DJ b)=false:=decide_eq_false (fun q=>nomatch q)
noncomputable def zb9(prog:Program)(w:World):PySem.KeyKind prog w Key where
 is:=zni
 hash:=keyH w
 inj:=fun v a b ha hb=>by
   rcases zbn ha with ⟨i,t,rfl,rfl⟩ | ⟨x,t,rfl,rfl⟩
   . rcases zbn hb with ⟨j,u,rfl,e⟩ | ⟨y,u,rfl,e⟩
     . injection e with e1 _;rw[e1]
     . exact nomatch e
   . rcases zbn hb with ⟨j,u,rfl,e⟩ | ⟨y,u,rfl,e⟩
     . exact nomatch e
     . injection e with e1 _;rw[e1]
 byValue:=fun k v h=>by
   rcases zbn h with ⟨i,t,rfl,rfl⟩ | ⟨x,t,rfl,rfl⟩ <;> rfl
 pyHash:=fun hv h=>by
   rcases zbn hv with ⟨i,t,rfl,rfl⟩ | ⟨x,t,rfl,rfl⟩
   . exact wpAny_pyHash_int h
   . exact wpAny_pyHash_str h
 eqBool:=fun hu hv h=>by
   rcases zbn hu with ⟨i,t,rfl,rfl⟩ | ⟨x,t,rfl,rfl⟩
   . rcases zbn hv with ⟨j,u,rfl,rfl⟩ | ⟨y,u,rfl,rfl⟩
     . rw[zqH] at h;exact wpAny_eqBool_int h
     . rw[zqG] at h;exact SeqAt.EqAt.int_str i t y u _ _ _ _ h
   . rcases zbn hv with ⟨j,u,rfl,rfl⟩ | ⟨y,u,rfl,rfl⟩
     . rw[zqF] at h;exact SeqAt.EqAt.str_int x t j u _ _ _ _ h
     . rw[zqE] at h;exact wpAny_eqBool_str h
 «strs»:=fun k x t v h=>by
   rcases zbn h with ⟨i,u,rfl,e⟩ | ⟨y,u,rfl,e⟩
   . exact nomatch e
   . injection e with e1 _
     subst e1
     cases v <;> rfl
theorem zhy(prog:Program)(w:World)(i:Int)(t:Tok):(zb9 prog w).is (.inl i) (.int i t)=true:=zkk i t
theorem zhx(prog:Program)(w:World)(x:Str)(t:Tok):(zb9 prog w).is (.inr x) (.str x t)=true:=zkj x t
inductive V where
 | non | bl (b:Bool) | int (i:Int) | str (x:Str) | byt (b:Array UInt8) | flt (b:UInt64) | ref (a:Addr) | ty (n:String)
 deriving DecidableEq
noncomputable def RelV:V->Value->Prop
 | .non,u=>u=AW
 | .bl b,u=>u=Dg b
 | .int i,u=>∃ t,u=F6 i t
 | .str x,u=>∃ t,u=ET x t
 | .byt b,u=>∃ t,u=Value.bytes b t
 | .flt b,u=>∃ t,u=Value.float b t
 | .ref a,u=>u=AJ a
 | .ty n,u=>u=BK n
noncomputable abbrev Vals:List V->List Value->Prop:=Paired RelV
theorem Vals.length{xs:List V}{us:List Value}(r:Vals xs us):xs.length=us.length:=BR r
theorem Vals.get:∀ {xs:List V} {us:List Value} {i:Nat} {x:V},Vals xs us->xs[i]?=some x->∃ u,us[i]?=some u/\RelV x u
 | _,_,_,_,.nil,e=>by simp at e
 | _,_,0,_,.cons r _,e=>by simp at e;subst e;exact⟨_,rfl,r⟩
 | _,_,i+1,x,.cons _ t,e=>by
   obtain⟨u,h1,h2⟩:=Vals.get (i:=i) (x:=x) t (by simpa using e);exact⟨u,by simpa using h1,h2⟩
theorem Vals.set{x:V}{u:Value}(r:RelV x u):∀ {xs:List V} {us:List Value} (i:Nat),Vals xs us->Vals (xs.set i x) (us.set i u)
 | _,_,_,.nil=>.nil
 | _,_,0,.cons _ t=>.cons r t
 | _,_,i+1,.cons q t=>.cons q (Vals.set r i t)
theorem Vals.append:∀ {xs ys:List V} {us ws:List Value},Vals xs us->Vals ys ws->Vals (xs++ys) (us++ws)
 | _,_,_,_,.nil,s=>s
 | _,_,_,_,.cons r t,s=>.cons r (Vals.append t s)
theorem Vals.take:∀ {xs:List V} {us:List Value} (n:Nat),Vals xs us->Vals (xs.take n) (us.take n)
 | _,_,0,_=>.nil
 | _,_,_+1,.nil=>.nil
 | _,_,n+1,.cons r t=>.cons r (Vals.take n t)
theorem Vals.drop:∀ {xs:List V} {us:List Value} (n:Nat),Vals xs us->Vals (xs.drop n) (us.drop n)
 | _,_,0,r=>r
 | _,_,_+1,.nil=>.nil
 | _,_,n+1,.cons _ t=>Vals.drop n t
noncomputable def RelO:Option V->Option Value->Prop
 | some v,some u=>RelV v u
 | none,none=>True
 | _,_=>False
noncomputable def KV{κ:Type}:List (κ×V)->List (κ×Value)->Prop:=Paired fun (p:κ×V) (q:κ×Value)=>p.1=q.1/\RelV p.2 q.2
noncomputable def kV:Key->V
 | .inl i=>.int i
 | .inr x=>.str x
inductive HO where
  | lst (xs:List V)
  | tup (xs:List V)
  | dK (kvs:List (Key×V)) | dT (kvs:List (List Key×V))
  | set (S:Int->Bool) (n:Nat)
  | ins (C dx:Addr) (fs:List (Str×V))
  | own (x:Addr)
  | xd (fs:List (Str×V))
  | met (f x:Addr)
  | rng (lo hi:Int)
  | frz (o:Obj) (u:HO)
  | tbl (ps:Array Value)
  | ext (φ:Heap->Prop)
noncomputable abbrev Hp:=Addr->Option HO
noncomputable def upd(H:Hp)(a:Addr)(o:HO):Hp:=fun b=>if b=a then some o else H b
theorem zbv{H:Hp}{a:Addr}{o:HO}:upd H a o a=some o:=by unfold upd;rw[if_pos rfl]
theorem zaO{H:Hp}{a b:Addr}{o:HO}(h:b≠a):upd H a o b=H b:=by unfold upd;rw[if_neg h]
theorem zqx{H:Hp}{a b:Addr}{o u:HO}(h:H a=some o)(h':H b=some u)(d:o≠u):a≠b:=by
 intro e;subst e;rw[h] at h';exact d (Ay h')
theorem zaF{H:Hp}{a b:Addr}{o:HO}(h:H a=some o)(h':H b=none):a≠b:=by
 intro e;subst e;rw[h] at h';cases h'
def zfc(h:Heap)(a:Addr)(items:Array Value):Prop:=∃ o,h.get? a=some o/\o.cls=.type "tuple"/\o.dict=none/\∃ n,o.data=.seq items n
theorem zfc.t{h:Heap}{a:Addr}{items:Array Value}(x:zfc h a items):IsTup h a items:=let ⟨o,ho,hc,_,r⟩:=x;⟨o,ho,hc,r⟩
theorem zfc.new(h:Heap)(items:Array Value):zfc (h.push { cls:=.type "tuple",data:=.seq items }) h.objs.size items:=⟨_,Al _ rfl,rfl,rfl,0,rfl⟩
section
variable (P:Program) (w:World)
noncomputable def zdi(H:Hp)(h:Heap)(a:Addr):HO->Prop
 | .lst xs=>xs.length<=sizeLine/\∃ (its:List Value) (n:Nat),Vals xs its/\h.get? a=some { cls:=.type "list",data:=.seq its.toArray n }
 | .tup xs=>xs.length<=sizeLine/\∃ its:List Value,Vals xs its/\zfc h a its.toArray
 | .dK kvs=>kvs.length<=sizeLine/\(a==sysModules)=false/\∃ vs,KV kvs vs/\h.DictOf (zb9 P w) a vs
 | .dT kvs=>kvs.length<=sizeLine/\(a==sysModules)=false/\∃ xs:List (List Key×Addr×Value),
     Paired (fun (p:List Key×V) (q:List Key×Addr×Value)=>p.1=q.1/\H q.2.1=some (.tup (p.1.map kV))/\RelV p.2 q.2.2) kvs xs /\
     ∃ o es ep,h.get? a=some o/\o.ExactDict/\o.data=.dict es ep/\es.toList=xs.map (entryOfKey (tupleKind (zb9 P w)))/\(xs.map (·.1)).Nodup
 | .set S n=>h.SetOf (intKind P w) a S n
 | .ins C dx fs=>H dx=some (.own a)/\fs.length<=1000/\dx≠a/\h.get? a=some (PySem.W.instObj C dx) /\
     ∃ mA,h.Ns1 dx mA/\(∀ f,RelO (fs.lookup f) (mA f))/\PySem.Within mA (fs.map (·.1))
 | .own _=>∃ o,h.get? a=some o
 | .xd fs=>∃ mA,h.Ns1 a mA/\∀ f,RelO (fs.lookup f) (mA f)
 | .rng lo hi=>∃ t u v,h.get? a=some { cls:=.type "range",data:=.fields #[.int lo t,.int hi u,.int 1 v] }
 | .frz o u=>h.get? a=some o/\zdi H h a u
 | .tbl ps=>h.get? a=some { cls:=.none,data:=.fields ps }
 | .met f x=>h.get? a=some (Em (.ref f) (.ref x))
 | .ext φ=>φ h/\(∃ o,h.get? a=some o)/\∀ h1 h2:Heap,φ h1->(∀ o,h1.get? a=some o->h2.get? a=some o)->φ h2
def HOk(H:Hp)(h:Heap):Prop:=∀ a o,H a=some o->zdi P w H h a o
end
section
variable {P:Program} {w:World} {H H':Hp} {h h':Heap} {a:Addr} {o:HO}
theorem zdi.lt(x:zdi P w H h a o):a < h.objs.size:=by
 cases o with
 | lst xs=>obtain⟨_,_,_,_,e⟩:=x;exact Ak e
 | tup xs=>obtain⟨_,_,_,p⟩:=x;exact p.t.lt
 | dK kvs=>obtain⟨_,_,_,_,o,_,_,e,_⟩:=x;exact Ak e
 | dT kvs=>obtain⟨_,_,_,_,o,_,_,e,_⟩:=x;exact Ak e
 | set S n=>obtain⟨o,_,_,_,e,_⟩:=x;exact Ak e
 | ins C dx fs=>obtain⟨_,_,_,e,_⟩:=x;exact Ak e
 | own y=>obtain⟨_,e⟩:=x;exact Ak e
 | xd fs=>obtain⟨_,⟨_,_,_,e,_⟩,_⟩:=x;exact Ak e
 | rng lo hi=>obtain⟨_,_,_,e⟩:=x;exact Ak e
 | frz ob u=>obtain⟨e,_⟩:=x;exact Ak e
 | tbl ps=>exact Ak (show h.get? a=some _ from x)
 | met f y=>exact Ak (show h.get? a=some _ from x)
 | ext φ=>obtain⟨_,⟨_,e⟩,_⟩:=x;exact Ak e
theorem Paired.mapP{α β:Type}{F G:α->β->Prop}:∀ {l₁:List α} {l₂:List β},Paired F l₁ l₂->(∀ a b,F a b->G a b)->Paired G l₁ l₂
 | _,_,.nil,_=>.nil
 | _,_,.cons r t,f=>.cons (f _ _ r) (Paired.mapP t f)
theorem zdi.stay(x:zdi P w H h a o)(k:∀ b u,(b=a\/H b=some (.own a))->h.get? b=some u->h'.get? b=some u)
   (ho:∀ b,H b=some (.own a)->H' b=some (.own a)) (ht:∀ b xs,H b=some (.tup xs)->H' b=some (.tup xs)):zdi P w H' h' a o:=by
 induction o with
 | lst xs=>obtain⟨z,its,n,r,e⟩:=x;exact⟨z,its,n,r,k _ _ (.inl rfl) e⟩
 | tup xs=>obtain⟨z,its,r,ob,e,c⟩:=x;exact⟨z,its,r,ob,k _ _ (.inl rfl) e,c⟩
 | dK kvs=>obtain⟨z,y,vs,r,ob,es,ep,e,c⟩:=x;exact⟨z,y,vs,r,ob,es,ep,k _ _ (.inl rfl) e,c⟩
 | dT kvs =>
   obtain⟨z,y,xs,r,ob,es,ep,e,c⟩:=x;exact⟨z,y,xs,Paired.mapP r fun p q z=>⟨z.1,ht _ _ z.2.1,z.2.2⟩,ob,es,ep,k _ _ (.inl rfl) e,c⟩
 | set S n=>obtain⟨ob,es,ep,t,e,c⟩:=x;exact⟨ob,es,ep,t,k _ _ (.inl rfl) e,c⟩
 | ins C dx fs =>
   obtain⟨d,z,ne,e,mA,⟨od,es,ep,e2,c⟩,r⟩:=x;exact⟨ho _ d,z,ne,k _ _ (.inl rfl) e,mA,⟨od,es,ep,k _ _ (.inr d) e2,c⟩,r⟩
 | own y=>obtain⟨ob,e⟩:=x;exact⟨ob,k _ _ (.inl rfl) e⟩
 | xd fs=>obtain⟨mA,⟨od,es,ep,e,c⟩,r⟩:=x;exact⟨mA,⟨od,es,ep,k _ _ (.inl rfl) e,c⟩,r⟩
 | rng lo hi=>obtain⟨t,u,v,e⟩:=x;exact⟨t,u,v,k _ _ (.inl rfl) e⟩
 | frz ob u ih=>obtain⟨e,q⟩:=x;exact⟨k _ _ (.inl rfl) e,ih q⟩
 | tbl ps =>
   have e:h.get? a=some { cls:=.none,data:=.fields ps }:=x;show h'.get? a=some { cls:=.none,data:=.fields ps };exact k a _ (.inl rfl) e
 | met f y =>
   have e:h.get? a=some (Em (.ref f) (.ref y)):=x;show h'.get? a=some (Em (.ref f) (.ref y));exact k a _ (.inl rfl) e
 | ext φ=>obtain⟨p,⟨o,e⟩,st⟩:=x;exact⟨st _ _ p fun o q=>k _ _ (.inl rfl) q,⟨o,k _ _ (.inl rfl) e⟩,st⟩
theorem HOk.lt(x:HOk P w H h)(e:H a=some o):a < h.objs.size:=(x a o e).lt
theorem HOk.fresh(x:HOk P w H h)(e:h.objs.size<=a):H a=none:=by
 cases q:H a with
 | none=>rfl
 | some u=>exact absurd (As (x.lt q) e) (AY _)
theorem HOk.kept(x:HOk P w H h)(k:∀ b u,h.get? b=some u->h'.get? b=some u):HOk P w H h':=fun a o e =>
 (x a o e).stay (fun b u _ q=>k b u q) (fun _ q=>q) fun _ _ q=>q
theorem HOk.laid(x:HOk P w H h)(k:∀ b u,h.get? b=some u->h'.get? b=some u)(hp:h.objs.size<=a)(new:zdi P w (upd H a o) h' a o):HOk P w (upd H a o) h':=fun b u e=>by
 have hn:=x.fresh hp
 by_cases hb:b=a
 . subst hb;rw[zbv] at e;cases e;exact new
 . rw[zaO hb] at e;exact (x b u e).stay (fun c v _ q=>k c v q) (fun c q=>by rw[zaO (zaF q hn)];exact q) fun c xs q=>by rw[zaO (zaF q hn)];exact q
end
def Rd(H:Hp)(a:Addr)(u:HO):Prop:=H a=some u\/∃ o,H a=some (.frz o u)
theorem Rd.ok{P:Program}{w:World}{H:Hp}{h:Heap}{a:Addr}{u:HO}(r:Rd H a u)(x:HOk P w H h):zdi P w H h a u:=by
 rcases r with r | ⟨o,r⟩
 . exact x a u r
 . obtain⟨_,q⟩:=x a _ r;exact q
noncomputable def Mut:Option HO->Prop
 | some (.lst _)=>True
 | some (.dK _)=>True
 | some (.dT _)=>True
 | some (.set _ _)=>True
 | some (.ins _ _ _)=>True
 | some (.ext _)=>True
 | _=>False
section
variable {P:Program} {w:World} {H:Hp} {h h':Heap} {x e:Addr} {o':HO}
theorem HOk.write(ok:HOk P w H h)(mu:Mut (H x))(he:e=x\/H e=some (.own x))(k:∀ b u,b≠e->h.get? b=some u->h'.get? b=some u)(heo:∃ u,h'.get? e=some u)
   (new:zdi P w (upd H x o') h' x o'):HOk P w (upd H x o') h':=fun b u q=>by
 have nown:∀ c y,H c=some (.own y)->c≠x:=fun c y r z=>by subst z;rw[r] at mu;exact mu
 have ntup:∀ c xs,H c=some (.tup xs)->c≠x:=fun c xs r z=>by subst z;rw[r] at mu;exact mu
 by_cases hb:b=x
 . subst hb;rw[zbv] at q;cases q;exact new
 . rw[zaO hb] at q
   by_cases hbe:b=e
   . have q':H b=some (.own x):=by
       rcases he with z | z
       . exact absurd (hbe.trans z) hb
       . rw[hbe];exact z
     rw[q] at q';cases q';obtain⟨v,hv⟩:=heo;exact⟨v,by rw[hbe];exact hv⟩
   . refine (ok b u q).stay (fun c v hc r=>k c v ?_ r) (fun c r=>by rw[zaO (nown c b r)];exact r) fun c xs r=>by rw[zaO (ntup c xs r)];exact r
     rcases hc with rfl | hc
     . exact hbe
     . rintro rfl
       rcases he with z | z
       . exact nown c b hc z
       . rw[hc] at z;cases z;exact hb rfl
end
structure Un(fs ex:List Addr)(H H':Hp)(h h':Heap):Prop where
 keep:∀ b o,h.get? b=some o->H b=none->b ∉ fs->b ∉ ex->h'.get? b=some o
 slot:∀ b o,h.get? b=some o->H b=none->b∈fs->b ∉ ex->∃ sl,h'.get? b=some { o with slots:=sl }
 free:∀ b o,h.get? b=some o->H b=none->b ∉ ex->H' b=none
 there:∀ b o,h.get? b=some o->b ∉ ex->∃ o',h'.get? b=some o'
 tups:∀ b xs,H b=some (.tup xs)->H' b=some (.tup xs)
 frzs:∀ b o u,H b=some (.frz o u)->H' b=some (.frz o u)
 tbls:∀ b ps,H b=some (.tbl ps)->∃ more,H' b=some (.tbl (ps++more))
section
variable {fs fs' ex ex':List Addr} {H H1 H2:Hp} {h h1 h2 h':Heap} {a x e:Addr} {o:HO}
theorem Un.any(u:Un fs ex H H1 h h1){b:Addr}{ob:Obj}(q:h.get? b=some ob)(n:H b=none)(hx:b ∉ ex):∃ sl,h1.get? b=some { ob with slots:=sl }:=by
 by_cases hb:b∈fs
 . exact u.slot b ob q n hb hx
 . exact⟨ob.slots,u.keep b ob q n hb hx⟩
theorem Un.kept(k:∀ b u,h.get? b=some u->h'.get? b=some u):Un fs ex H H h h' :=
 ⟨fun b ob q _ _ _=>k b ob q,fun b ob q _ _ _=>⟨ob.slots,k b ob q⟩,fun _ _ _ n _=>n,fun b ob q _=>⟨ob,k b ob q⟩,fun _ _ q=>q,fun _ _ _ q=>q,fun _ ps q=>⟨#[],by rw[q];simp⟩⟩
theorem Un.refl:Un fs ex H H h h:=Un.kept fun _ _ q=>q
theorem Un.laid(k:∀ b u,h.get? b=some u->h'.get? b=some u)(hp:h.objs.size<=a)(hn:H a=none):Un fs ex H (upd H a o) h h' where
 keep:=fun b u q _ _ _=>k b u q
 slot:=fun b u q _ _ _=>⟨u.slots,k b u q⟩
 free:=fun b u q n _=>by rw[zaO (AB (As (Ak q) hp))];exact n
 there:=fun b u q _=>⟨u,k b u q⟩
 tups:=fun b xs q=>by rw[zaO (zaF q hn)];exact q
 frzs:=fun b u xs q=>by rw[zaO (zaF q hn)];exact q
 tbls:=fun b ps q=>⟨#[],by rw[zaO (zaF q hn),q];simp⟩
theorem Un.write(mu:Mut (H x))(he:e=x\/H e=some (.own x))(k:∀ b u,b≠e->h.get? b=some u->h'.get? b=some u)(heo:∃ u,h'.get? e=some u):Un fs ex H (upd H x o) h h':=by
 have hx:∀ b,H b=none->b≠x:=fun b n z=>by subst z;rw[n] at mu;exact mu
 have hb:∀ b,H b=none->b≠e:=fun b n z=>by
   subst z
   rcases he with r | r
   . exact hx b n r
   . rw[n] at r;cases r
 have hm:∀ b u,H b=some u->¬ Mut (some u)->b≠x:=fun b u q nm z=>by subst z;rw[q] at mu;exact nm mu
 refine⟨fun b u q n _ _=>k b u (hb b n) q,fun b u q n _ _=>⟨u.slots,k b u (hb b n) q⟩,fun b u q n _=>by rw[zaO (hx b n)];exact n,fun b u q _=>?_,
   fun b xs q=>by rw[zaO (hm b _ q fun z=>z)];exact q,fun b u xs q=>by rw[zaO (hm b _ q fun z=>z)];exact q,fun b ps q=>⟨#[],by rw[zaO (hm b _ q fun z=>z),q];simp⟩⟩
 by_cases hbe:b=e
 . subst hbe;exact heo
 . exact⟨u,k b u hbe q⟩
end
noncomputable def trk(h:Heap)(H:Hp):List Addr:=(AX h.objs.size).filter fun a=>(H a).isSome
noncomputable def hidT(h:Heap)(H:Hp):Heap:=PySem.W.hideAll h (trk h H)
theorem zkp(h:Heap)(H:Hp):(hidT h H).objs.size=h.objs.size:=PySem.W.hideAll_size _ _
theorem zmJ{h:Heap}{H:Hp}{b:Addr}{o:Obj}(e:h.get? b=some o)(n:H b=none):(hidT h H).get? b=some o :=
 PySem.W.hideAll_get _ e fun hm=>by
   have q:(H b).isSome=true:=(List.mem_filter.mp hm).2;rw[n] at q;simp at q
theorem zot{h:Heap}{H:Hp}{b:Addr}{o:Obj}(e:(hidT h H).get? b=some o):h.get? b=some o/\H b=none:=by
 have e':h.get? b=some o:=PySem.W.of_hideAll (trk h H) e;refine⟨e',?_⟩
 cases q:H b with
 | none=>rfl
 | some x =>
   have hm:b∈trk h H:=List.mem_filter.mpr ⟨List.mem_range.mpr (Ak e'),by simp[q]⟩;have z:(hidT h H).get? b=none:=PySem.W.hideAll_none (trk h H) hm;rw[z] at e;cases e
noncomputable def zd6(g h:Heap)(L:Addr):List (Addr×Obj):=(AX h.objs.size).filterMap fun a=>if a=L\/(g.get? a).isSome=true then none else (h.get? a).map fun o=>(a,o)
theorem zdn{g h:Heap}{L a:Addr}{o:Obj}(h1:a≠L)(h2:g.get? a=none)(h3:h.get? a=some o):(a,o)∈zd6 g h L :=
 List.mem_filterMap.mpr ⟨a,List.mem_range.mpr (Ak h3),by simp[h1,h2,h3]⟩
theorem zeZ{g h:Heap}{L:Addr}{p:Addr×Obj}(hp:p∈zd6 g h L):p.1≠L/\g.get? p.1=none/\h.get? p.1=some p.2:=by
 obtain⟨b,_,e⟩:=List.mem_filterMap.mp hp
 split at e
 . cases e
 . rename_i hn
   cases q:h.get? b with
   | none=>rw[q] at e;simp at e
   | some u =>
     rw[q] at e;simp only[Ai,Option.some.injEq] at e;subst e;refine⟨fun z=>hn (.inl z),?_,q⟩;show g.get? b=none
     cases r:g.get? b with
     | none=>rfl
     | some v=>exact (hn (.inr (by simp[r]))).elim
theorem zgf{g h:Heap}{L:Addr}:News g L h (zd6 g h L):=fun p hp=>let ⟨a,b,c⟩:=zeZ hp;⟨c,a,b⟩
structure Mod(K:Ae)(mg:Str->Option Value)(base:Heap):Prop where
 kin:K.In base
 glob:base.Ns mainGlobals mg
 blt:∃ mb,base.Ns builtinsNs mb/\∀ x:Str,x≠"__name__"->mb x=bootBuiltins x
 nolimit:base.NoLimit
structure Cx where
 prog:Program
 w:World
 K:Ae
 mg:Str->Option Value
 base:Heap
 A:Around
 N:List Str
 s₀:Shared
 H₀:Hp
 env:Env
 outer:List Env
 stack:List Env
 ex:List Addr
 fn:Str->Bool
 calm:Bool
 pn:List (Addr×Obj)
 xe:Value->Shared->Prop
noncomputable def frs(l:List Env):List Addr:=l.filterMap (·.frame)
noncomputable abbrev Cx.fs (X:Cx):List Addr:=frs X.outer
def Vis(sc:Scope)(x:Str):Prop:=sc.names.lookup x=some .local\/sc.names.lookup x=some .cell\/sc.names.lookup x=some .free
def Loc(sc:Scope)(x:Str):Prop:=sc.names.lookup x=some .local\/sc.names.lookup x=some .cell
def Look(env:Env)(h:Heap)(m:Str->Option Value)(x:Str)(u:Value):Prop :=
 (env.kindOf x=some .local/\m x=some u)\/((env.kindOf x=some .cell\/env.kindOf x=some .free)/\∃ c,env.cells.lookup x=some c/\h.IsCell c (some u))
structure Cx.Ok(X:Cx):Prop where
 mod:Mod X.K X.mg X.base
 kind:X.env.scope.kind=.function
 glob:X.env.globals=mainGlobals
 blt:X.env.builtins=builtinsNs
 above:X.s₀.heap.objs.size<=X.env.locals
 inj:∀ x y c,X.env.cells.lookup x=some c->X.env.cells.lookup y=some c->x=y
 has:∀ x,(X.env.kindOf x=some .cell\/X.env.kindOf x=some .free)->∃ c,X.env.cells.lookup x=some c
 cab:∀ x c,X.fn x=true->X.env.cells.lookup x=some c->X.s₀.heap.objs.size<=c
 hd:X.calm=true->X.A.handled=none
 frames:X.A.frames=some X.stack
 stk:X.stack=X.outer\/(X.stack=X.env::X.outer/\X.env.frame=some X.env.locals)
 exf:∀ b∈X.ex,b≠X.env.locals/\∀ x c,X.env.cells.lookup x=some c->c≠b
 bs:∀ b o,X.base.get? b=some o->X.s₀.heap.get? b=some o/\X.H₀ b=none
 bsz:X.base.objs.size<=X.s₀.heap.objs.size
 noex:∀ b o,X.base.get? b=some o->b ∉ X.ex
 exfs:∀ b∈X.ex,b ∉ X.fs
 funs:X.s₀.heap.FunFrames X.base X.outer
 frf:∀ b∈X.fs,X.H₀ b=none
structure Inv(X:Cx)(pins:List (Addr×Obj))(σ:List (Option V))(H:Hp)(s:Shared):Prop where
 ok:X.Ok
 os:s.os=X.s₀.os
 bare:AllBare s.gens
 base:Un X.fs X.ex X.H₀ H X.s₀.heap s.heap
 loc:∃ m,s.heap.Ns X.env.locals m/\∀ (i:Nat) (x:Str) (v:V),X.N[i]?=some x->σ[i]?=some (some v)->Vis X.env.scope x->∃ u,RelV v u/\Look X.env s.heap m x u
 cell:∀ x c,X.env.cells.lookup x=some c->∃ v,s.heap.IsCell c v
 free:H X.env.locals=none
 freeC:∀ x c,X.env.cells.lookup x=some c->H c=none
 pin:∀ p∈X.pn++pins,s.heap.get? p.1=some p.2/\H p.1=none/\p.1≠X.env.locals/\p.1 ∉ X.fs/\∀ v,p.2.data≠.cell v
 hok:HOk X.prog X.w H s.heap
 len:σ.length=X.N.length
section
variable {X:Cx} {pins:List (Addr×Obj)} {σ:List (Option V)} {H H':Hp} {s:Shared} {h':Heap}
theorem Cx.Ok.nofr(ok:X.Ok){b:Addr}{o:Obj}(e:X.base.get? b=some o):b ∉ X.fs:=fun hb=>by
 have:=(ok.funs.mem hb).1;rw[e] at this;cases this
theorem Inv.bs(I:Inv X pins σ H s):∀ b o,X.base.get? b=some o->s.heap.get? b=some o/\H b=none:=fun b o e =>
 ⟨I.base.keep b o (I.ok.bs b o e).1 (I.ok.bs b o e).2 (I.ok.nofr e) (I.ok.noex b o e),I.base.free b o (I.ok.bs b o e).1 (I.ok.bs b o e).2 (I.ok.noex b o e)⟩
theorem Inv.bk(I:Inv X pins σ H s):∀ b o,X.base.get? b=some o->s.heap.get? b=some o:=fun b o e=>(I.bs b o e).1
theorem Inv.mod(I:Inv X pins σ H s):Mod X.K X.mg X.base:=I.ok.mod
theorem Inv.kIn(I:Inv X pins σ H s):X.K.In s.heap:=I.ok.mod.kin.keeps I.bk
theorem Inv.fr(I:Inv X pins σ H s):∃ m,Fr X.base X.env.locals s.heap m :=
 let ⟨m,hn,_⟩:=I.loc
 ⟨m,hn,I.bk,AR I.ok.bsz I.ok.above⟩
theorem Inv.lt(I:Inv X pins σ H s):X.env.locals < s.heap.objs.size:=let ⟨_,hn,_⟩:=I.loc;hn.lt
theorem Inv.sz(I:Inv X pins σ H s):X.s₀.heap.objs.size<=s.heap.objs.size:=AR I.ok.above (Cr I.lt)
theorem Inv.nofs(I:Inv X pins σ H s){a:Addr}(h:s.heap.objs.size<=a):a ∉ X.fs:=fun hb=>by
 obtain⟨_,o,ho,_⟩:=I.ok.funs.mem hb;exact absurd (As (Ak ho) (AR I.sz h)) (AY _)
theorem Inv.cne(I:Inv X pins σ H s):∀ x c,X.env.cells.lookup x=some c->c≠X.env.locals:=fun x c e z=>by
 obtain⟨v,o,ho,hd⟩:=I.cell x c e;obtain⟨m,⟨o',es,ep,ho',hd',_⟩,_⟩:=I.loc;rw[z,ho'] at ho;cases ho;rw[hd'] at hd;cases hd
theorem Inv.funs(I:Inv X pins σ H s):s.heap.FunFrames X.base X.outer:=by
 have all:∀ (l:List Env),(∀ b∈frs l,b∈X.fs)->X.s₀.heap.FunFrames X.base l->s.heap.FunFrames X.base l:=by
   intro l
   induction l with
   | nil=>intro _ _;trivial
   | cons env r ih =>
     intro hs hl;obtain⟨hk,⟨L,o,hf,hn,ho,hd⟩,hr⟩:=hl;have hL:L∈X.fs:=hs L (by unfold frs;rw[B4,hf];exact Aj);obtain⟨sl,e⟩:=I.base.slot L o ho (I.ok.frf L hL) hL fun z=>I.ok.exfs L z hL;exact⟨hk,⟨L,_,hf,hn,e,hd⟩,ih (fun b hb=>hs b (by unfold frs;rw[B4,hf];exact Ah _ hb)) hr⟩
 exact all X.outer (fun _ hb=>hb) I.ok.funs
theorem Inv.stack(I:Inv X pins σ H s):s.heap.FunFrames X.base X.stack:=by
 rcases I.ok.stk with e | ⟨e,hf⟩
 . rw[e];exact I.funs
 . rw[e];obtain⟨m,hn,_⟩:=I.loc;refine .cons (by rw[I.ok.kind];decide) hf hn ?_ I.funs;exact Heap.get?_none_of_le (AR I.ok.bsz I.ok.above)
theorem Inv.stkSub(I:Inv X pins σ H s):∀ b∈frs X.stack,b∈X.env.locals::X.fs:=fun b hb=>by
 rcases I.ok.stk with e | ⟨e,hf⟩
 . rw[e] at hb;exact Ah _ hb
 . rw[e] at hb;unfold frs at hb;rw[B4,hf] at hb;exact hb
theorem Inv.stkFree(I:Inv X pins σ H s):∀ b∈frs X.stack,H b=none:=fun b hb=>by
 rcases List.mem_cons.mp (I.stkSub b hb) with e | hb
 . rw[e];exact I.free
 . obtain⟨_,o,ho,_⟩:=I.ok.funs.mem hb;exact I.base.free b o ho (I.ok.frf b hb) fun z=>I.ok.exfs b z hb
theorem Inv.step{g':Array GenState}{t':Nat}{d':Drawn}{ch:List Addr}(I:Inv X pins σ H s)
   (hch:∀ b∈ch,(b∈X.ex\/X.s₀.heap.objs.size<=b)/\b≠X.env.locals/\(∀ x c,X.env.cells.lookup x=some c->c≠b)/\∀ p∈X.pn++pins,p.1≠b)
   (keep:∀ b o,b≠X.env.locals->b ∉ X.fs->b ∉ ch->s.heap.get? b=some o->H b=none->h'.get? b=some o)
   (slot:∀ b o,b≠X.env.locals->b∈X.fs->b ∉ ch->s.heap.get? b=some o->H b=none->∃ sl,h'.get? b=some { o with slots:=sl }) (free:∀ b o,b ∉ ch->s.heap.get? b=some o->H b=none->H' b=none)
   (there:∀ b o,b ∉ ch->s.heap.get? b=some o->∃ o',h'.get? b=some o')
   (tups:∀ b xs,H b=some (.tup xs)->H' b=some (.tup xs)) (frzs:∀ b o u,H b=some (.frz o u)->H' b=some (.frz o u)) (tbls:∀ b ps,H b=some (.tbl ps)->∃ more,H' b=some (.tbl (ps++more)))
   (ns:∀ m,s.heap.Ns X.env.locals m->h'.Ns X.env.locals m) (hok:HOk X.prog X.w H' h') (hg:AllBare g') :
   Inv X pins σ H' { s with heap:=h',gens:=g',drawn:=d',toks:=t' }:=by
 have neL:∀ b o,X.s₀.heap.get? b=some o->b≠X.env.locals:=fun b o e=>AB (As (Ak e) I.ok.above);have neC:∀ b o,X.s₀.heap.get? b=some o->b ∉ X.ex->b ∉ ch:=fun b o e hx hb=>by
   rcases (hch b hb).1 with z | z
   . exact hx z
   . exact absurd (As (Ak e) z) (AY _)
 have cellK:∀ x c,X.env.cells.lookup x=some c->∀ v,s.heap.IsCell c v->h'.IsCell c v:=by
   rintro x c e v ⟨o,ho,hd⟩;have nch:c ∉ ch:=fun z=>(hch c z).2.2.1 x c e rfl
   by_cases hc:c∈X.fs
   . obtain⟨sl,q⟩:=slot c o (I.cne x c e) hc nch ho (I.freeC x c e);exact⟨_,q,hd⟩
   . exact⟨o,keep c o (I.cne x c e) hc nch ho (I.freeC x c e),hd⟩
 refine⟨I.ok,I.os,hg,⟨fun b o e n hb hx=>?_,fun b o e n hb hx=>?_,fun b o e n hx=>?_,fun b o e hx=>?_,fun b xs e=>tups b xs (I.base.tups b xs e),fun b o xs e=>frzs b o xs (I.base.frzs b o xs e),fun b ps e=>?_⟩,?_,fun x c e=>?_,?_,fun x c e=>?_,fun p hp=>?_,hok,I.len⟩
 . exact keep b o (neL b o e) hb (neC b o e hx) (I.base.keep b o e n hb hx) (I.base.free b o e n hx)
 . obtain⟨sl,e1⟩:=I.base.slot b o e n hb hx;obtain⟨sl',e2⟩:=slot b _ (neL b o e) hb (neC b o e hx) e1 (I.base.free b o e n hx);exact⟨sl',e2⟩
 . obtain⟨o',e1⟩:=I.base.there b o e hx;exact free b o' (neC b o e hx) e1 (I.base.free b o e n hx)
 . obtain⟨o',e1⟩:=I.base.there b o e hx;exact there b o' (neC b o e hx) e1
 . obtain⟨m1,e1⟩:=I.base.tbls b ps e;obtain⟨m2,e2⟩:=tbls b _ e1;exact⟨m1++m2,by rw[e2,Array.append_assoc]⟩
 . obtain⟨m,hn,hl⟩:=I.loc;refine⟨m,ns m hn,fun i x v e1 e2 e3=>?_⟩;obtain⟨u,r,l⟩:=hl i x v e1 e2 e3;refine⟨u,r,?_⟩
   rcases l with l | ⟨k,c,e,z⟩
   . exact .inl l
   . exact .inr ⟨k,c,e,cellK x c e _ z⟩
 . obtain⟨v,z⟩:=I.cell x c e;exact⟨v,cellK x c e v z⟩
 . obtain⟨m,⟨o,_,_,ho,_⟩,_⟩:=I.loc;exact free _ o (fun z=>(hch _ z).2.1 rfl) ho I.free
 . obtain⟨v,o,ho,hd⟩:=I.cell x c e;exact free c o (fun z=>(hch c z).2.2.1 x c e rfl) ho (I.freeC x c e)
 . obtain⟨e,n,ne,nf,d⟩:=I.pin p hp;have nch:p.1 ∉ ch:=fun z=>(hch p.1 z).2.2.2 p hp rfl;exact⟨keep p.1 p.2 ne nf nch e n,free p.1 p.2 nch e n,ne,nf,d⟩
theorem Inv.un{t':Nat}(I:Inv X pins σ H s)(u:Un X.fs [] H H' s.heap h')(hok:HOk X.prog X.w H' h'):Inv X pins σ H' { s with heap:=h',toks:=t' }:=by
 obtain⟨m,⟨o,es,ep,ho,r⟩,_⟩:=id I.loc;obtain⟨sl,hL⟩:=u.any ho I.free (by simp);exact I.step (g':=s.gens) (d':=s.drawn) (ch:=[]) (fun _ z=>nomatch z) (fun b o _ hb _ e n=>u.keep b o e n hb (by simp)) (fun b o _ hb _ e n=>u.slot b o e n hb (by simp)) (fun b o _ e n=>u.free b o e n (by simp)) (fun b o _ e=>u.there b o e (by simp)) u.tups u.frzs u.tbls (fun m' hm=>by
   obtain⟨o',es',ep',ho',r'⟩:=hm;rw[ho] at ho';cases ho';exact⟨_,es',ep',hL,r'⟩) hok I.bare
theorem Inv.call{g':Array GenState}{t':Nat}{d':Drawn}{ch:List Addr}(I:Inv X pins σ H s)(u:Un (frs X.stack) ch H H' s.heap h')(hok:HOk X.prog X.w H' h')(hg:AllBare g')
   (hch:∀ b∈ch,(b∈X.ex\/X.s₀.heap.objs.size<=b)/\b≠X.env.locals/\(∀ x c,X.env.cells.lookup x=some c->c≠b)/\∀ p∈X.pn++pins,p.1≠b) :
   Inv X pins σ H' { s with heap:=h',gens:=g',drawn:=d',toks:=t' }:=by
 obtain⟨m,⟨o,es,ep,ho,r⟩,_⟩:=id I.loc;obtain⟨sl,hL⟩:=u.any ho I.free fun z=>(hch _ z).2.1 rfl;exact I.step (ch:=ch) hch (fun b o hL hb hc e n=>u.keep b o e n (fun z=>(List.mem_cons.mp (I.stkSub b z)).elim hL hb) hc) (fun b o _ _ hc e n=>u.any e n hc) (fun b o hc e n=>u.free b o e n hc) (fun b o hc e=>u.there b o e hc) u.tups u.frzs u.tbls (fun m' hm=>by
   obtain⟨o',es',ep',ho',r'⟩:=hm;rw[ho] at ho';cases ho';exact⟨_,es',ep',hL,r'⟩) hok hg
theorem Inv.turned{t':Nat}{it:Addr}(I:Inv X pins σ H s)(k:∀ b o,b≠it->s.heap.get? b=some o->h'.get? b=some o)(hn:H it=none)(hL:it≠X.env.locals)
   (h1:it∈X.ex\/X.s₀.heap.objs.size<=it) (h2:∀ x c,X.env.cells.lookup x=some c->c≠it) (h3:∀ p∈X.pn++pins,p.1≠it):Inv X pins σ H { s with heap:=h',toks:=t' }:=by
 have nit:∀ b u,H b=some u->b≠it:=fun b u e z=>by rw[z,hn] at e;cases e
 refine I.step (g':=s.gens) (d':=s.drawn) (ch:=[it]) (fun b hb=>?_) (fun b o _ _ hc e _=>k b o (fun z=>hc (by simp[z])) e) (fun b o _ _ hc e _=>⟨o.slots,k b o (fun z=>hc (by simp[z])) e⟩) (fun _ _ _ _ n=>n)
   (fun b o hc e=>⟨o,k b o (fun z=>hc (by simp[z])) e⟩) (fun _ _ e=>e) (fun _ _ _ e=>e) (fun b ps e=>⟨#[],by rw[e];simp⟩) (fun m hm=>?_) (fun b u e=>?_) I.bare
 . have e:b=it:=by simpa using hb
   subst e;exact⟨h1,hL,h2,h3⟩
 . obtain⟨o,es,ep,ho,r⟩:=hm;exact⟨o,es,ep,k _ o (BL hL) ho,r⟩
 . refine (I.hok b u e).stay (fun c v hc q=>k c v ?_ q) (fun _ q=>q) fun _ _ q=>q
   rcases hc with z | z
   . rw[z];exact nit b u e
   . exact nit c _ z
theorem Inv.tok(I:Inv X pins σ H s)(t:Nat):Inv X pins σ H { s with toks:=t }:=I.un (h':=s.heap) (t':=t) Un.refl I.hok
theorem Inv.kept{t':Nat}(I:Inv X pins σ H s)(k:∀ b u,s.heap.get? b=some u->h'.get? b=some u):Inv X pins σ H { s with heap:=h',toks:=t' }:=I.un (Un.kept k) (I.hok.kept k)
theorem Inv.laid{a:Addr}{o:HO}{t':Nat}(I:Inv X pins σ H s)(k:∀ b u,s.heap.get? b=some u->h'.get? b=some u)(hp:s.heap.objs.size<=a)(new:zdi X.prog X.w (upd H a o) h' a o) :
   Inv X pins σ (upd H a o) { s with heap:=h',toks:=t' }:=I.un (Un.laid k hp (I.hok.fresh hp)) (I.hok.laid k hp new)
theorem Inv.write{x e:Addr}{o:HO}{t':Nat}(I:Inv X pins σ H s)(mu:Mut (H x))(he:e=x\/H e=some (.own x))(k:∀ b u,b≠e->s.heap.get? b=some u->h'.get? b=some u)(heo:∃ u,h'.get? e=some u)
   (new:zdi X.prog X.w (upd H x o) h' x o):Inv X pins σ (upd H x o) { s with heap:=h',toks:=t' }:=I.un (Un.write mu he k heo) (I.hok.write mu he k heo new)
theorem Inv.pins_of{pins':List (Addr×Obj)}(I:Inv X pins σ H s)(h:∀ p∈pins',s.heap.get? p.1=some p.2/\H p.1=none/\p.1≠X.env.locals/\p.1 ∉ X.fs/\∀ v,p.2.data≠.cell v):Inv X pins' σ H s :=
 ⟨I.ok,I.os,I.bare,I.base,I.loc,I.cell,I.free,I.freeC,fun p hp=>(List.mem_append.mp hp).elim (fun z=>I.pin p (Bx _ z)) (h p),I.hok,I.len⟩
theorem ziD{N:List Str}(hN:N.Nodup){i j:Nat}{x:Str}(a:N[i]?=some x)(b:N[j]?=some x):i=j:=by
 obtain⟨h1,e1⟩:=List.getElem?_eq_some_iff.mp a;obtain⟨h2,e2⟩:=List.getElem?_eq_some_iff.mp b;exact (GD hN).mp (e1.trans e2.symm)
theorem zgA{M:Model}{A:Around}{E:Value->Shared->Prop}{i:Nat}{x:Str}{v:V}{u:Value}{Q:Unit->Shared->Prop}(I:Inv X pins σ H s)(hN:X.N.Nodup)(hi:X.N[i]?=some x)(hx:Loc X.env.scope x)(r:RelV v u)
   (h:∀ s',Inv X pins (σ.set i (some v)) H s'->(∃ a,Bg a s.heap s'.heap/\(a=X.env.locals\/X.env.cells.lookup x=some a))->Q () s') (hf:X.fn x=true\/X.env.scope.names.lookup x=some .local:=by first | exact .inl rfl | exact .inr rfl | assumption):wpAny M A (storeName X.env x u) Q E s:=by
 obtain⟨m,hn,hl⟩:=id I.loc;have hcls:(X.env.scope.kind==.class || (X.env.scope.kind==.module&&X.env.locals != X.env.globals))=false:=by rw[I.ok.kind];rfl
 have hiσ:i < σ.length:=by rw[I.len];exact (List.getElem?_eq_some_iff.mp hi).1
 have cne:=I.cne;have tracked:∀ {a:Addr} {h':Heap},(∃ o,s.heap.get? a=some o/\H a=none)->Bg a s.heap h'->HOk X.prog X.w H h':=fun {a h'} ha hs b ob e=>by
   obtain⟨_,_,hfree⟩:=ha;refine (I.hok b ob e).stay (fun c w' hc q=>(hs.2 c ?_).trans q) (fun _ q=>q) fun _ _ q=>q;rintro rfl
   rcases hc with rfl | hc
   . rw[hfree] at e;cases e
   . rw[hfree] at hc;cases hc
 rcases hx with hk | hk
 . refine wpAny_storeName_local hk hn (fun h' hn' hs=>?_) hcls;obtain⟨oL,_,_,hoL,_⟩:=id hn;refine h _ ⟨I.ok,I.os,I.bare,⟨fun b o e n hb hx=>?_,fun b o e n hb hx=>?_,I.base.free,fun b o e hx=>?_,I.base.tups,I.base.frzs,I.base.tbls⟩,⟨_,hn',fun j y v' e1 e2 e3=>?_⟩,fun y c e=>?_,I.free,I.freeC,fun p hp=>?_,tracked ⟨oL,hoL,I.free⟩ hs,by simpa using I.len⟩ ⟨_,hs,.inl rfl⟩
   . exact (hs.2 b (AB (As (Ak e) I.ok.above))).trans (I.base.keep b o e n hb hx)
   . obtain⟨sl,e1⟩:=I.base.slot b o e n hb hx;exact⟨sl,(hs.2 b (AB (As (Ak e) I.ok.above))).trans e1⟩
   . obtain⟨o',e1⟩:=I.base.there b o e hx;exact⟨o',(hs.2 b (AB (As (Ak e) I.ok.above))).trans e1⟩
   . by_cases hj:j=i
     . subst hj;rw[hi] at e1;cases e1;rw[CJ hiσ] at e2;cases e2;exact⟨u,r,.inl ⟨hk,by simp⟩⟩
     . rw[AO (BL hj)] at e2;obtain⟨u',r',q⟩:=hl j y v' e1 e2 e3;refine⟨u',r',?_⟩
       rcases q with ⟨k,e⟩ | ⟨k,c,e,z⟩
       . refine .inl ⟨k,?_⟩;have:y≠x:=fun e=>hj (ziD hN e1 (e ▸ hi));simp[this,e]
       . exact .inr ⟨k,c,e,z.sameBut hs (cne y c e)⟩
   . obtain⟨w',z⟩:=I.cell y c e;exact⟨w',z.sameBut hs (cne y c e)⟩
   . obtain⟨e,n,ne,nf,d⟩:=I.pin p hp;exact⟨(hs.2 p.1 ne).trans e,n,ne,nf,d⟩
 . have hfn:X.fn x=true:=by
     rcases hf with z | z
     . exact z
     . rw[z] at hk;cases hk
   obtain⟨c,hc⟩:=I.ok.has x (.inl hk);obtain⟨w',z⟩:=I.cell x c hc;refine wpAny_storeName_cell I.ok.kind hk hc z (fun h' hc' hs=>?_);obtain⟨oc,hoc,hocd⟩:=id z;refine h { s with heap:=h' } ⟨I.ok,I.os,I.bare,⟨fun b o e n hb hx=>?_,fun b o e n hb hx=>?_,I.base.free,fun b o e hx=>?_,I.base.tups,I.base.frzs,I.base.tbls⟩,⟨m,hn.sameBut hs (BL (cne x c hc)),fun j y v' e1 e2 e3=>?_⟩,fun y c' e=>?_,I.free,I.freeC,fun p hp=>?_,tracked ⟨oc,hoc,I.freeC x c hc⟩ hs,by simpa using I.len⟩ ⟨c,hs,.inr hc⟩
   . exact (hs.2 b (AB (As (Ak e) (I.ok.cab x c hfn hc)))).trans (I.base.keep b o e n hb hx)
   . obtain⟨sl,e1⟩:=I.base.slot b o e n hb hx;exact⟨sl,(hs.2 b (AB (As (Ak e) (I.ok.cab x c hfn hc)))).trans e1⟩
   . obtain⟨o',e1⟩:=I.base.there b o e hx;exact⟨o',(hs.2 b (AB (As (Ak e) (I.ok.cab x c hfn hc)))).trans e1⟩
   . by_cases hj:j=i
     . subst hj;rw[hi] at e1;cases e1;rw[CJ hiσ] at e2;cases e2;exact⟨u,r,.inr ⟨.inl hk,c,hc,hc'⟩⟩
     . rw[AO (BL hj)] at e2;obtain⟨u',r',q⟩:=hl j y v' e1 e2 e3;refine⟨u',r',?_⟩
       rcases q with q | ⟨k,c',e,z'⟩
       . exact .inl q
       . refine .inr ⟨k,c',e,z'.sameBut hs ?_⟩;rintro rfl;exact hj (ziD hN e1 (I.ok.inj _ _ _ e hc ▸ hi))
   . by_cases hcc:c'=c
     . subst hcc;exact⟨_,hc'⟩
     . obtain⟨w2,z2⟩:=I.cell y c' e;exact⟨w2,z2.sameBut hs hcc⟩
   . obtain⟨e,n,ne,nf,d⟩:=I.pin p hp;refine⟨(hs.2 p.1 ?_).trans e,n,ne,nf,d⟩;intro q;rw[q,hoc] at e;have q':oc=p.2:=Ay e;exact d w' (by rw[<-q'];exact hocd)
theorem zcX{M:Model}{A:Around}{E:Value->Shared->Prop}{i:Nat}{x:Str}{v:V}{u:Value}{Q:Unit->Shared->Prop}(I:Inv X pins σ H s)(hN:X.N.Nodup)(hi:X.N[i]?=some x)(hx:Loc X.env.scope x)(r:RelV v u)
   (h:∀ s',Inv X pins (σ.set i (some v)) H s'->Q () s') (hf:X.fn x=true\/X.env.scope.names.lookup x=some .local:=by first | exact .inl rfl | exact .inr rfl | assumption):wpAny M A (storeName X.env x u) Q E s :=
 zgA I hN hi hx r (fun s' I' _=>h s' I') hf
theorem Inv.call'{s':Shared}{ch:List Addr}(I:Inv X pins σ H s)(ho:s'.os=s.os)(u:Un (frs X.stack) ch H H' s.heap s'.heap)(hok:HOk X.prog X.w H' s'.heap)(hg:AllBare s'.gens)
   (hch:∀ b∈ch,(b∈X.ex\/X.s₀.heap.objs.size<=b)/\b≠X.env.locals/\(∀ x c,X.env.cells.lookup x=some c->c≠b)/\∀ p∈X.pn++pins,p.1≠b):Inv X pins σ H' s':=by
 obtain⟨h',g',d',t',o'⟩:=s';have e:o'=s.os:=ho;subst e;exact I.call (g':=g') (t':=t') (d':=d') u hok hg hch
end
noncomputable abbrev XK:=Value->Option Addr->Hp->Prop
noncomputable abbrev St:=List (Option V)
noncomputable abbrev VK:=V->Hp->Prop
noncomputable abbrev TE:=St->Hp->VK->Prop
noncomputable abbrev TT:=St->Hp->(Bool->Hp->Prop)->Prop
noncomputable abbrev TA:=St->Hp->(List V->Hp->Prop)->Prop
structure Ends where
 nx:St->Hp->Prop
 rt:VK
 bk:St->Hp->Prop:=fun _ _=>False
 ct:St->Hp->Prop:=fun _ _=>False
noncomputable abbrev TS:=Ends->St->Hp->Prop
def EP(X:Cx)(pins:List (Addr×Obj))(σ:St)(Q:VK)(u:Value)(s':Shared):Prop:=∃ v H',Inv X pins σ H' s'/\RelV v u/\Q v H'
def TP(X:Cx)(pins:List (Addr×Obj))(σ:St)(Q:Bool->Hp->Prop)(b:Bool)(s':Shared):Prop:=∃ H',Inv X pins σ H' s'/\Q b H'
def AP(X:Cx)(pins:List (Addr×Obj))(σ:St)(Q:List V->Hp->Prop)(us:List Value)(s':Shared):Prop:=∃ vs H',Inv X pins σ H' s'/\Vals vs us/\Q vs H'
def SP(X:Cx)(pins:List (Addr×Obj))(D:Ends)(f:Flow)(s':Shared):Prop :=
 match f with
 | .next=>∃ σ' H',Inv X pins σ' H' s'/\D.nx σ' H'
 | .brk=>∃ σ' H',Inv X pins σ' H' s'/\D.bk σ' H'
 | .cont=>∃ σ' H',Inv X pins σ' H' s'/\D.ct σ' H'
 | .ret u=>∃ v σ' H',Inv X pins σ' H' s'/\RelV v u/\D.rt v H'
def PE(X:Cx)(e:Expr)(t:TE):Prop :=
 ∀ (pins:List (Addr×Obj)) (s:Shared) (σ:St) (H:Hp) (Q:VK),Inv X pins σ H s->t σ H Q->wpAny (model X.prog X.w) X.A (eval e X.env) (EP X pins σ Q) X.xe s
def PT(X:Cx)(e:Expr)(t:TT):Prop :=
 ∀ (pins:List (Addr×Obj)) (s:Shared) (σ:St) (H:Hp) (Q:Bool->Hp->Prop),Inv X pins σ H s->t σ H Q->wpAny (model X.prog X.w) X.A (isTrue e X.env (eval e X.env)) (TP X pins σ Q) X.xe s
def PW(X:Cx)(e:Expr)(t:TT):Prop :=
 ∀ (whole:Sem Value) (pins:List (Addr×Obj)) (s:Shared) (σ:St) (H:Hp) (Q:Bool->Hp->Prop),Inv X pins σ H s->t σ H Q->wpAny (model X.prog X.w) X.A (isTrue e X.env whole) (TP X pins σ Q) X.xe s
theorem PW.pt{X:Cx}{e:Expr}{t:TT}(h:PW X e t):PT X e t:=h _
def PA(X:Cx)(es:List Expr)(t:TA):Prop :=
 ∀ (pos:Pos) (pins:List (Addr×Obj)) (s:Shared) (σ:St) (H:Hp) (Q:List V->Hp->Prop),Inv X pins σ H s->t σ H Q->wpAny (model X.prog X.w) X.A (spliced (backTo pos (starEach es X.env))) (AP X pins σ Q) X.xe s
def PS(X:Cx)(st:Stmt)(t:TS):Prop :=
 ∀ (pins:List (Addr×Obj)) (s:Shared) (σ:St) (H:Hp) (D:Ends),Inv X pins σ H s->t D σ H->wpAny (model X.prog X.w) X.A (exec st X.env) (SP X pins D) X.xe s
def PSs(X:Cx)(st:List Stmt)(t:TS):Prop :=
 ∀ (pins:List (Addr×Obj)) (s:Shared) (σ:St) (H:Hp) (D:Ends),Inv X pins σ H s->t D σ H->wpAny (model X.prog X.w) X.A (execs st X.env) (SP X pins D) X.xe s
theorem thn{α:Type}{t:Sem α}{Q Q':α->Shared->Prop}{M:Model}{A:Around}{E:Value->Shared->Prop}{s:Shared}(h:wpAny M A t Q E s)(hQ:∀ a s,Q a s->Q' a s):wpAny M A t Q' E s:=BH h hQ fun _ _ x=>x
section
variable {X:Cx}
noncomputable def tVar(i:Nat):TE:=fun σ H Q=>∃ v,σ[i]?=some (some v)/\Q v H
noncomputable def tC(v:V):TE:=fun _ H Q=>Q v H
theorem zod{i:Nat}{x:Str}{pos:Pos}(hN:X.N[i]?=some x)(hv:Vis X.env.scope x)(hd:(x==("__debug__":Str))=false:=by decide)(hcd:(x==("__classdict__":Str))=false:=by decide):PE X (.Name x pos) (tVar i):=by
 intro pins s σ H Q I h;obtain⟨v,e,h⟩:=h;obtain⟨m,hn,hl⟩:=I.loc;obtain⟨u,r,l⟩:=hl i x v hN e hv;have fin:EP X pins σ Q u s:=⟨v,H,I,r,h⟩
 rcases l with ⟨hk,hm⟩ | ⟨hk,c,hc,hcell⟩
 . exact GS (wpAny_loadName_local I.ok.kind hk hn hm fin) hd
 . rcases hk with hk | hk
   . exact GS (wpAny_loadName_cell I.ok.kind hk hc hcell fin) hd
   . exact GS (wpAny_loadName_free I.ok.kind hk hc hcell fin hcd) hd
theorem zqj{i j pos}:PE X (.Constant (.int i) j pos) (tC (.int i)):=fun _ _ _ H _ I h=>wpAny_Constant_int ⟨.int i,H,I.tok _,⟨_,rfl⟩,h⟩
theorem zrM{b j pos}:PE X (.Constant (.bool b) j pos) (tC (.bl b)):=fun _ _ _ H _ I h=>Constant_bool ⟨.bl b,H,I,rfl,h⟩
theorem zqh{j pos}:PE X (.Constant .none j pos) (tC .non):=fun _ _ _ H _ I h=>Constant_none ⟨.non,H,I,rfl,h⟩
theorem zqd{x j pos}:PE X (.Constant (.str x) j pos) (tC (.str x)):=fun _ _ _ H _ I h=>Calls.Constant_str ⟨.str x,H,I.tok _,⟨_,rfl⟩,h⟩
def Gl(X:Cx)(x:Str):Prop:=X.env.kindOf x=some .globalImplicit
theorem zoI{E:Value->Shared->Prop}{pins:List (Addr×Obj)}{s:Shared}{σ:St}{H:Hp}{x:Str}{u:Value}{pos:Pos}{Q:Value->Shared->Prop}(I:Inv X pins σ H s)(hg:Gl X x)(hm:X.mg x=some u)(h:Q u s)
   (hd:(x==("__debug__":Str))=false:=by decide):wpAny (model X.prog X.w) X.A (eval (.Name x pos) X.env) Q E s :=
 Ee I.ok.kind hg (Calls.loadGlobal_global (by rw[I.ok.glob];exact I.mod.glob.keeps I.bk) hm h) hd
theorem ziO{E:Value->Shared->Prop}{pins:List (Addr×Obj)}{s:Shared}{σ:St}{H:Hp}{x:Str}{u:Value}{pos:Pos}{Q:Value->Shared->Prop}(I:Inv X pins σ H s)(hg:Gl X x)(hm:X.mg x=none)(hv:bootBuiltins x=some u)(h:Q u s)
   (hn:x≠"__name__":=by decide) (hd:(x==("__debug__":Str))=false:=by decide):wpAny (model X.prog X.w) X.A (eval (.Name x pos) X.env) Q E s:=by
 obtain⟨mb,h1,h2⟩:=I.mod.blt;exact Ee I.ok.kind hg (Calls.loadGlobal_builtin (by rw[I.ok.glob];exact I.mod.glob.keeps I.bk) hm (by rw[I.ok.blt];exact h1.keeps I.bk) ((h2 x hn).trans hv) h) hd
theorem zoj{x:Str}{v:V}{u:Value}{pos:Pos}(hg:Gl X x)(hm:X.mg x=none)(hv:bootBuiltins x=some u)(r:RelV v u)(hn:x≠"__name__":=by decide)(hd:(x==("__debug__":Str))=false:=by decide):PE X (.Name x pos) (tC v) :=
 fun _ _ _ H _ I h=>ziO I hg hm hv ⟨v,H,I,r,h⟩ hn hd
variable {a b:Expr} {ta tb:TE} {pos:Pos}
def PC(X:Cx)(op:CmpOp)(a b:Expr)(t:TE):Prop :=
 ∀ (pins:List (Addr×Obj)) (s:Shared) (σ:St) (H:Hp) (Q:VK),Inv X pins σ H s->t σ H Q ->
   wpAny (model X.prog X.w) X.A (eval a X.env) (fun v s₁=>wpAny (model X.prog X.w) X.A (eval b X.env) (fun u s₂=>wpAny (model X.prog X.w) X.A (compareOp op v u) (EP X pins σ Q) X.xe s₂) X.xe s₁) X.xe s
noncomputable def tB(t:TE):TT:=fun σ H Q=>t σ H fun x H1=>∃ c,x=.bl c/\Q c H1
theorem zpV{op:CmpOp}{t:TE}(h:PC X op a b t)(h1:behindInMarks op b=false:=by first | exact nobehind _ (by decide) (by decide) | rfl):PT X (.Compare a [op] [b] pos) (tB t):=by
 intro pins s σ H Q I hw;refine Ft (thn (h pins s σ H _ I hw) fun v s1 h1=>thn h1 fun u s2 h2=>thn h2 ?_) h1;rintro c s3 ⟨x,H1,I1,r1,q1⟩;obtain⟨d,rfl,q⟩:=q1;cases r1;exact BX ⟨H1,I1,q⟩
variable {tA tB':TT} {rest:List Expr}
noncomputable def tAnd(t u:TT):TT:=fun σ H Q=>t σ H fun c H1=>if c=true then u σ H1 Q else Q false H1
noncomputable def tOr(t u:TT):TT:=fun σ H Q=>t σ H fun c H1=>if c=true then Q true H1 else u σ H1 Q
noncomputable def tNot(t:TT):TT:=fun σ H Q=>t σ H fun c H1=>Q (!c) H1
theorem pw_and1(ha:PT X a tA):PW X (.BoolOp .And [a] pos) tA:=by
 intro wh pins s σ H Q I h;refine isTrue_and (thn (ha pins s σ H Q I h) fun c s1 e=>?_)
 cases c with
 | true=>exact isTrue_and_nil e
 | false=>exact e
theorem pw_or1(ha:PT X a tA):PW X (.BoolOp .Or [a] pos) tA:=by
 intro wh pins s σ H Q I h;refine isTrue_or (thn (ha pins s σ H Q I h) fun c s1 e=>?_)
 cases c with
 | false=>exact isTrue_or_nil e
 | true=>exact e
theorem pw_and(ha:PT X a tA)(hb:PW X (.BoolOp .And (b::rest) pos) tB'):PW X (.BoolOp .And (a::b::rest) pos) (tAnd tA tB'):=by
 intro wh pins s σ H Q I h;refine isTrue_and (thn (ha pins s σ H _ I h) ?_);rintro c s1 ⟨H1,I1,q1⟩
 cases c with
 | true=>exact hb wh pins s1 σ H1 Q I1 q1
 | false=>exact⟨H1,I1,q1⟩
theorem pw_or(ha:PT X a tA)(hb:PW X (.BoolOp .Or (b::rest) pos) tB'):PW X (.BoolOp .Or (a::b::rest) pos) (tOr tA tB'):=by
 intro wh pins s σ H Q I h;refine isTrue_or (thn (ha pins s σ H _ I h) ?_);rintro c s1 ⟨H1,I1,q1⟩
 cases c with
 | true=>exact⟨H1,I1,q1⟩
 | false=>exact hb wh pins s1 σ H1 Q I1 q1
theorem zpU(ha:PT X a tA):PT X (.UnaryOp .Not a pos) (tNot tA):=by
 intro pins s σ H Q I h;exact isTrue_not (ha pins s σ H (fun c H1=>Q (!c) H1) I h)
noncomputable def zrz(ta tb:TE):TE:=fun σ H Q=>ta σ H fun x H1=>∃ c,x=.bl c/\if c=true then tb σ H1 Q else Q (.bl false) H1
noncomputable def zrt(ta:TE):TE:=fun σ H Q=>ta σ H fun x H1=>∃ c,x=.bl c/\Q (.bl (!c)) H1
theorem zqf{op}{t:TE}(h:PE X a t):PE X (.BoolOp op [a] pos) t:=fun pins s σ H Q I hw=>BoolOp_one (h pins s σ H Q I hw)
theorem zqk(ha:PE X a ta)(hb:PE X (.BoolOp .And (b::rest) pos) tb):PE X (.BoolOp .And (a::b::rest) pos) (zrz ta tb):=by
 intro pins s σ H Q I h;refine BoolOp_and (thn (ha pins s σ H _ I h) ?_);rintro v s1 ⟨x,H1,I1,r1,q1⟩;obtain⟨c,rfl,q1⟩:=q1;cases r1;refine BX ?_
 cases c with
 | true=>exact hb pins s1 σ H1 Q I1 q1
 | false=>exact⟨.bl false,H1,I1,rfl,q1⟩
theorem zqg(ha:PE X a ta):PE X (.UnaryOp .Not a pos) (zrt ta):=by
 intro pins s σ H Q I h;refine UnaryOp_ (thn (ha pins s σ H _ I h) ?_);rintro v s1 ⟨x,H1,I1,r1,q1⟩;obtain⟨c,rfl,q1⟩:=q1;cases r1;exact not_of (BX ⟨.bl (!c),H1,I1,rfl,q1⟩)
end
def SqL(K:Ae)(H:Hp)(a:Addr)(xs:List V):Prop :=
 Rd H a (.lst xs) \/
   ∃ (o:Obj) (its:Array Value) (n:Nat),K.lookup a=some o/\o.cls=.type "list"/\o.dict=none/\o.data=.seq its n/\its.size<=sizeLine/\Vals xs its.toList
def SqT(K:Ae)(H:Hp)(a:Addr)(xs:List V):Prop :=
 Rd H a (.tup xs) \/
   ∃ (o:Obj) (its:Array Value) (n:Nat),K.lookup a=some o/\o.cls=.type "tuple"/\o.data=.seq its n/\its.size<=sizeLine/\Vals xs its.toList
noncomputable def absV:Value->Option V
 | .none=>some .non
 | .bool b=>some (.bl b)
 | .int i _=>some (.int i)
 | .str x _=>some (.str x)
 | .bytes b _=>some (.byt b)
 | .float b _=>some (.flt b)
 | .ref a=>some (.ref a)
 | .type n=>some (.ty n)
 | _=>none
theorem RelV.abs{x:V}{u:Value}(r:RelV x u):absV u=some x:=by
 cases x with
 | non=>cases r;rfl
 | bl _=>cases r;rfl
 | int _=>obtain⟨t,rfl⟩:=r;rfl
 | str _=>obtain⟨t,rfl⟩:=r;rfl
 | byt _=>obtain⟨t,rfl⟩:=r;rfl
 | flt _=>obtain⟨t,rfl⟩:=r;rfl
 | ref _=>cases r;rfl
 | ty _=>cases r;rfl
theorem RelV.inj{x y:V}{u:Value}(r:RelV x u)(q:RelV y u):x=y:=Ay (r.abs.symm.trans q.abs)
theorem Vals.inj:∀ {xs ys:List V} {us:List Value},Vals xs us->Vals ys us->xs=ys
 | _,_,_,.nil,.nil=>rfl
 | _,_,_,.cons r t,.cons r' t'=>by rw[r.inj r',Vals.inj t t']
section
variable {X:Cx} {pins:List (Addr×Obj)} {σ:St} {H:Hp} {s:Shared} {a:Addr} {xs ys:List V}
theorem SqL.of{K:Ae}(h:H a=some (.lst xs)):SqL K H a xs:=.inl (.inl h)
theorem SqT.of{K:Ae}(h:H a=some (.tup xs)):SqT K H a xs:=.inl (.inl h)
theorem Inv.list(I:Inv X pins σ H s)(h:SqL X.K H a xs):∃ its:List Value,Vals xs its/\PlainL s.heap a its.toArray/\xs.length<=sizeLine:=by
 rcases h with h | ⟨o,its,n,hk,hc,hd,hs,hz,r⟩
 . obtain⟨z,its,n,r,e⟩:=h.ok I.hok;exact⟨its,r,⟨_,n,e,rfl,rfl,rfl⟩,z⟩
 . refine⟨its.toList,r,⟨o,n,I.kIn a o hk,hc,hd,by simpa using hs⟩,?_⟩;have e:=r.length;simp only[Au] at e;omega
theorem Inv.tuple(I:Inv X pins σ H s)(h:SqT X.K H a xs):∃ its:List Value,Vals xs its/\IsTup s.heap a its.toArray/\xs.length<=sizeLine:=by
 rcases h with h | ⟨o,its,n,hk,hc,hs,hz,r⟩
 . obtain⟨z,its,r,p⟩:=h.ok I.hok;exact⟨its,r,p.t,z⟩
 . refine⟨its.toList,r,⟨o,I.kIn a o hk,hc,n,by simpa using hs⟩,?_⟩;have e:=r.length;simp only[Au] at e;omega
theorem Inv.list_inj(I:Inv X pins σ H s)(h:SqL X.K H a xs)(h':SqL X.K H a ys):xs=ys:=by
 obtain⟨its,r,⟨o,n,e,_,_,d⟩,_⟩:=I.list h;obtain⟨its',r',⟨o',n',e',_,_,d'⟩,_⟩:=I.list h';rw[e] at e';cases e';rw[d] at d';injection d' with d1 _
 have:its=its':=by simpa using congrArg Hw d1
 subst this;exact r.inj r'
theorem Inv.tuple_inj(I:Inv X pins σ H s)(h:SqT X.K H a xs)(h':SqT X.K H a ys):xs=ys:=by
 obtain⟨its,r,⟨o,e,_,n,d⟩,_⟩:=I.tuple h;obtain⟨its',r',⟨o',e',_,n',d'⟩,_⟩:=I.tuple h';rw[e] at e';cases e';rw[d] at d';injection d' with d1 _
 have:its=its':=by simpa using congrArg Hw d1
 subst this;exact r.inj r'
end
noncomputable abbrev Cx.wish (X:Cx) (E:Value->Shared->Prop):Cx:={ X with xe:=E }
noncomputable abbrev Cx.nox (X:Cx):Cx:=X.wish fun _ _=>False
theorem Cx.Ok.wish{X:Cx}(ok:X.Ok)(E:Value->Shared->Prop):(X.wish E).Ok :=
 ⟨ok.mod,ok.kind,ok.glob,ok.blt,ok.above,ok.inj,ok.has,ok.cab,ok.hd,ok.frames,ok.stk,ok.exf,ok.bs,ok.bsz,ok.noex,ok.exfs,ok.funs,ok.frf⟩
theorem Cx.Ok.unwish{X:Cx}{E:Value->Shared->Prop}(ok:(X.wish E).Ok):X.Ok :=
 ⟨ok.mod,ok.kind,ok.glob,ok.blt,ok.above,ok.inj,ok.has,ok.cab,ok.hd,ok.frames,ok.stk,ok.exf,ok.bs,ok.bsz,ok.noex,ok.exfs,ok.funs,ok.frf⟩
section
variable {X:Cx} {pins:List (Addr×Obj)} {σ:St} {H:Hp} {s:Shared} {E:Value->Shared->Prop}
theorem Inv.wish(I:Inv X pins σ H s)(E:Value->Shared->Prop):Inv (X.wish E) pins σ H s:=⟨I.ok.wish E,I.os,I.bare,I.base,I.loc,I.cell,I.free,I.freeC,I.pin,I.hok,I.len⟩
theorem Inv.unwish(I:Inv (X.wish E) pins σ H s):Inv X pins σ H s:=⟨I.ok.unwish,I.os,I.bare,I.base,I.loc,I.cell,I.free,I.freeC,I.pin,I.hok,I.len⟩
theorem SP.unwish{D:Ends}{f:Flow}{s':Shared}(h:SP (X.wish E) pins D f s'):SP X pins D f s':=by
 cases f with
 | next=>obtain⟨σ',H',I,q⟩:=h;exact⟨σ',H',I.unwish,q⟩
 | brk=>obtain⟨σ',H',I,q⟩:=h;exact⟨σ',H',I.unwish,q⟩
 | cont=>obtain⟨σ',H',I,q⟩:=h;exact⟨σ',H',I.unwish,q⟩
 | ret u=>obtain⟨v,σ',H',I,r,q⟩:=h;exact⟨v,σ',H',I.unwish,r,q⟩
theorem PSs.nox{st:List Stmt}{t:TS}(h:PSs X.nox st t):PSs X st t:=fun pins s σ H D I hw =>
 BH (h pins s σ H D (I.wish _) hw) (fun _ _ q=>q.unwish) fun _ _ z=>False.elim z
end
section
variable {X:Cx} {st:Stmt} {rest:List Stmt} {t u:TS} {e:Expr} {te:TE} {pos:Pos}
noncomputable def zru:TS:=fun D σ H=>D.nx σ H
noncomputable def tSeq(t u:TS):TS:=fun D σ H=>t { D with nx:=u D } σ H
theorem zn4:PSs X [] zru:=fun _ _ σ H _ I h=>EU ⟨σ,H,I,h⟩
theorem zl7(h1:PS X st t)(h2:PSs X rest u):PSs X (st::rest) (tSeq t u):=by
 intro pins s σ H D I h;refine wpAny_execs_cons (thn (h1 pins s σ H { D with nx:=u D } I h) fun f s1 q=>?_)
 cases f with
 | next =>
   obtain⟨σ',H',I',q⟩:=q;exact h2 pins s1 σ' H' D I' q
 | ret v=>exact q
 | brk=>exact q
 | cont=>exact q
theorem zn3(h1:PS X st t):PSs X [st] t:=by
 intro pins s σ H D I h;refine wpAny_execs_cons (thn (h1 pins s σ H D I h) fun f s1 q=>?_)
 cases f with
 | next=>exact EU q
 | ret v=>exact q
 | brk=>exact q
 | cont=>exact q
theorem Inv.quiet{pins:List (Addr×Obj)}{σ:St}{H:Hp}{s:Shared}(I:Inv X pins σ H s):interactive X.env=false:=by simp[interactive,I.ok.kind]
noncomputable def zrv(te:TE):TS:=fun D σ H=>te σ H fun _ H1=>D.nx σ H1
theorem zn6(he:PE X e te)(hs:swapsWith e none pos.line X.env=pure false:=by rfl):PS X (.Expr e pos) (zrv te):=by
 intro pins s σ H D I h;exact wpAny_Expr_any (thn (he pins s σ H _ I h) fun v s1 ⟨x,H1,I1,r1,q1⟩=>⟨σ,H1,I1,q1⟩) I.quiet hs
noncomputable def tRet(te:TE):TS:=fun D σ H=>te σ H D.rt
theorem zpX(he:PE X e te):PS X (.Return (some e) pos) (tRet te):=by
 intro pins s σ H D I h;exact wpAny_Return_some (thn (he pins s σ H _ I h) fun v s1 ⟨x,H1,I1,r1,q1⟩=>⟨x,σ,H1,I1,r1,q1⟩)
noncomputable def tIfS(c:TT)(t u:TS):TS:=fun D σ H=>c σ H fun b H1=>if b=true then t D σ H1 else u D σ H1
theorem zrH{c:Expr}{a b:List Stmt}{tc:TT}(hc:PT X c tc)(ha:PSs X a t)(hb:PSs X b u):PS X (.If c a b pos) (tIfS tc t u):=by
 intro pins s σ H D I h;refine wpAny_If (thn (hc pins s σ H _ I h) ?_);rintro d s1 ⟨H1,I1,q1⟩
 cases d with
 | true=>exact ha pins s1 σ H1 D I1 q1
 | false=>exact hb pins s1 σ H1 D I1 q1
end
noncomputable abbrev TG:=V->St->Hp->(St->Hp->Prop)->Prop
noncomputable abbrev TGs:=List V->St->Hp->(St->Hp->Prop)->Prop
def PG(X:Cx)(target:Expr)(t:TG):Prop :=
 ∀ (pins:List (Addr×Obj)) (s:Shared) (σ:St) (H:Hp) (v:V) (u:Value) (Q:St->Hp->Prop),Inv X pins σ H s->RelV v u->t v σ H Q ->
   wpAny (model X.prog X.w) X.A (assign target X.env u) (fun _ s'=>∃ σ' H',Inv X pins σ' H' s'/\Q σ' H') X.xe s
def PGs(X:Cx)(ts:List Expr)(t:TGs):Prop :=
 ∀ (pins:List (Addr×Obj)) (s:Shared) (σ:St) (H:Hp) (vs:List V) (us:List Value) (Q:St->Hp->Prop),Inv X pins σ H s->Vals vs us->t vs σ H Q ->
   wpAny (model X.prog X.w) X.A (assignInOrder ((assignEach ts X.env).map (·.2)) us) (fun _ s'=>∃ σ' H',Inv X pins σ' H' s'/\Q σ' H') X.xe s
noncomputable abbrev TSet:=V->V->V->Hp->(Hp->Prop)->Prop
def PSet(X:Cx)(t:TSet):Prop :=
 ∀ (pins:List (Addr×Obj)) (s:Shared) (σ:St) (H:Hp) (o i v:V) (ov iv u:Value) (Q:Hp->Prop),Inv X pins σ H s->RelV o ov->RelV i iv->RelV v u->t o i v H Q ->
   wpAny (model X.prog X.w) X.A (setItem ov iv u) (fun _ s'=>∃ H',Inv X pins σ H' s'/\Q H') X.xe s
section
variable {X:Cx} {pos:Pos}
noncomputable def zrg(i:Nat):TG:=fun v σ H Q=>Q (σ.set i (some v)) H
theorem zoc{i:Nat}{x:Str}(hN:X.N.Nodup)(hi:X.N[i]?=some x)(hx:Loc X.env.scope x)(hf:X.fn x=true\/X.env.scope.names.lookup x=some .local:=by first | exact .inl rfl | exact .inr rfl | assumption):PG X (.Name x pos) (zrg i):=by
 intro pins s σ H v u Q I r h;exact Gk (zcX I hN hi hx r (fun s' I'=>⟨_,H,I',h⟩) hf)
noncomputable def gNil:TGs:=fun vs σ H Q=>vs=[]/\Q σ H
noncomputable def zr2(t:TG)(u:TGs):TGs:=fun vs σ H Q=>∃ v r,vs=v::r/\t v σ H fun σ' H'=>u r σ' H' Q
theorem zob:PGs X [] gNil:=by
 intro pins s σ H vs us Q I r h;obtain⟨e,h⟩:=h;subst e;cases r;exact En ⟨σ,H,I,h⟩
theorem zmb{e:Expr}{es:List Expr}{t:TG}{u:TGs}(h1:PG X e t)(h2:PGs X es u)
   (hs:(assignEach (e::es) X.env).map (·.2)=assign e X.env::(assignEach es X.env).map (·.2):=by rfl):PGs X (e::es) (zr2 t u):=by
 intro pins s σ H vs us Q I r h;obtain⟨v,vr,e1,h⟩:=h;subst e1
 cases r with
 | cons r rr =>
   rw[hs];refine Cb (thn (h1 pins s σ H _ _ _ I r h) ?_);rintro _ s1 ⟨σ1,H1,I1,q1⟩;exact h2 pins s1 σ1 H1 _ _ Q I1 rr q1
noncomputable def gTup(K:Ae)(n:Nat)(t:TGs):TG:=fun v σ H Q=>∃ a xs,v=.ref a/\SqT K H a xs/\xs.length=n/\t xs σ H Q
theorem zqa{es:List Expr}{k:Nat}{t:TGs}{n:Nat}(hc:X.calm=true)(h:PGs X es t)
   (hn:(assignEach es X.env).length=n:=by rfl) (hst:(assignEach es X.env).findIdx? (·.1)=none:=by rfl):PG X (.Tuple es k pos) (gTup X.K n t):=by
 intro pins s σ H v u Q I r hw;obtain⟨a,xs,e1,hq,hl,hw⟩:=hw;subst e1;cases r;obtain⟨its,rv,ht,hz⟩:=I.tuple hq;refine assign_Tuple_tuple (I.ok.hd hc) ht (by simp[hn,<-hl,rv.length]) hst fun h' hx=>?_;have I1:Inv X pins σ H { s with heap:=h' }:=I.kept (t':=s.toks) fun b o e=>hx b o (AB (Ak e)) e;exact h pins _ σ H xs _ Q I1 (by simpa using rv) hw
noncomputable def gSub(to ti:TE)(t:TSet):TG:=fun v σ H Q=>to σ H fun o H1=>ti σ H1 fun i H2=>t o i v H2 fun H3=>Q σ H3
theorem zqb{o i:Expr}{to ti:TE}{t:TSet}(ho:PE X o to)(hi:PE X i ti)(hs:PSet X t)
   (ha:∀ v,assign (.Subscript o i pos) X.env v=(do
     let ov <-holding [v] (eval o X.env)
     let iv <-holding [v,ov] (eval i X.env)
     standAt pos
     holding [v,ov,iv] (setItem ov iv v)
     release [v,ov,iv] []):=by intro _;rfl):PG X (.Subscript o i pos) (gSub to ti t):=by
 intro pins s σ H v u Q I r h;rw[ha];refine Aa (A0 (thn (ho pins s σ H _ I h) ?_));rintro ov s1 ⟨x,H1,I1,r1,q1⟩;refine Aa (A0 (thn (hi pins s1 σ H1 _ I1 q1) ?_));rintro iv s2 ⟨y,H2,I2,r2,q2⟩;refine Aa (Dy (Aa (A0 (thn (hs pins s2 σ H2 x y v ov iv u _ I2 r1 r2 r q2) ?_))));rintro _ s3 ⟨H3,I3,q3⟩;exact wpAny_release ⟨σ,H3,I3,q3⟩
noncomputable def tAsg(te:TE)(g:TG):TS:=fun D σ H=>te σ H fun x H1=>g x σ H1 D.nx
theorem zp0{tg e:Expr}{te:TE}{g:TG}(he:PE X e te)(hg:PG X tg g)(hs:swapsWithSole [tg] e pos.line X.env=pure false:=by rfl)(hw:swappedStores [tg] e X.env=pure none:=by rfl)
   (h1:(assignEach [tg] X.env).map (·.2)=[assign tg X.env]:=by rfl):PS X (.Assign [tg] e pos) (tAsg te g):=by
 intro pins s σ H D I h;refine wpAny_Assign_stores (thn (he pins s σ H _ I h) ?_) hs hw;rintro v s1 ⟨x,H1,I1,r1,q1⟩;rw[h1];exact thn (hg pins s1 σ H1 x v _ I1 r1 q1) fun _ s2 q=>q
theorem zpW{i:Nat}{x:Str}{e:Expr}{te:TE}{pos':Pos}(hN:X.N.Nodup)(hi:X.N[i]?=some x)(hx:Loc X.env.scope x)(he:PE X e te)(hs:swapsWith e (some (.Name x pos')) pos.line X.env=pure false:=by rfl)(hf:X.fn x=true\/X.env.scope.names.lookup x=some .local:=by first | exact .inl rfl | exact .inr rfl | assumption) :
   PS X (.Assign [.Name x pos'] e pos) (tAsg te (zrg i)):=by
 intro pins s σ H D I h;refine wpAny_Assign_Name (thn (he pins s σ H _ I h) ?_) hs;rintro v s1 ⟨y,H1,I1,r1,q1⟩;exact zcX I1 hN hi hx r1 (fun s2 I2=>⟨_,H1,I2,q1⟩) hf
noncomputable def tPar(i j:Nat)(ta:TA):TS:=fun D σ H=>ta σ H fun vs H1=>∃ v w,vs=[v,w]/\D.nx ((σ.set i (some v)).set j (some w)) H1
theorem zpY{i j:Nat}{x y:Str}{a b:Expr}{ta:TA}{px py pt:Pos}{kt k2 pt2}(hc:X.calm=true)(hN:X.N.Nodup)(hi:X.N[i]?=some x)(hj:X.N[j]?=some y)(hij:i≠j)
   (hx:X.env.scope.names.lookup x=some .local) (hy:X.env.scope.names.lookup y=some .local) (ha:PA X [a,b] ta)
   (hw:swappedStores [.Tuple [.Name x px,.Name y py] kt pt] (.Tuple [a,b] k2 pt2) X.env=pure (some [x,y]))
   (hs:swapsWithSole [.Tuple [.Name x px,.Name y py] kt pt] (.Tuple [a,b] k2 pt2) pos.line X.env=pure false:=by rfl) :
   PS X (.Assign [.Tuple [.Name x px,.Name y py] kt pt] (.Tuple [a,b] k2 pt2) pos) (tPar i j ta):=by
 intro pins s σ H D I h;rw[exec_Assign_arm];refine Aa (Dy ?_);rw[hs];refine Aa (Ab ?_);rw[if_neg (by decide)];refine Aa (Tuple_ (thn (ha _ pins s σ H _ I h) ?_));rintro us s1 ⟨vs,H1,I1,r1,q1⟩;obtain⟨v,w,e1,q1⟩:=q1;subst e1;obtain⟨u1,u2,rfl,rv,rw'⟩:∃ u1 u2,us=[u1,u2]/\RelV v u1/\RelV w u2:=by
   cases r1 with
   | cons p q =>
     cases q with
     | cons p' q' =>
       cases q';exact⟨_,_,rfl,p,p'⟩
 refine Aw ?_ (by show 2<=sizeLine;decide);have I2:Inv X pins σ H1 { s1 with heap:=s1.heap.push { cls:=.type "tuple",data:=.seq [u1,u2].toArray } }:=I1.kept (t':=s1.toks) fun b o e=>Ad _ e;rw[hw];refine Aa (Ab ?_);show wpAny (model X.prog X.w) X.A (do rule "assign.swapped-stores";let items <-unpackItems (.ref s1.heap.objs.size) 2 none;assignInOrder [fun v=>bindName X.env y v,fun v=>bindName X.env x v] items.reverse;pure F7) _ _ _;refine Aa (CC (Aa (Gm (items:=#[u1,u2]) (I.ok.hd hc) (IsTup.new s1.heap _) fun h' hx'=>?_)));have I3:=I2.kept (h':=h') (t':=s1.toks) fun b o e=>hx' b o (AB (Ak e)) e;show wpAny _ _ (assignInOrder [fun v=>bindName X.env y v,fun v=>bindName X.env x v] [u2,u1] >>= fun _=>pure F7) _ _ _;refine Aa (Cb (Dh (zcX I3 hN hj (.inl hy) rw' (fun s2 I4=>?_) (.inr hy))));refine Cb (Dh (zcX I4 hN hi (.inl hx) rv (fun s3 I5=>En (Ab ?_)) (.inr hx)));rw[Ef _ _ (BL hij)] at I5;exact⟨_,H1,I5,q1⟩
end
structure It where
 go:Nat->Hp->Prop
 yld:Nat->Hp->V->Hp->Prop
 stop:Nat->Hp->Prop
def FpOk(X:Cx)(pins:List (Addr×Obj))(H:Hp)(b:Addr):Prop :=
 H b=none/\b≠X.env.locals/\b ∉ X.fs/\(b∈X.ex\/X.s₀.heap.objs.size<=b)/\(∀ x c,X.env.cells.lookup x=some c->c≠b)/\∀ p∈X.pn++pins,p.1≠b
theorem Inv.fpOk{X:Cx}{pins:List (Addr×Obj)}{σ:St}{H H':Hp}{s:Shared}{b:Addr}(I:Inv X pins σ H s)(hb:s.heap.objs.size<=b)(hn:H' b=none):FpOk X pins H' b:=by
 refine⟨hn,AQ (As I.lt hb),I.nofs hb,.inr (AR I.sz hb),fun x c e z=>?_,fun p hp z=>?_⟩
 . obtain⟨v,q⟩:=I.cell x c e;exact absurd (As q.lt (by rw[z];exact hb)) (AY _)
 . exact absurd (As (Ak (I.pin p hp).1) (by rw[z];exact hb)) (AY _)
structure Turn(P:Program)(w:World)(K:Ae)(tg:Expr)(J:It)(fp:List Addr)(it:Addr)(tn:Nat->Heap->Prop):Prop where
 mem:it∈fp
 obj:∀ i h,tn i h->∀ b∈fp,∃ o,h.get? b=some o/\∀ v,o.data≠.cell v
 keep:∀ i h h',tn i h->(∀ b∈fp,∀ o,h.get? b=some o->h'.get? b=some o)->tn i h'
 item:∀ (X:Cx),X.prog=P->X.w=w->X.K=K->X.calm=true->∀ (i:Nat) (pins:List (Addr×Obj)) (s:Shared) (σ:St) (H:Hp) (E:Value->Shared->Prop),Inv X pins σ H s->(∀ b∈fp,FpOk X pins H b)->tn i s.heap->J.go i H ->
   wpAny (model P w) X.A (pyNext (.ref it)) (fun r s1=>∃ u,r=some u /\
     wpAny (model P w) X.A (letOwnedTupleGo tg (.ref it) u) (fun _ s2=>∃ x H',Inv X pins σ H' s2/\RelV x u/\J.yld i H x H'/\tn (i+1) s2.heap/\∀ b∈fp,H' b=none) E s1) E s
 done:∀ (X:Cx),X.prog=P->X.w=w->X.K=K->X.calm=true->∀ (i:Nat) (pins:List (Addr×Obj)) (s:Shared) (σ:St) (H:Hp) (E:Value->Shared->Prop),Inv X pins σ H s->(∀ b∈fp,FpOk X pins H b)->tn i s.heap->J.stop i H ->
   wpAny (model P w) X.A (pyNext (.ref it)) (fun r s1=>r=none/\Inv X pins σ H s1) E s
 self:∀ (A:Around) (i:Nat) (s:Shared) (Q:Value->Shared->Prop) (E:Value->Shared->Prop),tn i s.heap->Q (.ref it) s->wpAny (model P w) A (pyIter (.ref it)) Q E s
noncomputable abbrev TI:=St->Hp->(It->Hp->Prop)->Prop
def PIE(X:Cx)(pins:List (Addr×Obj))(σ:St)(tg:Expr)(R:It->Hp->Prop)(itv:Value)(s2:Shared):Prop :=
 ∃ (it:Addr) (fp:List Addr) (tn:Nat->Heap->Prop) (J:It) (H':Hp),itv=.ref it/\Inv X pins σ H' s2/\Turn X.prog X.w X.K tg J fp it tn/\tn 0 s2.heap/\(∀ b∈fp,FpOk X pins H' b)/\R J H'
def PI(X:Cx)(tg iter:Expr)(wi:TI):Prop :=
 ∀ (pins:List (Addr×Obj)) (s:Shared) (σ:St) (H:Hp) (R:It->Hp->Prop),Inv X pins σ H s->wi σ H R ->
   wpAny (model X.prog X.w) X.A (eval iter X.env) (fun v s1=>wpAny (model X.prog X.w) X.A (pyIter v) (PIE X pins σ tg R) X.xe s1) X.xe s
theorem zpo{M:Model}{A:Around}{E:Value->Shared->Prop}{s:Shared}{tg:Expr}{it:Addr}{u:Value}{o:Obj}{n:String}{vs:Array Value}{Q:Unit->Shared->Prop}(ho:s.heap.get? it=some o)(hc:o.cls=.type n)(hd:o.data=.fields vs)
   (hn:["enumerate","zip","dict_itemiterator","dict_reverseitemiterator","odict_iterator","itertools.zip_longest","itertools.pairwise"].contains n=false) (hQ:Q () s):wpAny M A (letOwnedTupleGo tg (.ref it) u) Q E s:=by
 unfold letOwnedTupleGo
 cases tg <;> first
   | exact Ab hQ
   | (cases u <;> first
       | exact Ab hQ
       | (refine Aa (GU ho ?_)
          rw[hc,hd];show wpAny M A (if (["enumerate","zip","dict_itemiterator","dict_reverseitemiterator","odict_iterator","itertools.zip_longest","itertools.pairwise"].contains n&&vs[0]?==some (rawInt _))=true then _ else _) Q E s;rw[if_neg (by intro h;rw[hn,Bool.false_and] at h;cases h)];exact Ab hQ))
noncomputable def Itl(K:Ae)(a:Addr):It :=
 ⟨fun i H=>∃ xs x,SqL K H a xs/\xs[i]?=some x,fun i H x H'=>H'=H/\∀ xs,SqL K H a xs->xs[i]?=some x,fun i H=>∃ xs,SqL K H a xs/\xs.length<=i⟩
noncomputable def Itt(K:Ae)(a:Addr):It :=
 ⟨fun i H=>∃ xs x,SqT K H a xs/\xs[i]?=some x,fun i H x H'=>H'=H/\∀ xs,SqT K H a xs->xs[i]?=some x,fun i H=>∃ xs,SqT K H a xs/\xs.length<=i⟩
noncomputable def Itr(lo:Int)(n:Nat):It:=⟨fun i _=>i < n,fun i H x H'=>H'=H/\x=.int (lo+i),fun i _=>n<=i⟩
theorem zjw{P:Program}{w:World}{K:Ae}{tg:Expr}(a it:Addr):Turn P w K tg (Itl K a) [it] it (fun i h=>h.IsListIter it a i) where
 mem:=by simp
 obj:=fun i h st b hb=>by
   have e:b=it:=by simpa using hb
   subst e;obtain⟨o,e,c,d⟩:=st;exact⟨o,e,fun v z=>by rw[d] at z;cases z⟩
 keep:=fun i h h' st k=>st.at fun o e=>k it (by simp) o e
 item:=by
   intro X hP hw hK hc i pins s σ H E I hf st hg;subst hP hw hK;obtain⟨xs,x,hq,hx⟩:=hg;obtain⟨its,rv,p,hz⟩:=I.list hq;obtain⟨u,hu,ru⟩:=rv.get hx;obtain⟨f0,f1,f2,f3,f4,f5⟩:=hf it (by simp);refine wpAny_pyNext_list_item st p.isList (x:=u) (by simpa using hu) fun h' st' sb=>?_;have I1:Inv X pins σ H { s with heap:=h' }:=I.turned (t':=s.toks) (fun b o hb e=>(sb.2 b hb).trans e) f0 f1 f3 f4 f5;obtain⟨o,e,c,d⟩:=id st';exact⟨u,rfl,zpo (s:={ s with heap:=h' }) e c d (by decide) ⟨x,H,I1,ru,⟨rfl,fun ys hy=>by rw[I.list_inj hy hq];exact hx⟩,st',fun b hb=>(hf b hb).1⟩⟩
 done:=by
   intro X hP hw hK hc i pins s σ H E I hf st hg;subst hP hw hK;obtain⟨xs,hq,hx⟩:=hg;obtain⟨its,rv,p,hz⟩:=I.list hq;obtain⟨f0,f1,f2,f3,f4,f5⟩:=hf it (by simp);have hl:=rv.length;exact wpAny_pyNext_list_end (I.ok.hd hc) st p.isList (by simp;omega) fun h' eb=>⟨rfl,I.turned (t':=s.toks) (fun b o hb e=>eb b o hb e) f0 f1 f3 f4 f5⟩
 self:=fun _ _ _ _ _ st h=>wpAny_pyIter_listiter st h
theorem zhS{P:Program}{w:World}{K:Ae}{tg:Expr}(a it:Addr):Turn P w K tg (Itt K a) [it] it (fun i h=>h.IsTupleIter it a i) where
 mem:=by simp
 obj:=fun i h st b hb=>by
   have e:b=it:=by simpa using hb
   subst e;obtain⟨o,e,c,d⟩:=st;exact⟨o,e,fun v z=>by rw[d] at z;cases z⟩
 keep:=fun i h h' st k=>st.at fun o e=>k it (by simp) o e
 item:=by
   intro X hP hw hK hc i pins s σ H E I hf st hg;subst hP hw hK;obtain⟨xs,x,hq,hx⟩:=hg;obtain⟨its,rv,p,hz⟩:=I.tuple hq;obtain⟨u,hu,ru⟩:=rv.get hx;obtain⟨f0,f1,f2,f3,f4,f5⟩:=hf it (by simp);refine wpAny_pyNext_tuple_item st (show s.heap.IsTuple a its.toArray from p) (x:=u) (by simpa using hu) fun h' st' sb=>?_;have I1:Inv X pins σ H { s with heap:=h' }:=I.turned (t':=s.toks) (fun b o hb e=>(sb.2 b hb).trans e) f0 f1 f3 f4 f5;obtain⟨o,e,c,d⟩:=id st';exact⟨u,rfl,zpo (s:={ s with heap:=h' }) e c d (by decide) ⟨x,H,I1,ru,⟨rfl,fun ys hy=>by rw[I.tuple_inj hy hq];exact hx⟩,st',fun b hb=>(hf b hb).1⟩⟩
 done:=by
   intro X hP hw hK hc i pins s σ H E I hf st hg;subst hP hw hK;obtain⟨xs,hq,hx⟩:=hg;obtain⟨its,rv,p,hz⟩:=I.tuple hq;obtain⟨f0,f1,f2,f3,f4,f5⟩:=hf it (by simp);have hl:=rv.length;exact wpAny_pyNext_tuple_end (I.ok.hd hc) st (show s.heap.IsTuple a its.toArray from p) (by simp;omega) fun h' eb=>⟨rfl,I.turned (t':=s.toks) (fun b o hb e=>eb b o hb e) f0 f1 f3 f4 f5⟩
 self:=fun _ _ _ _ _ st h=>wpAny_pyIter_tupleiter st h
theorem zhT{P:Program}{w:World}{K:Ae}{tg:Expr}(it:Addr)(lo:Int)(n:Nat):Turn P w K tg (Itr lo n) [it] it (fun i h=>IsRangeIter h it (lo+(i:Nat)*1) ((n:Int) - (i:Nat)) 1) where
 mem:=by simp
 obj:=fun i h st b hb=>by
   have e:b=it:=by simpa using hb
   subst e;exact⟨_,st,fun v z=>by
     have z':Data.fields _=Data.cell v:=z;cases z'⟩
 keep:=fun i h h' st k=>k it (by simp) _ st
 item:=by
   intro X hP hw hK hc i pins s σ H E I hf st hg;subst hP hw hK;obtain⟨f0,f1,f2,f3,f4,f5⟩:=hf it (by simp);have W:=Walks.range (prog:=X.prog) (w:=X.w) (I.ok.hd hc) it lo 1 n;refine W.item i s _ _ hg st fun v h' tk hv st' kk=>?_;obtain⟨t,rfl⟩:=hv;have I1:Inv X pins σ H { s with heap:=h',toks:=tk }:=I.turned (fun b o hb e=>kk b o (by simpa using hb) e) f0 f1 f3 f4 f5;refine⟨_,rfl,zpo (s:={ s with heap:=h',toks:=tk }) (n:="range_iterator") st' rfl rfl (by decide) ⟨.int (lo+i),H,I1,⟨t,?_⟩,⟨rfl,rfl⟩,st',fun b hb=>(hf b hb).1⟩⟩;rw[Int.mul_one]
 done:=by
   intro X hP hw hK hc i pins s σ H E I hf st hg;subst hP hw hK;obtain⟨f0,f1,f2,f3,f4,f5⟩:=hf it (by simp);exact wpAny_pyNext_range_end (I.ok.hd hc) st (by have:n<=i:=hg;omega) fun h' eb=>⟨rfl,I.turned (t':=s.toks) (fun b o hb e=>eb b o hb e) f0 f1 f3 f4 f5⟩
 self:=fun _ _ _ _ _ st h=>wpAny_pyIter_rangeiter st h
section
variable {X:Cx} {tg:Expr}
noncomputable def zr1(K:Ae)(tl:TE):TI:=fun σ H R=>tl σ H fun x H1=>∃ a,x=.ref a/\(∃ xs,SqL K H1 a xs)/\R (Itl K a) H1
noncomputable def iTup(K:Ae)(tl:TE):TI:=fun σ H R=>tl σ H fun x H1=>∃ a,x=.ref a/\(∃ xs,SqT K H1 a xs)/\R (Itt K a) H1
theorem zoa{l:Expr}{tl:TE}(hl:PE X l tl):PI X tg l (zr1 X.K tl):=by
 intro pins s σ H R I h;refine thn (hl pins s σ H _ I h) ?_;rintro v s1 ⟨x,H1,I1,r1,q1⟩;obtain⟨a,e,⟨xs,hq⟩,q⟩:=q1;subst e;cases r1;obtain⟨its,rv,p,hz⟩:=I1.list hq;refine CK p.isList ?_;refine⟨s1.heap.objs.size,[s1.heap.objs.size],_,_,H1,rfl,I1.kept (t':=s1.toks) fun b o e=>Ad _ e,zjw a _,⟨_,Al _ rfl,rfl,rfl⟩,fun b hb=>?_,q⟩;have e:b=s1.heap.objs.size:=by simpa using hb
 subst e;exact I1.fpOk (Af _) (I1.hok.fresh (Af _))
theorem zp8{l:Expr}{tl:TE}(hl:PE X l tl):PI X tg l (iTup X.K tl):=by
 intro pins s σ H R I h;refine thn (hl pins s σ H _ I h) ?_;rintro v s1 ⟨x,H1,I1,r1,q1⟩;obtain⟨a,e,⟨xs,hq⟩,q⟩:=q1;subst e;cases r1;obtain⟨its,rv,p,hz⟩:=I1.tuple hq;refine wpAny_pyIter_tuple (show s1.heap.IsTuple a its.toArray from p) ?_;refine⟨s1.heap.objs.size,[s1.heap.objs.size],_,_,H1,rfl,I1.kept (t':=s1.toks) fun b o e=>Ad _ e,zhS a _,⟨_,Al _ rfl,rfl,rfl⟩,fun b hb=>?_,q⟩;have e:b=s1.heap.objs.size:=by simpa using hb
 subst e;exact I1.fpOk (Af _) (I1.hok.fresh (Af _))
theorem zl2{pins:List (Addr×Obj)}{σ:St}{H:Hp}{s:Shared}{R:It->Hp->Prop}{E:Value->Shared->Prop}{lo hi:Int}{t u v:Tok}{tk:Nat}(I:Inv X pins σ H s)(h1:-(2 ^ 62)<=lo)(h2:lo < 2 ^ 62)(h3:-(2 ^ 62)<=hi)(h4:hi < 2 ^ 62)
   (q:R (Itr lo (hi - lo).toNat) H):wpAny (model X.prog X.w) X.A (pyIter (.ref s.heap.objs.size)) (PIE X pins σ tg R) E { s with heap:=s.heap.push { cls:=.type "range",data:=.fields #[.int lo t,.int hi u,.int 1 v] },toks:=tk }:=by
 refine wpAny_pyIter_range (IsRange.new ..) (small_one h1 h2 h3 h4) ?_;have I1:Inv X pins σ H { s with heap:=s.heap.push { cls:=.type "range",data:=.fields #[.int lo t,.int hi u,.int 1 v] },toks:=tk }:=I.kept fun b o e=>Ad _ e;refine⟨(s.heap.push { cls:=.type "range",data:=.fields #[.int lo t,.int hi u,.int 1 v] }).objs.size,[(s.heap.push { cls:=.type "range",data:=.fields #[.int lo t,.int hi u,.int 1 v] }).objs.size],_,_,H,rfl,
   I1.kept (t':=tk) fun b o e=>Ad _ e,zhT _ lo (hi - lo).toNat,?_,fun b hb=>?_,q⟩
 . have e1:lo+((0:Nat):Int)*1=lo:=by simp
   have e2:(((hi - lo).toNat:Nat):Int) - ((0:Nat):Int)=Builtin.Range.rangeSize lo hi 1:=by rw[rangeSize_one];split <;> omega
   show IsRangeIter _ _ (lo+((0:Nat):Int)*1) ((((hi - lo).toNat:Nat):Int) - ((0:Nat):Int)) 1;rw[e1,e2];exact Al _ rfl
 . have e:b=(s.heap.push { cls:=.type "range",data:=.fields #[.int lo t,.int hi u,.int 1 v] }).objs.size:=by simpa using hb
   subst e;exact I1.fpOk (Af _) (I1.hok.fresh (Af _))
noncomputable def zr0(ta:TA):TI:=fun σ H R=>ta σ H fun vs H1=>∃ j:Int,vs=[.int j]/\-(2 ^ 62)<=j/\j < 2 ^ 62/\R (Itr 0 j.toNat) H1
theorem zj4{a:Expr}{ta:TA}{p pos:Pos}(hg:Gl X "range")(hm:X.mg "range"=none)(ha:PA X [a] ta)(hs:starEach [a] X.env=[(false,eval a X.env)]:=by rfl):PI X tg (.Call (.Name "range" p) [a] [] pos) (zr0 ta):=by
 intro pins s σ H R I h;refine Call_ (ziO I hg hm boot_range (CQ (thn (ha pos pins s σ H _ I h) ?_) hs rfl));rintro us s1 ⟨vs,H1,I1,r1,q1⟩;obtain⟨j,e,q1,q2,q⟩:=q1;subst e
 cases r1 with
 | cons r rr =>
   cases rr;obtain⟨t,rfl⟩:=r;exact call_range_1 (zl2 I1 (by omega) (by omega) q1 q2 (by simpa using q))
noncomputable def tFor(wi:TI)(g:TG)(tb:TS):TS:=fun D σ H=>wi σ H fun J H1=>∃ W:Nat->Nat->St->Hp->Prop,(∃ m,W 0 m σ H1)/\∀ i m σ H,W i m σ H ->
 (J.stop i H/\D.nx σ H)\/(J.go i H/\∃ N:St->Hp->Prop,(∀ σ' H',N σ' H'->∃ m',m' < m/\W (i+1) m' σ' H')/\∀ x H',J.yld i H x H'->g x σ H' fun σ2 H2=>tb { D with nx:=N,ct:=N,bk:=D.nx } σ2 H2)
noncomputable def ziq(fp:List Addr)(h:Heap):List (Addr×Obj):=fp.filterMap fun b=>(h.get? b).map fun o=>(b,o)
theorem zde{fp:List Addr}{h:Heap}{b:Addr}{o:Obj}(hb:b∈fp)(e:h.get? b=some o):(b,o)∈ziq fp h:=List.mem_filterMap.mpr ⟨b,hb,by rw[e];rfl⟩
theorem zka{fp:List Addr}{h:Heap}{p:Addr×Obj}(hp:p∈ziq fp h):p.1∈fp/\h.get? p.1=some p.2:=by
 obtain⟨b,hb,e⟩:=List.mem_filterMap.mp hp
 cases q:h.get? b with
 | none=>rw[q] at e;cases e
 | some o =>
   rw[q] at e;have e':(b,o)=p:=Ay e;subst e';exact⟨hb,q⟩
theorem Inv.pinned{pins:List (Addr×Obj)}{σ:St}{H:Hp}{s:Shared}{fp:List Addr}(I:Inv X pins σ H s)(hf:∀ b∈fp,FpOk X pins H b)(ho:∀ b∈fp,∃ o,s.heap.get? b=some o/\∀ v,o.data≠.cell v):Inv X (pins++ziq fp s.heap) σ H s :=
 I.pins_of fun p hp=>(List.mem_append.mp hp).elim (fun z=>I.pin p (A2 _ z)) fun z=>by
   obtain⟨hb,e⟩:=zka z;obtain⟨f0,f1,f2,_⟩:=hf p.1 hb;obtain⟨o,e',d⟩:=ho p.1 hb;rw[e] at e';cases e';exact⟨e,f0,f1,f2,d⟩
theorem Inv.unpinned{pins pl:List (Addr×Obj)}{σ:St}{H:Hp}{s:Shared}(I:Inv X (pins++pl) σ H s):Inv X pins σ H s:=I.pins_of fun p hp=>I.pin p (A2 _ (Bx _ hp))
theorem zpZ{iter:Expr}{body:List Stmt}{wi:TI}{g:TG}{tb:TS}{pos:Pos}(hp:PassesOwn (model X.prog X.w) X.A X.env X.xe)(hc:X.calm=true)(hi:PI X tg iter wi)(hg:PG X tg g)(hb:PSs X body tb)
   (hs:∀ x,foldedSetIterable iter X.env x=pure x:=by intro _;rfl):PS X (.For tg iter body [] pos) (tFor wi g tb):=by
 intro pins s σ H D I h;refine wpAny_For (thn (hi pins s σ H _ I h) fun v s1 h1=>thn h1 fun itv s2 h2=>?_) hs;obtain⟨it,fp,tn,J,H2,e,I2,T,st2,f2,W,⟨m0,w0⟩,turn⟩:=h2;subst e
 -- what stays true of the iterator's objects through the loop
 have stat:∀ {H':Hp},(∀ b∈fp,H' b=none)->∀ b∈fp,FpOk X pins H' b:=fun hn b hb=>⟨hn b hb,(f2 b hb).2⟩
 refine codeAny_forLoop_any (fun n s'=>∃ i σ' H',Inv X pins σ' H' s'/\tn i s'.heap/\(∀ b∈fp,H' b=none)/\W i n σ' H') ?_ m0 ⟨0,σ,H2,I2,st2,fun b hb=>(f2 b hb).1,w0⟩;rintro n s3 ⟨i,σ3,H3,I3,st3,fr3,w3⟩
 rcases turn i n σ3 H3 w3 with ⟨stop,qn⟩ | ⟨go,N,hN,step⟩
 . refine C2 hp (thn (T.done X rfl rfl rfl hc i pins s3 σ3 H3 X.xe I3 (stat fr3) st3 stop) ?_);rintro r s4 ⟨hr,I4⟩;subst hr;exact EU ⟨σ3,H3,I4,qn⟩
 . refine C2 hp (thn (T.item X rfl rfl rfl hc i pins s3 σ3 H3 X.xe I3 (stat fr3) st3 go) ?_);rintro r s4 ⟨u,hr,h4⟩;subst hr;refine C2 hp (thn h4 ?_);rintro _ s5 ⟨x,H5,I5,r5,y5,st5,fr5⟩;have I5':=I5.pinned (stat fr5) (T.obj _ _ st5);refine C2 hp (thn (hg _ s5 σ3 H5 x u _ I5' r5 (step x H5 y5)) ?_);rintro _ s6 ⟨σ6,H6,I6,q6⟩;refine C2 hp (thn (hb _ s6 σ6 H6 _ I6 q6) fun f s7 q7=>?_);have again:∀ {σ7:St} {H7:Hp},Inv X (pins++ziq fp s5.heap) σ7 H7 s7->N σ7 H7->∃ m,m < n/\∃ i σ' H',Inv X pins σ' H' s7/\tn i s7.heap/\(∀ b∈fp,H' b=none)/\W i m σ' H':=fun {σ7 H7} I7 n7=>by
     obtain⟨m',hm,w7⟩:=hN σ7 H7 n7;refine⟨m',hm,i+1,σ7,H7,I7.unpinned,T.keep _ _ _ st5 fun b hb o e=>(I7.pin (b,o) (A2 _ (A2 _ (zde hb e)))).1,fun b hb=>?_,w7⟩;obtain⟨o,e,d⟩:=T.obj _ _ st5 b hb;exact (I7.pin (b,o) (A2 _ (A2 _ (zde hb e)))).2.1
   cases f with
   | next=>obtain⟨σ7,H7,I7,n7⟩:=q7;exact again I7 n7
   | cont=>obtain⟨σ7,H7,I7,n7⟩:=q7;exact again I7 n7
   | brk=>obtain⟨σ7,H7,I7,q7⟩:=q7;exact⟨σ7,H7,I7.unpinned,q7⟩
   | ret v=>obtain⟨x7,σ7,H7,I7,r7,q7⟩:=q7;exact⟨x7,σ7,H7,I7.unpinned,r7,q7⟩
end
noncomputable abbrev R2:=V->V->Hp->VK->Prop
def OpR(X:Cx)(f:Value->Value->Sem Value)(r:R2):Prop :=
 ∀ (pins:List (Addr×Obj)) (s:Shared) (σ:St) (H:Hp) (x y:V) (v u:Value) (Q:VK),Inv X pins σ H s->RelV x v->RelV y u->r x y H Q ->
   wpAny (model X.prog X.w) X.A (f v u) (EP X pins σ Q) X.xe s
def UnR(X:Cx)(f:Value->Sem Value)(r:V->Hp->VK->Prop):Prop :=
 ∀ (pins:List (Addr×Obj)) (s:Shared) (σ:St) (H:Hp) (x:V) (v:Value) (Q:VK),Inv X pins σ H s->RelV x v->r x H Q ->
   wpAny (model X.prog X.w) X.A (f v) (EP X pins σ Q) X.xe s
def zfK(X:Cx)(f:Value)(r:List V->Hp->VK->Prop):Prop :=
 ∀ (pins:List (Addr×Obj)) (s:Shared) (σ:St) (H:Hp) (xs:List V) (us:List Value) (Q:VK),Inv X pins σ H s->Vals xs us->r xs H Q ->
   wpAny (model X.prog X.w) X.A (call f us) (EP X pins σ Q) X.xe s
def TruR(X:Cx)(r:V->Hp->(Bool->Hp->Prop)->Prop):Prop :=
 ∀ (pins:List (Addr×Obj)) (s:Shared) (σ:St) (H:Hp) (x:V) (v:Value) (Q:Bool->Hp->Prop),Inv X pins σ H s->RelV x v->r x H Q ->
   wpAny (model X.prog X.w) X.A (truthy v) (TP X pins σ Q) X.xe s
noncomputable def tOp(r:R2)(ta tb:TE):TE:=fun σ H Q=>ta σ H fun x H1=>tb σ H1 fun y H2=>r x y H2 Q
noncomputable def tUn(r:V->Hp->VK->Prop)(ta:TE):TE:=fun σ H Q=>ta σ H fun x H1=>r x H1 Q
noncomputable def rI(C:Int->Int->Prop)(g:Int->Int->V):R2:=fun x y H Q=>∃ i j,x=.int i/\y=.int j/\C i j/\Q (g i j) H
noncomputable def rI0(g:Int->Int->V):R2:=fun x y H Q=>∃ i j,x=.int i/\y=.int j/\Q (g i j) H
noncomputable def rU(g:Int->V):V->Hp->VK->Prop:=fun x H Q=>∃ i,x=.int i/\Q (g i) H
section
variable {X:Cx} {a b c:Expr} {ta tb tc:TE} {pos:Pos}
theorem binT(ha:PE X a ta)(hb:PE X b tb){pins:List (Addr×Obj)}{s:Shared}{σ:St}{H:Hp}{R:V->V->Hp->Prop}(I:Inv X pins σ H s)
   (h:ta σ H fun x H1=>tb σ H1 fun y H2=>R x y H2) {Q:Value->Shared->Prop} {f:Value->Value->Sem Value}
   (hf:∀ v u s2 x y H2,Inv X pins σ H2 s2->RelV x v->RelV y u->R x y H2->wpAny (model X.prog X.w) X.A (f v u) Q X.xe s2) :
   wpAny (model X.prog X.w) X.A (eval a X.env) (fun v s₁=>wpAny (model X.prog X.w) X.A (eval b X.env) (fun u s₂=>wpAny (model X.prog X.w) X.A (f v u) Q X.xe s₂) X.xe s₁) X.xe s:=by
 refine thn (ha pins s σ H _ I h) ?_;rintro v s1 ⟨x,H1,I1,r1,q1⟩;refine thn (hb pins s1 σ H1 _ I1 q1) ?_;rintro u s2 ⟨y,H2,I2,r2,q2⟩;exact hf v u s2 x y H2 I2 r1 r2 q2
theorem zrK{op:Operator}{r:R2}(ho:OpR X (binaryOp op) r)(ha:PE X a ta)(hb:PE X b tb):PE X (.BinOp a op b pos) (tOp r ta tb):=by
 intro pins s σ H Q I h;exact wpAny_BinOp (binT ha hb I h fun v u s2 x y H2 I2 rx ry q=>ho pins s2 σ H2 x y v u Q I2 rx ry q)
theorem zrJ{op:UnaryOp}{r:V->Hp->VK->Prop}(ho:UnR X (unaryOp op) r)(ha:PE X a ta):PE X (.UnaryOp op a pos) (tUn r ta):=by
 intro pins s σ H Q I h;exact UnaryOp_ (thn (ha pins s σ H _ I h) fun v s1 ⟨x,H1,I1,r1,q1⟩=>ho pins s1 σ H1 x v Q I1 r1 q1)
theorem opI{f:Value->Value->Sem Value}{C:Int->Int->Prop}{g:Int->Int->Int}
   (rule:∀ (i j:Int) (t u:Tok) (s:Shared) (Q:Value->Shared->Prop) (E:Value->Shared->Prop),C i j->Q (.int (g i j) s.toks) { s with toks:=s.toks+1 }->wpAny (model X.prog X.w) X.A (f (.int i t) (.int j u)) Q E s) :
   OpR X f (rI C fun i j=>.int (g i j)):=by
 intro pins s σ H x y v u Q I rx ry h;obtain⟨i,j,rfl,rfl,hc,q⟩:=h;obtain⟨t,rfl⟩:=rx;obtain⟨t',rfl⟩:=ry;exact rule i j t t' s _ _ hc ⟨.int (g i j),H,I.tok _,⟨_,rfl⟩,q⟩
theorem opI0{f:Value->Value->Sem Value}{g:Int->Int->Int}
   (rule:∀ (i j:Int) (t u:Tok) (s:Shared) (Q:Value->Shared->Prop) (E:Value->Shared->Prop),Q (.int (g i j) s.toks) { s with toks:=s.toks+1 }->wpAny (model X.prog X.w) X.A (f (.int i t) (.int j u)) Q E s) :
   OpR X f (rI0 fun i j=>.int (g i j)):=by
 intro pins s σ H x y v u Q I rx ry h;obtain⟨i,j,rfl,rfl,q⟩:=h;obtain⟨t,rfl⟩:=rx;obtain⟨t',rfl⟩:=ry;exact rule i j t t' s _ _ ⟨.int (g i j),H,I.tok _,⟨_,rfl⟩,q⟩
theorem opB0{f:Value->Value->Sem Value}{g:Int->Int->Bool}
   (rule:∀ (i j:Int) (t u:Tok) (s:Shared) (Q:Value->Shared->Prop) (E:Value->Shared->Prop),Q (.bool (g i j)) s->wpAny (model X.prog X.w) X.A (f (.int i t) (.int j u)) Q E s) :
   OpR X f (rI0 fun i j=>.bl (g i j)):=by
 intro pins s σ H x y v u Q I rx ry h;obtain⟨i,j,rfl,rfl,q⟩:=h;obtain⟨t,rfl⟩:=rx;obtain⟨t',rfl⟩:=ry;exact rule i j t t' s _ _ ⟨.bl (g i j),H,I,rfl,q⟩
def CMul(i j:Int):Prop:=(-(2 ^ 64) < i/\i < 2 ^ 64)\/(-(2 ^ 64) < j/\j < 2 ^ 64)
theorem CMul.ok{i j:Int}(h:CMul i j):IntMulOk i j:=by
 rcases h with ⟨h1,h2⟩ | ⟨h1,h2⟩
 . exact .of_left (intBits_le_64 h1 h2)
 . exact .of_right (intBits_le_64 h1 h2)
theorem zqu:OpR X (binaryOp .Add) (rI0 fun i j=>.int (i+j)):=opI0 fun _ _ _ _ _ _ _ q=>add_int q
theorem zql:OpR X (binaryOp .Sub) (rI0 fun i j=>.int (i - j)):=opI0 fun _ _ _ _ _ _ _ q=>sub_int q
theorem zqm:OpR X (binaryOp .Mult) (rI CMul fun i j=>.int (i*j)):=opI fun _ _ _ _ _ _ _ hc q=>mul_int q hc.ok
theorem zqn:OpR X (binaryOp .Mod) (rI (fun _ j=>0 < j) fun i j=>.int (i % j)):=opI fun i j _ _ _ _ _ hc q=>by
 have h1:(0:Int) < j:=hc;exact mod_int' (by omega) (by rw[Int.fmod_eq_emod_of_nonneg i (by omega)];exact q)
theorem unI{f:Value->Sem Value}{g:Int->Int}
   (rule:∀ (i:Int) (t:Tok) (s:Shared) (Q:Value->Shared->Prop) (E:Value->Shared->Prop),Q (.int (g i) s.toks) { s with toks:=s.toks+1 }->wpAny (model X.prog X.w) X.A (f (.int i t)) Q E s) :
   UnR X f (rU fun i=>.int (g i)):=by
 intro pins s σ H x v Q I rx h;obtain⟨i,rfl,q⟩:=h;obtain⟨t,rfl⟩:=rx;exact rule i t s _ _ ⟨.int (g i),H,I.tok _,⟨_,rfl⟩,q⟩
theorem zpq:UnR X (unaryOp .USub) (rU fun i=>.int (-i)):=unI fun _ _ _ _ _ q=>neg_int q
end
section
variable {X:Cx} {a b c:Expr} {ta tb tc:TE} {pos:Pos}
theorem zqR{pins:List (Addr×Obj)}{σ:St}{H:Hp}{s:Shared}{Q:VK}{k k':Bool}(I:Inv X pins σ H s)(q:Q (.bl k) H)(e:k=k'):EP X pins σ Q (.bool k') s:=by
 subst e;exact⟨.bl k,H,I,rfl,q⟩
theorem zrO:OpR X (compareOp .Lt) (rI0 fun i j=>.bl (decide (i < j))):=opB0 fun _ _ _ _ _ _ _ q=>GR q
theorem zrP:OpR X (compareOp .LtE) (rI0 fun i j=>.bl (decide (i<=j))):=opB0 fun _ _ _ _ _ _ _ q=>le_int q
theorem zrQ:OpR X (compareOp .Gt) (rI0 fun i j=>.bl (decide (j < i))):=opB0 fun _ _ _ _ _ _ _ q=>gt_int q
theorem zrR:OpR X (compareOp .GtE) (rI0 fun i j=>.bl (decide (j<=i))):=opB0 fun _ _ _ _ _ _ _ q=>ge_int q
theorem zqq:OpR X (compareOp .Is) (fun x y H Q=>y=.non/\Q (.bl (decide (x=.non))) H):=by
 intro pins s σ H x y v u Q I rx ry h;obtain⟨rfl,q⟩:=h;cases ry;refine is_none_gen (zqR I q ?_)
 cases x <;> first
   | (cases rx;rfl)
   | (obtain⟨t,rfl⟩:=rx;rfl)
theorem zoh{op:CmpOp}{r:R2}(ho:OpR X (compareOp op) r)(ha:PE X a ta)(hb:PE X b tb)(hm:behindInMarks op b=false):PE X (.Compare a [op] [b] pos) (tOp r ta tb):=by
 intro pins s σ H Q I h;exact wpAny_Compare1 (binT ha hb I h fun v u s2 x y H2 I2 rx ry q=>ho pins s2 σ H2 x y v u Q I2 rx ry q) hm
noncomputable def zro(t:TE):TT:=fun σ H Q=>t σ H fun x H'=>∃ k,x=.bl k/\Q k H'
theorem zn2{op:CmpOp}{r:R2}(ho:OpR X (compareOp op) r)(ha:PE X a ta)(hb:PE X b tb)(hm:behindInMarks op b=false):PT X (.Compare a [op] [b] pos) (zro (tOp r ta tb)):=by
 intro pins s σ H Q I h;refine Ft (thn (ha pins s σ H _ I h) fun v s1 ⟨x,H1,I1,r1,q1⟩=>thn (hb pins s1 σ H1 _ I1 q1) fun u s2 ⟨y,H2,I2,r2,q2⟩ =>
   thn (ho pins s2 σ H2 x y v u _ I2 r1 r2 q2) fun c s3 ⟨z,H3,I3,r3,k,e,q3⟩=>?_) hm
 subst e;cases r3;exact BX ⟨H3,I3,q3⟩
noncomputable def znu(r r':R2)(ta tb tc:TE):TE:=fun σ H Q=>ta σ H fun x H1=>tb σ H1 fun y H2=>r x y H2 fun z H3=>∃ k,z=.bl k /\
 (if k=true then tc σ H3 fun w' H4=>r' y w' H4 Q else Q (.bl false) H3)
theorem zme{op op':CmpOp}{r r':R2}(ho:OpR X (compareOp op) r)(ho':OpR X (compareOp op') r')(ha:PE X a ta)(hb:PE X b tb)(hc:PE X c tc)
   (hm:lastMarks [op,op'] [b,c]=false:=by with_unfolding_all rfl):PE X (.Compare a [op,op'] [b,c] pos) (znu r r' ta tb tc):=by
 intro pins s σ H Q I h;refine Compare_chain (thn (ha pins s σ H _ I h) fun v s1 ⟨x,H1,I1,r1,q1⟩=>chain_link (thn (hb pins s1 σ H1 _ I1 q1) fun u s2 ⟨y,H2,I2,r2,q2⟩ =>
   thn (ho pins s2 σ H2 x y v u _ I2 r1 r2 q2) fun d s3 ⟨z,H3,I3,r3,k,e,q3⟩=>?_)) hm
 subst e;cases r3;refine BX ?_
 cases k with
 | false=>exact ite_ff ⟨.bl false,H3,I3,rfl,q3⟩
 | true=>exact ite_tt (chain_last (thn (hc pins s3 σ H3 _ I3 q3) fun w' s4 ⟨z',H4,I4,r4,q4⟩=>ho' pins s4 σ H4 y z' u w' Q I4 r2 r4 q4))
def TruV(K:Ae)(x:V)(H:Hp)(k:Bool):Prop :=
 match x with
 | .non=>k=false
 | .bl b=>k=b
 | .int i=>k=(i != 0)
 | .str y=>y.length<=sizeLine/\k=((y.length:Int) != 0)
 | .byt y=>y.size<=sizeLine/\k=((y.size:Int) != 0)
 | .ref p=>(∃ xs,SqL K H p xs/\k=!xs.isEmpty)\/(∃ xs,SqT K H p xs/\k=!xs.isEmpty)\/∃ kvs,H p=some (.dK kvs)/\k=!kvs.isEmpty
 | _=>False
theorem ziX{κ:Type}{kvs:List (κ×V)}{vs:List (κ×Value)}(r:KV kvs vs):(!vs.isEmpty)=!kvs.isEmpty:=by
 cases r <;> rfl
theorem zfA{xs:List V}{its:List Value}(r:Vals xs its):(!its.toArray.isEmpty)=!xs.isEmpty:=by
 cases r <;> simp
theorem zgk:(sizeLine:Nat) < 2 ^ 63:=by rw[Ff];decide
theorem zpv:TruR X (fun x H Q=>∃ k,TruV X.K x H k/\Q k H):=by
 intro pins s σ H x v Q I rx h;obtain⟨k,e,q⟩:=h;have hl:=zgk;have hs:sizeLine=16777216:=Ff
 cases x with
 | non =>
   cases rx;have e':k=false:=e;subst e';exact truthy_none ⟨H,I,q⟩
 | bl b =>
   cases rx;have e':k=b:=e;subst e';exact BX ⟨H,I,q⟩
 | int i =>
   obtain⟨t,rfl⟩:=rx;have e':k=(i != 0):=e;subst e';exact PySem.P.truthy_int ⟨H,I,q⟩
 | str y =>
   obtain⟨t,rfl⟩:=rx;obtain⟨hy,e'⟩:y.length<=sizeLine/\k=((y.length:Int) != 0):=e;subst e';exact PySem.P.truthy_str (by omega) ⟨H,I.tok _,q⟩
 | byt y =>
   obtain⟨t,rfl⟩:=rx;obtain⟨hy,e'⟩:y.size<=sizeLine/\k=((y.size:Int) != 0):=e;subst e';exact PySem.W.truthy_bytes (by omega) ⟨H,I.tok _,q⟩
 | ref p =>
   cases rx;have e':(∃ xs,SqL X.K H p xs/\k=!xs.isEmpty)\/(∃ xs,SqT X.K H p xs/\k=!xs.isEmpty)\/∃ kvs,H p=some (.dK kvs)/\k=!kvs.isEmpty:=e
   rcases e' with ⟨xs,hx,e'⟩ | ⟨xs,hx,e'⟩ | ⟨kvs,hx,e'⟩
   . subst e';obtain⟨its,r,pl,hz⟩:=I.list hx;have hlen:=r.length;exact wpAny_truthy_list pl.isList (by simp only[Ao];omega) ⟨H,I.tok _,by rw[zfA r];exact q⟩
   . subst e';obtain⟨its,r,pl,hz⟩:=I.tuple hx;have hlen:=r.length;exact truthy_tuple pl (by simp only[Ao];omega) ⟨H,I.tok _,by rw[zfA r];exact q⟩
   . subst e';obtain⟨hz,hS,vs,r,m⟩:kvs.length<=sizeLine/\(p==sysModules)=false/\∃ vs,KV kvs vs/\s.heap.DictOf (zb9 X.prog X.w) p vs:=I.hok p _ hx;have hlen:kvs.length=vs.length:=BR r;exact wpAny_truthy_dict hS m (by omega) ⟨H,I.tok _,by rw[ziX r];exact q⟩
 | _=>exact (show False from e).elim
theorem zl6(ha:PE X a ta)(he:∀ whole,isTrue a X.env whole=(do let v <-whole;standAt a.pos;holding [v] (truthy v))) :
   PT X a (fun σ H Q=>ta σ H fun x H'=>∃ k,TruV X.K x H' k/\Q k H'):=by
 intro pins s σ H Q I h;exact isTrue_plain (thn (ha pins s σ H _ I h) fun v s1 ⟨x,H1,I1,r1,q1⟩=>zpv pins s1 σ H1 x v Q I1 r1 q1) (he _)
theorem ziw:OpR X (binaryOp .Add) (fun x y H Q=>∃ i j,x=.str i/\y=.str j/\i.length+j.length<=sizeLine/\Q (.str (i++j)) H):=by
 intro pins s σ H x y v u Q I rx ry h;obtain⟨i,j,rfl,rfl,hz,q⟩:=h;obtain⟨t,rfl⟩:=rx;obtain⟨t',rfl⟩:=ry;exact add_str (fun t' tk=>⟨.str (i++j),H,I.tok _,⟨_,rfl⟩,q⟩) hz
theorem vals1{x:V}{us:List Value}(r:Vals [x] us):∃ u,us=[u]/\RelV x u:=by
 cases r with
 | cons r1 r2=>cases r2;exact⟨_,rfl,r1⟩
theorem vals2{x y:V}{us:List Value}(r:Vals [x,y] us):∃ u w',us=[u,w']/\RelV x u/\RelV y w':=by
 cases r with
 | cons r1 r2 =>
   cases r2 with
   | cons r3 r4=>cases r4;exact⟨_,_,rfl,r1,r3⟩
theorem zm4:zfK X (.builtin "abs") (fun xs H Q=>∃ i,xs=[.int i]/\Q (.int (if i < 0 then -i else i)) H):=by
 intro pins s σ H xs us Q I r h;obtain⟨i,rfl,q⟩:=h;obtain⟨u,rfl,t,rfl⟩:=vals1 r;exact call_abs_int fun u tk=>⟨.int (if i < 0 then -i else i),H,I.tok _,⟨_,rfl⟩,q⟩
theorem zkF(hc:X.calm=true):zfK X (.builtin "max") (fun xs H Q=>∃ i j,xs=[.int i,.int j]/\Q (.int (if j > i then j else i)) H):=by
 intro pins s σ H xs us Q I r h;obtain⟨i,j,rfl,q⟩:=h;obtain⟨u,w',rfl,⟨t,rfl⟩,⟨t',rfl⟩⟩:=vals2 r;refine max_two_ints (I.ok.hd hc) fun h' tk k=>⟨_,H,I.kept k,?_,q⟩
 by_cases hj:j > i
 . rw[if_pos hj,if_pos hj];exact⟨_,rfl⟩
 . rw[if_neg hj,if_neg hj];exact⟨_,rfl⟩
theorem zkD(hc:X.calm=true):zfK X (.builtin "min") (fun xs H Q=>∃ i j,xs=[.int i,.int j]/\Q (.int (if j < i then j else i)) H):=by
 intro pins s σ H xs us Q I r h;obtain⟨i,j,rfl,q⟩:=h;obtain⟨u,w',rfl,⟨t,rfl⟩,⟨t',rfl⟩⟩:=vals2 r;refine min_two_ints (I.ok.hd hc) fun h' tk k=>⟨_,H,I.kept k,?_,q⟩
 by_cases hj:j < i
 . rw[if_pos hj,if_pos hj];exact⟨_,rfl⟩
 . rw[if_neg hj,if_neg hj];exact⟨_,rfl⟩
theorem zgY:zfK X (.type "int") (fun xs H Q=>(∃ i,xs=[.int i]/\Q (.int i) H)\/∃ k,xs=[.bl k]/\Q (.int (if k then 1 else 0)) H):=by
 intro pins s σ H xs us Q I r h
 rcases h with ⟨i,rfl,q⟩ | ⟨k,rfl,q⟩
 . obtain⟨u,rfl,t,rfl⟩:=vals1 r;exact call_int_int ⟨.int i,H,I,⟨_,rfl⟩,q⟩
 . obtain⟨u,rfl,r1⟩:=vals1 r;cases r1;exact call_int_bool ⟨.int (if k then 1 else 0),H,I.tok _,⟨_,rfl⟩,q⟩
theorem zgr:zfK X (.type "str") (fun xs H Q=>∃ i,xs=[.int i]/\i.natAbs.log2 < 1920/\Q (.str (toString i)) H):=by
 intro pins s σ H xs us Q I r h;obtain⟨i,rfl,hz,q⟩:=h;obtain⟨u,rfl,t,rfl⟩:=vals1 r;exact PySem.P.str_of_int hz ⟨.str _,H,I.tok _,⟨_,rfl⟩,q⟩
end
theorem RelO.some_of{v:V}{o:Option Value}(r:RelO (some v) o):∃ u,o=some u/\RelV v u:=by
 cases o with
 | none=>exact (show False from r).elim
 | some u=>exact⟨u,rfl,r⟩
structure Room(k:Nat)(A:Around):Prop where
 hd:A.handled=none
 dp:A.depth+3*k+5 < recursionLimit
 un:A.units+16*k+200 < cLine
 gd:A.guards=some []
theorem Room.mono{j k:Nat}{A:Around}(r:Room k A)(h:j<=k):Room j A:=⟨r.hd,by have:=r.dp;omega,by have:=r.un;omega,r.gd⟩
theorem Room.deeper{k:Nat}{A:Around}(r:Room (k+1) A)(env:Env):Room k (A.deeper env) :=
 ⟨r.hd,by have:=r.dp;show A.depth+1+3*k+5 < _;omega,by have:=r.un;show A.units+3+16*k+200 < _;omega,r.gd⟩
theorem Room.depth{k:Nat}{A:Around}(r:Room k A):A.depth < recursionLimit:=by have:=r.dp;omega
theorem Room.units{k:Nat}{A:Around}(r:Room k A):A.units+64 < cLine:=by have:=r.un;omega
noncomputable def tNil:TA:=fun _ H Q=>Q [] H
noncomputable def zrx(ta:TE)(tr:TA):TA:=fun σ H Q=>ta σ H fun x H1=>tr σ H1 fun xs H2=>Q (x::xs) H2
section
variable {X:Cx} {e:Expr} {es:List Expr} {te:TE} {t:TA} {pos:Pos}
theorem zhq:PA X [] tNil:=fun _ _ _ _ H Q I h=>Calls.spliced_nil ⟨[],H,I,.nil,h⟩
theorem zdW(ha:PE X e te)(hr:PA X es t)(hs:starEach (e::es) X.env=(false,eval e X.env)::starEach es X.env:=by rfl):PA X (e::es) (zrx te t):=by
 intro pos pins s σ H Q I h;rw[hs];show wpAny _ _ (spliced ((false,eval e X.env)::backTo pos (starEach es X.env))) _ _ s;refine Calls.spliced_cons (thn (ha pins s σ H _ I h) ?_);rintro u s1 ⟨x,H1,I1,r1,q1⟩;exact thn (hr pos pins s1 σ H1 _ I1 q1) fun us s2 ⟨xs,H2,I2,r2,q2⟩=>⟨x::xs,H2,I2,.cons r1 r2,q2⟩
noncomputable def tTup(t:TA):TE:=fun σ H Q=>t σ H fun xs H1=>xs.length<=sizeLine/\∀ p,H1 p=none->Q (.ref p) (upd H1 p (.tup xs))
noncomputable def tLst(t:TA):TE:=fun σ H Q=>t σ H fun xs H1=>xs.length<=sizeLine/\∀ p,H1 p=none->Q (.ref p) (upd H1 p (.lst xs))
theorem zqc{x1}(h:PA X es t):PE X (.Tuple es x1 pos) (tTup t):=by
 intro pins s σ H Q I hq;refine wpAny_Tuple_spliced (thn (h pos pins s σ H _ I hq) fun us s1 ⟨xs,H1,I1,r,z,q⟩=>⟨by rw[<-r.length];exact z,?_⟩);have hf:H1 s1.heap.objs.size=none:=I1.hok.fresh (Af _);refine⟨.ref s1.heap.objs.size,upd H1 s1.heap.objs.size (.tup xs),I1.laid (t':=s1.toks) (fun b u e=>Ad _ e) (Af _) ?_,rfl,q _ hf⟩;exact⟨z,us,r,⟨_,Al _ rfl,rfl,rfl,_,rfl⟩⟩
theorem zqi(h:PA X es t):PE X (.List es pos) (tLst t):=by
 intro pins s σ H Q I hq;refine wpAny_List_spliced (thn (h pos pins s σ H _ I hq) fun us s1 ⟨xs,H1,I1,r,z,q⟩=>⟨by rw[<-r.length];exact z,?_⟩);have hf:H1 s1.heap.objs.size=none:=I1.hok.fresh (Af _);refine⟨.ref s1.heap.objs.size,upd H1 s1.heap.objs.size (.lst xs),I1.laid (t':=s1.toks) (fun b u e=>Ad _ e) (Af _) ?_,rfl,q _ hf⟩;exact⟨z,us,0,r,Al _ rfl⟩
end
noncomputable abbrev Sp:=List V->Hp->VK->XK->Prop
noncomputable abbrev CXT:=List Env->Hp->Shared->XK->Value->Shared->Prop
structure Env0(P:Program)(w:World)(K:Ae)(mg:Str->Option Value)(base:Heap)(A:Around)(outer:List Env)(s:Shared)(H:Hp):Prop where
 frames:A.frames=some outer
 mod:Mod K mg base
 bs:∀ b o,base.get? b=some o->s.heap.get? b=some o/\H b=none
 bsz:base.objs.size<=s.heap.objs.size
 funs:s.heap.FunFrames base outer
 frf:∀ b∈frs outer,H b=none
 hok:HOk P w H s.heap
 bare:AllBare s.gens
def CE(outer:List Env)(P:Program)(w:World)(H:Hp)(s:Shared)(Q:VK)(u:Value)(s':Shared):Prop :=
 ∃ v H',s'.os=s.os/\AllBare s'.gens/\Un (frs outer) [] H H' s.heap s'.heap/\HOk P w H' s'.heap/\RelV v u/\Q v H'
def CR(CX:CXT)(outer:List Env)(P:Program)(w:World)(H:Hp)(s:Shared)(Q:VK)(E:XK)(r:Result)(s':Shared):Prop :=
 match r with
 | .ok (.ret u)=>CE outer P w H s Q u s'
 | .ok _=>False
 | .error e=>CX outer H s E e s'
structure FnOk(P:Program)(w:World)(K:Ae)(mg:Str->Option Value)(base:Heap)(CX:CXT)(k:Nat)(f:Addr)(fd:FuncData)(ps:List Str)(sp:Sp):Prop where
 len:∀ vs H Q E,sp vs H Q E->vs.length=ps.length
 run:∀ (A:Around) (outer:List Env) (s:Shared) (H:Hp) (args:Args) (us:List Value) (vs:List V) (Q:VK) (E:XK),Room k A->Env0 P w K mg base A outer s H->BindsTo s fd args (ps.zip us)->Vals vs us->sp vs H Q E ->
   codeAny (model P w) A (.call (.ref f) args) (CR CX outer P w H s Q E) s
section
variable {X:Cx} {pins:List (Addr×Obj)} {σ:St} {H:Hp} {s s':Shared}
theorem Inv.env0(I:Inv X pins σ H s):Env0 X.prog X.w X.K X.mg X.base X.A X.stack s H :=
 ⟨I.ok.frames,I.ok.mod,I.bs,AR I.ok.bsz I.sz,I.stack,I.stkFree,I.hok,I.bare⟩
theorem Inv.after{Q:VK}{u:Value}(I:Inv X pins σ H s)(h:CE X.stack X.prog X.w H s Q u s'):EP X pins σ Q u s':=by
 obtain⟨v,H',os,bare,un,hok,r,q⟩:=h;obtain⟨hh,g,d,t,os'⟩:=s';obtain rfl:os'=s.os:=os;exact⟨v,H',I.call (h':=hh) (g':=g) (d':=d) (t':=t) (ch:=[]) un hok bare (fun b z=>absurd z (by simp)),r,q⟩
end
noncomputable def zry(sp:Sp)(dvs:List V)(E:XK)(t:TA):TE:=fun σ H Q=>t σ H fun vs H1=>sp (vs++dvs) H1 Q E
def Binds(K:Ae)(fd:FuncData)(ps:List Str)(ds:List Value):Prop :=
 ∀ (s:Shared) (us:List Value),K.In s.heap->(us++ds).length=ps.length->BindsTo s fd ⟨us,[]⟩ (ps.zip (us++ds))
theorem Binds.all{K:Ae}{fd:FuncData}{ps:List Str}(h:∀ us:List Value,us.length=ps.length->bindArgs fd ⟨us,[]⟩=pure (ps.zip us)):Binds K fd ps []:=fun s us _ hl=>by
 rw[Ap] at hl ⊢;exact .of_eq (h us hl)
def Passes(CX:CXT)(X:Cx)(E:XK):Prop:=∀ (pins:List (Addr×Obj)) (σ:St) (H:Hp) (s:Shared) (e:Value) (s':Shared),Inv X pins σ H s->CX X.stack H s E e s'->X.xe e s'
section
variable {X:Cx} {CX:CXT} {k:Nat} {f C:Addr} {fd:FuncData} {ps:List Str} {sp:Sp} {dvs:List V} {ds:List Value} {E:XK} {x m:Str} {p pos apos:Pos} {e o:Expr} {es:List Expr} {ta:TE} {t:TA}
theorem zpQ{pins:List (Addr×Obj)}{σ:St}{H:Hp}{s:Shared}{Q:VK}{us:List Value}{vs:List V}(F:FnOk X.prog X.w X.K X.mg X.base CX k f fd ps sp)(hr:Room k X.A)(hb:Binds X.K fd ps ds)(hd:Vals dvs ds)(hx:Passes CX X E)
   (I:Inv X pins σ H s) (r:Vals vs us) (h:sp (vs++dvs) H Q E):wpAny (model X.prog X.w) X.A (call (.ref f) us) (EP X pins σ Q) X.xe s:=by
 have r2:Vals (vs++dvs) (us++ds):=r.append hd;have hl:(us++ds).length=ps.length:=by rw[<-r2.length];exact F.len _ _ _ _ h
 refine GV (CM (F.run X.A X.stack s H ⟨us,[]⟩ (us++ds) (vs++dvs) Q E hr I.env0 (hb s us I.kIn hl) r2 h) fun r s' hq=>?_)
 cases r with
 | error e=>exact hx pins σ H s e s' I hq
 | ok fl =>
   cases fl with
   | ret u=>exact I.after hq
   | next=>exact False.elim hq
   | brk=>exact False.elim hq
   | cont=>exact False.elim hq
theorem zoi(F:FnOk X.prog X.w X.K X.mg X.base CX k f fd ps sp)(hr:Room k X.A)(hg:Gl X x)(hm:X.mg x=some (.ref f))(hk:Co X.K (.ref f)=true)(hb:Binds X.K fd ps ds)(hd:Vals dvs ds)(hx:Passes CX X E)
   (ha:PA X (e::es) t) (hdb:(x==("__debug__":Str))=false:=by decide) (he:starEach (e::es) X.env=(false,eval e X.env)::starEach es X.env:=by rfl) (hpl:(backTo pos (starEach es X.env)).any (·.1)=false:=by rfl) :
   PE X (.Call (.Name x p) (e::es) [] pos) (zry sp dvs E t):=by
 intro pins s σ H Q I h;refine D7 (zoI I hg hm ?_ hdb);refine PySem.W.callWith_K (h₀:=X.base) I.ok.mod.kin hk (thn (ha pos pins s σ H _ I h) fun us s1 ⟨vs,H1,I1,r,q⟩=>⟨I1.kIn,?_⟩) he hpl;exact zpQ F hr hb hd hx I1 r q
end
structure FnScope(N P:List Str)(sc:Scope):Prop where
 kind:sc.kind=.function
 co:sc.isCoroutine=false
 gen:sc.isGenerator=false
 nd:N.Nodup
 pre:N.take P.length=P
 par:∀ x∈P,sc.names.lookup x=some .local\/sc.names.lookup x=some .cell
 nofree:∀ y∈sc.names,y.2≠.free
theorem zg1{kindOf:Str->Option NameKind}{x:Str}:∀ {binds:List (Str×Value)} {m:Str->Option Value},(∀ v,(x,v) ∉ binds)->bindL kindOf binds m x=m x
 | [],_,_=>rfl
 | (n,v)::r,m,h=>by
   unfold bindL;rw[zg1 fun w hw=>h w (Ah _ hw)]
   split
   . have:x≠n:=by rintro rfl;exact h v Aj
     simp[this]
   . rfl
theorem zg3{kindOf:Str->Option NameKind}{x:Str}:∀ {binds:List (Str×Value)} {m:Str->Option Value},(∀ v,(x,v) ∉ binds)->bindC kindOf binds m x=m x
 | [],_,_=>rfl
 | (n,v)::r,m,h=>by
   unfold bindC;rw[zg3 fun w hw=>h w (Ah _ hw)]
   split
   . rfl
   . have:x≠n:=by rintro rfl;exact h v Aj
     simp[this]
theorem zg2{kindOf:Str->Option NameKind}{x:Str}{v:Value}:∀ {P:List Str} {vs:List Value} {i:Nat} {m:Str->Option Value},P.Nodup->P[i]?=some x->vs[i]?=some v->kindOf x=some .local ->
   bindL kindOf (P.zip vs) m x=some v
 | [],_,_,_,_,h,_,_=>by simp at h
 | _::_,[],_,_,_,_,h,_=>by simp at h
 | p::P,w::vs,0,m,nd,h1,h2,hk=>by
   simp at h1 h2;subst h1;subst h2;show bindL kindOf ((p,w)::P.zip vs) m p=_;unfold bindL;rw[zg1 fun v hv=>(List.nodup_cons.mp nd).1 (EV hv).1,if_pos hk];simp
 | p::P,w::vs,i+1,m,nd,h1,h2,hk=>by
   show bindL kindOf ((p,w)::P.zip vs) m x=_;unfold bindL;exact zg2 (i:=i) (List.nodup_cons.mp nd).2 (by simpa using h1) (by simpa using h2) hk
theorem zg4{kindOf:Str->Option NameKind}{x:Str}{v:Value}:∀ {P:List Str} {vs:List Value} {i:Nat} {m:Str->Option Value},P.Nodup->P[i]?=some x->vs[i]?=some v->kindOf x≠some .local ->
   bindC kindOf (P.zip vs) m x=some v
 | [],_,_,_,_,h,_,_=>by simp at h
 | _::_,[],_,_,_,_,h,_=>by simp at h
 | p::P,w::vs,0,m,nd,h1,h2,hk=>by
   simp at h1 h2;subst h1;subst h2;show bindC kindOf ((p,w)::P.zip vs) m p=_;unfold bindC;rw[zg3 fun v hv=>(List.nodup_cons.mp nd).1 (EV hv).1,if_neg hk];simp
 | p::P,w::vs,i+1,m,nd,h1,h2,hk=>by
   show bindC kindOf ((p,w)::P.zip vs) m x=_;unfold bindC;exact zg4 (i:=i) (List.nodup_cons.mp nd).2 (by simpa using h1) (by simpa using h2) hk
noncomputable def start(N:List Str)(vs:List V):St:=vs.map some++Cp (N.length - vs.length) none
noncomputable def cxOf(CX:CXT)(P:Program)(w:World)(K:Ae)(mg:Str->Option Value)(base:Heap)(N:List Str)(qual:Str)(scope:Scope)(f:Addr)(cd:Value)(A:Around)(outer:List Env)(s:Shared)(H:Hp)(E:XK):Cx where
 prog:=P
 w:=w
 K:=K
 mg:=mg
 base:=base
 A:=A.deeper (envOfC qual scope s.heap.objs.size f cd)
 N:=N
 s₀:=s
 H₀:=H
 env:=envOfC qual scope s.heap.objs.size f cd
 outer:=outer
 stack:=envOfC qual scope s.heap.objs.size f cd::outer
 ex:=[]
 calm:=true
 fn:=fun _=>true
 pn:=[]
 xe:=fun e s'=>wpAny (model P w) (A.deeper (envOfC qual scope s.heap.objs.size f cd)) (leaving (envOfC qual scope s.heap.objs.size f cd) e) (fun _ s''=>CX outer H s E e s'') (fun e' s''=>CX outer H s E e' s'') s'
theorem zji{sc:Scope}{n:Nat}{x:Str}(h:sc.names.lookup x=some .cell):∃ c,(cellsFrom n sc.names []).lookup x=some c:=by
 have q:=Fg sc.names n [] (.inl h);exact Option.isSome_iff_exists.mp q
theorem zkm{CX:CXT}{P:Program}{w:World}{K:Ae}{mg:Str->Option Value}{base:Heap}{N ps:List Str}{qual:Str}{scope:Scope}{f:Addr}{cd:Value}{A:Around}{outer:List Env}{s s1:Shared}{H:Hp}{E:XK}{us:List Value}{vs:List V}
   (S:FnScope N ps scope) (hd:A.handled=none) (e0:Env0 P w K mg base A outer s H) (hl:vs.length=ps.length) (r:Vals vs us)
   (x:InCallC s s.heap.objs.size (bindL (envOfC qual scope s.heap.objs.size f cd).kindOf (ps.zip us) fun _=>none) (cellsFrom (s.heap.objs.size+1) scope.names []) (bindC (envOfC qual scope s.heap.objs.size f cd).kindOf (ps.zip us) fun _=>none) s1) :
   Inv (cxOf CX P w K mg base N qual scope f cd A outer s H E) [] (start N vs) H s1:=by
 have hpl:ps.length<=N.length:=by have:=congrArg List.length S.pre;rw[Bm] at this;omega
 obtain⟨h1,tk,rfl,hk⟩:=x.done;have noA:∀ b:Addr,b ∉ (cxOf CX P w K mg base N qual scope f cd A outer s H E).ex:=fun b z=>absurd (show b∈([]:List Addr) from z) (by simp);refine⟨⟨e0.mod,S.kind,rfl,rfl,Af _,fun y z c h1 h2=>?_,fun y hy=>?_,fun y c _ h=>?_,fun _=>hd,Around.frames_deeper e0.frames,.inr ⟨rfl,rfl⟩,fun b z=>absurd z (noA b),e0.bs,e0.bsz,fun b _ _=>noA b,fun b z=>absurd z (noA b),e0.funs,e0.frf⟩,
   rfl,e0.bare,Un.kept hk,⟨_,x.toInCall.ns,fun i y v h1 h2 h3=>?_⟩,fun y c h=>⟨_,x.cell y c h⟩,e0.hok.fresh (Af _),fun y c h=>?_,fun p hp=>absurd (show p∈([]:List (Addr×Obj)) from hp) (by simp),e0.hok.kept hk,?_⟩
 . exact name_of_addr x.apart (A9 h1) (A9 h2)
 . have hy:scope.names.lookup y=some .cell\/scope.names.lookup y=some .free:=hy
   rcases hy with hy | hy
   . exact zji hy
   . exact absurd rfl (S.nofree _ (A9 hy))
 . exact Cr (x.above y c (A9 h))
 . have hi:i < vs.length:=by
     unfold start at h2
     by_cases hi:i < vs.length
     . exact hi
     . rw[Be (by simpa using hi)] at h2;rw[Cz] at h2
       split at h2 <;> cases h2
   have ha:vs[i]?=some v:=by
     unfold start at h2;rw[AK (by simpa using hi),AA] at h2
     cases e:vs[i]? with
     | none=>rw[e] at h2;cases h2
     | some a=>rw[e] at h2;cases h2;rfl
   obtain⟨u,hu,rv⟩:=r.get ha;have hp:ps[i]?=some y:=by
     rw[<-S.pre,List.getElem?_take_of_lt (by omega)];exact h1
   have ndP:ps.Nodup:=by rw[<-S.pre];exact S.nd.sublist (Gn _ _)
   refine⟨u,rv,?_⟩
   rcases S.par y (Bc hp) with k | k
   . exact .inl ⟨k,zg2 ndP hp hu k⟩
   . obtain⟨c,e⟩:=zji (n:=s.heap.objs.size+1) k;refine .inr ⟨.inl k,c,e,?_⟩;have q:=x.cell y c e;rw[zg4 ndP hp hu (by show scope.names.lookup y≠_;rw[k];decide)] at q;exact q
 . exact e0.hok.fresh (Cr (x.above y c (A9 h)))
 . unfold start;show _=N.length;rw[AE,Ag,CN];omega
theorem zr4{CX:CXT}{P:Program}{w:World}{K:Ae}{mg:Str->Option Value}{base:Heap}{k:Nat}{f:Addr}{name qual:Str}{params:Arguments}{body:List Stmt}{scope:Scope}{dV kV doc pm cdv ct oc:Value}{an od:Option Addr}
   {osl:Array (Option Value)} {N ps:List Str} {sp:Sp} (lk:K.lookup f=some ⟨oc,od,.func (Cc name qual params body scope dV kV doc pm an cdv ct),osl⟩) (hcd:Di K cdv qual=true) (S:FnScope N ps scope)
   (len:∀ vs H Q E,sp vs H Q E->vs.length=ps.length)
   (hbody:∀ (A:Around) (outer:List Env) (s:Shared) (H:Hp) (vs:List V) (Q:VK) (E:XK),Room k (A.deeper (envOfC qual scope s.heap.objs.size f cdv))->sp vs H Q E ->
     ∃ t,PSs (cxOf CX P w K mg base N qual scope f cdv A outer s H E) body t/\t { nx:=fun _ H'=>Q .non H',rt:=Q } (start N vs) H) :
   FnOk P w K mg base CX (k+1) f (Cc name qual params body scope dV kV doc pm an cdv ct) ps sp:=by
 refine⟨len,fun A outer s H args us vs Q E hr e0 hb r hsp=>?_⟩;have hl:=len _ _ _ _ hsp;have KX:K.In s.heap:=e0.mod.kin.keeps fun b o e=>(e0.bs b o e).1;have lim:s.heap.NoLimit:=e0.mod.nolimit.keeps fun b o e=>(e0.bs b o e).1;have hkind:∀ y∈ps.zip us,scope.names.lookup y.1=some .local\/(scope.names.lookup y.1=some .cell/\((cellsFrom (s.heap.objs.size+1) scope.names []).lookup y.1).isSome=true):=by
   rintro ⟨n,v⟩ hy
   rcases S.par n (EV hy).1 with q | q
   . exact .inl q
   . exact .inr ⟨q,Fg _ _ _ (.inl q)⟩
 refine codeAny_call_function hr.depth (KX _ _ lk) rfl S.co S.gen rfl (PySem.W.codeRec_of KX hcd) (hb _ _ _ _ ?_);refine wpAny_newFunctionEnv_cells S.kind hkind fun env he s1 x=>?_;subst he;refine⟨lim.keeps x.toInCall.keep,codeAny_func ?_⟩;obtain⟨t,ht,hq⟩:=hbody A outer s H vs Q E (hr.deeper _) hsp;have I:Inv (cxOf CX P w K mg base N qual scope f cdv A outer s H E) [] (start N vs) H s1:=zkm S hr.hd e0 hl r x;refine BH (ht [] s1 (start N vs) H _ I hq) (fun fl s' hs=>?_) fun e s' hs=>hs;have fin:∀ {σ':St} {H':Hp} {v:V} {u:Value},Inv (cxOf CX P w K mg base N qual scope f cdv A outer s H E) [] σ' H' s'->RelV v u->Q v H'->CE outer P w H s Q u s' :=
   fun {σ' H' v u} J rv q=>⟨v,H',J.os,J.bare,J.base,J.hok,rv,q⟩
 cases fl with
 | ret u =>
   obtain⟨v,σ',H',J,rv,q⟩:=hs;exact fin J rv q
 | next =>
   obtain⟨σ',H',J,q⟩:=hs;exact fin (v:=V.non) (u:=AW) J rfl q
 | brk =>
   obtain⟨_,_,_,q⟩:=hs;exact False.elim q
 | cont =>
   obtain⟨_,_,_,q⟩:=hs;exact False.elim q
section
variable {X:Cx} {x:Str} {p pos:Pos} {e:Expr} {es:List Expr} {t:TA} {id T:String} {r:List V->Hp->VK->Prop}
noncomputable def tCB(r:List V->Hp->VK->Prop)(t:TA):TE:=fun σ H Q=>t σ H fun vs H1=>r vs H1 Q
theorem zeR(hc:zfK X (.builtin id) r)(hg:Gl X x)(hm:X.mg x=none)(hv:bootBuiltins x=some (.builtin id))(ha:PA X (e::es) t)(hn:x≠"__name__":=by decide)(hdb:(x==("__debug__":Str))=false:=by decide)
   (he:starEach (e::es) X.env=(false,eval e X.env)::starEach es X.env:=by rfl) (hpl:(backTo pos (starEach es X.env)).any (·.1)=false:=by rfl):PE X (.Call (.Name x p) (e::es) [] pos) (tCB r t):=by
 intro pins s σ H Q I h;refine D7 (ziO I hg hm hv ?_ hn hdb);exact PyProof.Rows.callWith_builtin1 (thn (ha pos pins s σ H _ I h) fun us s1 ⟨vs,H1,I1,r1,q1⟩=>hc pins s1 σ H1 vs us Q I1 r1 q1) he hpl
theorem zeQ(hc:zfK X (.type T) r)(hg:Gl X x)(hm:X.mg x=none)(hv:bootBuiltins x=some (.type T))(ha:PA X (e::es) t)(hn:x≠"__name__":=by decide)(hdb:(x==("__debug__":Str))=false:=by decide)
   (he:starEach (e::es) X.env=(false,eval e X.env)::starEach es X.env:=by rfl) (hpl:(backTo pos (starEach es X.env)).any (·.1)=false:=by rfl):PE X (.Call (.Name x p) (e::es) [] pos) (tCB r t):=by
 intro pins s σ H Q I h;refine D7 (ziO I hg hm hv ?_ hn hdb);exact CQ (thn (ha pos pins s σ H _ I h) fun us s1 ⟨vs,H1,I1,r1,q1⟩=>hc pins s1 σ H1 vs us Q I1 r1 q1) he hpl
end
section
variable {κ:Type} [DecidableEq κ]
noncomputable def valV(kvs:List (κ×V))(k:κ):Option V:=(kvs.find? fun kv=>decide (kv.1=k)).map (·.2)
noncomputable def putK(kvs:List (κ×V))(k:κ)(v:V):List (κ×V) :=
 if (kvs.any fun kv=>decide (kv.1=k))=true then kvs.map (fun kv=>if kv.1=k then (kv.1,v) else kv) else kvs++[(k,v)]
theorem zfT{p:κ×V}{r:List (κ×V)}{k:κ}(e:p.1=k):valV (p::r) k=some p.2:=by simp[valV,BV,e]
theorem zfU{p:κ×V}{r:List (κ×V)}{k:κ}(e:¬ p.1=k):valV (p::r) k=valV r k:=by simp[valV,BV,e]
theorem zhO(k:κ):∀ kvs:List (κ×V),(kvs.any fun kv=>decide (kv.1=k))=(valV kvs k).isSome
 | []=>rfl
 | p::r=>by
   rw[CV]
   by_cases e:p.1=k
   . simp only[zfT e,decide_eq_true e,Bool.true_or,F8]
   . rw[zfU e,decide_eq_false e,Bool.false_or];exact zhO k r
theorem zel(kvs:List (κ×V))(k:κ)(v:V):(putK kvs k v).length<=kvs.length+1:=by
 unfold putK
 split
 . rw[Ag];omega
 . rw[AE,A6,Cg];omega
theorem RelO.isSome_eq{o:Option V}{u:Option Value}(r:RelO o u):o.isSome=u.isSome:=by
 cases o with
 | none=>cases u with
   | none=>rfl
   | some _=>exact (show False from r).elim
 | some _=>cases u with
   | none=>exact (show False from r).elim
   | some _=>rfl
theorem KV.val{kvs:List (κ×V)}{vs:List (κ×Value)}(r:KV kvs vs)(k:κ):RelO (valV kvs k) (valueAt vs k):=by
 unfold KV at r
 induction r with
 | nil=>exact FK
 | @cons p q ps qs h t ih =>
   obtain⟨h1,h2⟩:=h
   by_cases e:p.1=k
   . have e':q.1=k:=h1.symm.trans e;have b:valueAt (q::qs) k=some q.2:=by simp[valueAt,BV,e']
     rw[zfT e,b];exact h2
   . have e':¬ q.1=k:=fun z=>e (h1.trans z);have b:valueAt (q::qs) k=valueAt qs k:=by simp[valueAt,BV,e']
     rw[zfU e,b];exact ih
theorem KV.any{kvs:List (κ×V)}{vs:List (κ×Value)}(r:KV kvs vs)(k:κ):(kvs.any fun kv=>decide (kv.1=k))=vs.any fun kv=>decide (kv.1=k):=by
 unfold KV at r
 induction r with
 | nil=>rfl
 | cons h t ih=>rw[CV,CV,ih,h.1]
theorem KV.repl{kvs:List (κ×V)}{vs:List (κ×Value)}(r:KV kvs vs)(k:κ){y:V}{u:Value}(ry:RelV y u) :
   KV (kvs.map fun kv=>if kv.1=k then (kv.1,y) else kv) (vs.map fun kv=>if kv.1=k then (kv.1,u) else kv):=by
 unfold KV at r ⊢
 induction r with
 | nil=>exact .nil
 | @cons p q ps qs h t ih =>
   rw[Ar,Ar];refine .cons ?_ ih;obtain⟨h1,h2⟩:=h
   by_cases e:p.1=k
   . rw[if_pos e,if_pos (h1.symm.trans e)];exact⟨h1,ry⟩
   . rw[if_neg e,if_neg (fun z=>e (h1.trans z))];exact⟨h1,h2⟩
theorem KV.put{kvs:List (κ×V)}{vs:List (κ×Value)}(r:KV kvs vs)(k:κ){y:V}{u:Value}(ry:RelV y u):KV (putK kvs k y) (stored vs k u):=by
 unfold putK stored;rw[r.any k]
 by_cases e:(vs.any fun kv=>decide (kv.1=k))=true
 . rw[if_pos e,if_pos e];exact r.repl k ry
 . rw[if_neg e,if_neg e];exact HA r ⟨rfl,ry⟩
theorem KV.length{kvs:List (κ×V)}{vs:List (κ×Value)}(r:KV kvs vs):kvs.length=vs.length:=BR r
end
theorem zpm{P:Program}{w:World}{k:Key}{u:Value}(r:RelV (kV k) u):(zb9 P w).is k u=true:=by
 cases k with
 | inl i=>obtain⟨t,e⟩:=(show ∃ t,u=F6 i t from r);subst e;exact zhy P w i t
 | inr x=>obtain⟨t,e⟩:=(show ∃ t,u=ET x t from r);subst e;exact zhx P w x t
theorem zgU{P:Program}{w:World}:∀ {ks:List Key} {us:List Value},Vals (ks.map kV) us->ItemsAre (zb9 P w) ks us
 | [],_,r=>by rw[Cs] at r;cases r;exact .nil
 | k::ks,_,r=>by
   rw[Ar] at r
   cases r with
   | cons h t=>exact .cons (zpm h) (zgU t)
noncomputable abbrev KT (H:Hp):List (List Key×V)->List (List Key×Addr×Value)->Prop:=Paired fun p q=>p.1=q.1/\H q.2.1=some (.tup (p.1.map kV))/\RelV p.2 q.2.2
theorem KT.val{H:Hp}{kvs:List (List Key×V)}{xs:List (List Key×Addr×Value)}(r:KT H kvs xs)(k:List Key):RelO (valV kvs k) ((atKey xs k).map (·.2)):=by
 induction r with
 | nil=>exact FK
 | @cons p q ps qs h t ih =>
   obtain⟨h1,_,h2⟩:=h
   by_cases e:p.1=k
   . have e':q.1=k:=h1.symm.trans e;have b:atKey (q::qs) k=some q.2:=by simp[atKey,BV,e']
     rw[zfT e,b];exact h2
   . have e':¬ q.1=k:=fun z=>e (h1.trans z);have b:atKey (q::qs) k=atKey qs k:=by simp[atKey,BV,e']
     rw[zfU e,b];exact ih
theorem KT.repl{H:Hp}{kvs:List (List Key×V)}{xs:List (List Key×Addr×Value)}(r:KT H kvs xs)(k:List Key){y:V}{u:Value}(ry:RelV y u) :
   KT H (kvs.map fun kv=>if kv.1=k then (kv.1,y) else kv) (xs.map (putAt k u)):=by
 induction r with
 | nil=>exact .nil
 | @cons p q ps qs h t ih =>
   rw[Ar,Ar];refine .cons ?_ ih;obtain⟨h1,h2,h3⟩:=h;unfold putAt
   by_cases e:p.1=k
   . rw[if_pos e,if_pos (h1.symm.trans e)];exact⟨h1,h2,ry⟩
   . rw[if_neg e,if_neg (fun z=>e (h1.trans z))];exact⟨h1,h2,h3⟩
theorem KT.put{H:Hp}{kvs:List (List Key×V)}{xs:List (List Key×Addr×Value)}(r:KT H kvs xs)(k:List Key){b:Addr}{y:V}{u:Value}(hb:H b=some (.tup (k.map kV)))(ry:RelV y u) :
   KT H (putK kvs k y) (storedH xs k b u):=by
 have e:(kvs.any fun kv=>decide (kv.1=k))=(atKey xs k).isSome:=by
   rw[zhO,(r.val k).isSome_eq,Gq]
 unfold putK storedH;rw[e]
 by_cases q:(atKey xs k).isSome=true
 . rw[if_pos q,if_pos q];exact r.repl k ry
 . rw[if_neg q,if_neg q];exact HA r ⟨rfl,hb,ry⟩
theorem KT.keeps{H H':Hp}{kvs:List (List Key×V)}{xs:List (List Key×Addr×Value)}(r:KT H kvs xs)(ht:∀ b ys,H b=some (.tup ys)->H' b=some (.tup ys)):KT H' kvs xs :=
 Paired.mapP r fun _ _ z=>⟨z.1,ht _ _ z.2.1,z.2.2⟩
section
variable {P:Program} {w:World} {H:Hp} {h:Heap} {a:Addr}
theorem zq6{u:HO}(ok:HOk P w H h)(e:Rd H a u):zdi P w H h a u:=e.ok ok
theorem zoX{kvs:List (Key×V)}(ok:HOk P w H h)(e:Rd H a (.dK kvs)):kvs.length<=sizeLine/\(a==sysModules)=false/\∃ vs,KV kvs vs/\h.DictOf (zb9 P w) a vs :=
 show zdi P w H h a (.dK kvs) from zq6 ok e
theorem zr7{kvs:List (Key×V)}(ok:HOk P w H h)(e:H a=some (.dK kvs)):kvs.length<=sizeLine/\(a==sysModules)=false/\∃ vs,KV kvs vs/\h.DictOf (zb9 P w) a vs:=zoX ok (.inl e)
theorem zki{ks:List Key}(ok:HOk P w H h)(e:H a=some (.tup (ks.map kV))):(tupleKind (zb9 P w)).is h ks a:=by
 obtain⟨_,its,r,o,h1,h2,_,n,h3⟩:=(show zdi P w H h a (.tup (ks.map kV)) from ok a _ e)
 exact⟨o,its.toArray,n,h1,h2,h3,by simpa using zgU r⟩
theorem zoV{kvs:List (List Key×V)}(ok:HOk P w H h)(e:Rd H a (.dT kvs)):kvs.length<=sizeLine/\(a==sysModules)=false /\
   ∃ xs,KT H kvs xs/\h.DictOfH (tupleKind (zb9 P w)) a xs:=by
 obtain⟨z,y,xs,r,o,es,ep,h1,h2,h3,h4,h5⟩:=(show zdi P w H h a (.dT kvs) from zq6 ok e)
 refine⟨z,y,xs,r,o,es,ep,h1,h2,h3,h4,fun x hx=>?_,h5⟩;have all:∀ {l:List (List Key×V)} {m:List (List Key×Addr×Value)},KT H l m->∀ x∈m,(tupleKind (zb9 P w)).is h x.1 x.2.1:=by
   intro l m q
   induction q with
   | nil=>intro x hx;exact nomatch hx
   | @cons p q ps qs hq t ih =>
     intro x hx
     rcases List.mem_cons.mp hx with e | hx
     . subst e;exact zki ok (by rw[<-hq.1];exact hq.2.1)
     . exact ih x hx
 exact all r x hx
theorem zr6{kvs:List (List Key×V)}(ok:HOk P w H h)(e:H a=some (.dT kvs)):kvs.length<=sizeLine/\(a==sysModules)=false /\
   ∃ xs,KT H kvs xs/\h.DictOfH (tupleKind (zb9 P w)) a xs:=zoV ok (.inl e)
end
def DGet(H:Hp)(a:Addr)(y:V)(r:Option V):Prop :=
 (∃ kvs k,Rd H a (.dK kvs)/\y=kV k/\r=valV kvs k)\/∃ kvs k b,Rd H a (.dT kvs)/\y=.ref b/\H b=some (.tup (k.map kV))/\r=valV kvs k
def DPut(H:Hp)(a:Addr)(y v:V)(H':Hp):Prop :=
 (∃ kvs k,H a=some (.dK kvs)/\y=kV k/\kvs.length < sizeLine/\H'=upd H a (.dK (putK kvs k v))) \/
 ∃ kvs k b,H a=some (.dT kvs)/\y=.ref b/\H b=some (.tup (k.map kV))/\kvs.length < sizeLine/\H'=upd H a (.dT (putK kvs k v))
theorem DGet.k{H:Hp}{a:Addr}{kvs:List (Key×V)}{k:Key}(e:H a=some (.dK kvs)):DGet H a (kV k) (valV kvs k):=.inl ⟨kvs,k,.inl e,rfl,rfl⟩
theorem DGet.t{H:Hp}{a b:Addr}{kvs:List (List Key×V)}{k:List Key}(e:H a=some (.dT kvs))(eb:H b=some (.tup (k.map kV))):DGet H a (.ref b) (valV kvs k):=.inr ⟨kvs,k,b,.inl e,rfl,eb,rfl⟩
theorem DPut.k{H:Hp}{a:Addr}{kvs:List (Key×V)}{k:Key}{v:V}(e:H a=some (.dK kvs))(hl:kvs.length < sizeLine):DPut H a (kV k) v (upd H a (.dK (putK kvs k v))):=.inl ⟨kvs,k,e,rfl,hl,rfl⟩
theorem DPut.t{H:Hp}{a b:Addr}{kvs:List (List Key×V)}{k:List Key}{v:V}(e:H a=some (.dT kvs))(eb:H b=some (.tup (k.map kV)))(hl:kvs.length < sizeLine) :
   DPut H a (.ref b) v (upd H a (.dT (putK kvs k v))):=.inr ⟨kvs,k,b,e,rfl,eb,hl,rfl⟩
section
variable {X:Cx} {pins:List (Addr×Obj)} {σ:St} {H:Hp} {s:Shared} {a:Addr} {y v:V} {u r:Value} {o:Option V} {A:Around} {E:Value->Shared->Prop}
theorem Inv.big(I:Inv X pins σ H s):sysModules < s.heap.objs.size:=by
 have h:mainGlobals < s.heap.objs.size:=(I.mod.glob.keeps I.bk).lt;exact F9 (by decide) h
theorem zku{Q:Value->Shared->Prop}(hu:A.units+1 < cLine)(I:Inv X pins σ H s)(g:DGet H a y (some v))(ry:RelV y u)(h:∀ w' s',Inv X pins σ H s'->RelV v w'->Q w' s') :
   wpAny (model X.prog X.w) A (getItem (.ref a) u) Q E s:=by
 rcases g with ⟨kvs,k,e,ey,l⟩ | ⟨kvs,k,b,e,ey,eb,l⟩
 . subst ey;obtain⟨z,hd,vs,rel,dd⟩:=zoX I.hok e;obtain⟨w',hw,rw'⟩:=RelO.some_of (v:=v) (o:=valueAt vs k) (by rw[l];exact rel.val k);exact wpAny_getItem_of (zpm ry) dd.mapOf hw (h w' _ (I.tok _) rw')
 . subst ey
   cases (show u=AJ b from ry)
   obtain⟨z,hd,xs,rel,dd⟩:=zoV I.hok e;obtain⟨w',hw,rw'⟩:=RelO.some_of (v:=v) (o:=(atKey xs k).map (·.2)) (by rw[l];exact rel.val k);obtain⟨p,hp,hp2⟩:=Option.map_eq_some_iff.mp hw;refine wpAny_getItem_heap (D8 hu) (zki I.hok eb) dd hp ?_;rw[hp2];exact h w' _ (I.tok _) rw'
theorem zoY{Q:Value->Shared->Prop}(hu:A.units+1 < cLine)(I:Inv X pins σ H s)(g:DGet H a y o)(ry:RelV y u)(h:∀ s',Inv X pins σ H s'->Q (.bool (!o.isSome)) s') :
   wpAny (model X.prog X.w) A (compareOp .NotIn u (.ref a)) Q E s:=by
 rcases g with ⟨kvs,k,e,ey,l⟩ | ⟨kvs,k,b,e,ey,eb,l⟩
 . subst ey;obtain⟨z,hd,vs,rel,dd⟩:=zoX I.hok e;refine wpAny_notIn_of (zpm ry) hd dd.mapOf ?_;rw[<-(rel.val k).isSome_eq,<-l];exact h _ (I.tok _)
 . subst ey
   cases (show u=AJ b from ry)
   obtain⟨z,hd,xs,rel,dd⟩:=zoV I.hok e;refine wpAny_notIn_heap (D8 hu) (zki I.hok eb) hd dd ?_;have q:=(rel.val k).isSome_eq;rw[Gq] at q;rw[<-q,<-l];exact h _ (I.tok _)
theorem zlg{h':Heap}{t':Nat}{ob:HO}(I:Inv X pins σ H s)(mu:Mut (H a))(hs:Bg a s.heap h')(he:∃ q,h'.get? a=some q)(new:zdi X.prog X.w (upd H a ob) h' a ob) :
   Inv X pins σ (upd H a ob) { s with heap:=h',toks:=t' } :=
 I.write (x:=a) (e:=a) mu (.inl rfl) (fun b q hb z=>(hs.2 b hb).trans z) he new
theorem zqT{P:Program}{w:World}{H':Hp}{h':Heap}{kvs:List (Key×V)}{vs:List (Key×Value)}(z:kvs.length<=sizeLine)(hd:(a==sysModules)=false)(rel:KV kvs vs)(dd:h'.DictOf (zb9 P w) a vs) :
   zdi P w H' h' a (.dK kvs):=⟨z,hd,vs,rel,dd⟩
theorem zkt{H':Hp}{Q:Unit->Shared->Prop}(hu:A.units+1 < cLine)(I:Inv X pins σ H s)(g:DPut H a y v H')(ry:RelV y u)(rv:RelV v r)(h:∀ s',Inv X pins σ H' s'->Q () s') :
   wpAny (model X.prog X.w) A (setItem (.ref a) u r) Q E s:=by
 rcases g with ⟨kvs,k,e,ey,l,eH⟩ | ⟨kvs,k,b,e,ey,eb,l,eH⟩
 . subst ey eH;obtain⟨z,hd,vs,rel,dd⟩:=zr7 I.hok e;have hz:vs.length<=sizeLine:=by rw[<-rel.length];exact z
   have hl:(putK kvs k v).length<=sizeLine:=by have:=zel kvs k v;omega
   refine wpAny_setItem_pairs (hsz:=hz) (zpm ry) dd fun h' dd' hs=>h _ ?_;have he:∃ q,h'.get? a=some q:=let ⟨q,_,_,hq,_⟩:=dd';⟨q,hq⟩
   exact zlg I (by rw[e];exact FK) hs he (zqT hl hd (rel.put k rv) dd')
 . subst ey eH
   cases (show u=AJ b from ry)
   obtain⟨z,hd,xs,rel,dd⟩:=zr6 I.hok e;have hz:xs.length<=sizeLine:=by rw[<-BR rel];exact z
   have hl:(putK kvs k v).length<=sizeLine:=by have:=zel kvs k v;omega
   refine wpAny_setItem_heap (hsz:=hz) (D8 hu) (zki I.hok eb) dd fun h' dd' hs=>h _ ?_;obtain⟨q,es,ep,hq,h2,h3,h4,_,h5⟩:=dd';refine zlg I (by rw[e];exact FK) hs ⟨q,hq⟩ ⟨hl,hd,_,(rel.put k eb rv).keeps fun c ys ec=>?_,q,es,ep,hq,h2,h3,h4,h5⟩;rw[zaO (zqx ec e (fun z=>nomatch z))];exact ec
end
def NoSl(i:Expr):Prop:=∀ ov iv,subscripted i false ov iv=operate [ov,iv] (getItem ov iv)
theorem znv{prog:Program}{w:World}{A:Around}{E:Value->Shared->Prop}{s:Shared}{env:Env}{value slice:Expr}{pos:Pos}{T id:String}{Q:Value->Shared->Prop}
   (hl:typeLookup (.type T) "__getitem__"=pure (some (.builtin id))) (hs:NoSl slice)
   (h:wpAny (model prog w) A (eval value env) (fun o s₁=>wpAny (model prog w) A (eval slice env) (fun i s₂=>s₂.TypeIs o T/\wpAny (model prog w) A (getItem o i) Q E s₂) E s₁) E s) :
   wpAny (model prog w) A (eval (.Subscript value slice pos) env) Q E s:=by
 refine DL (BH h (fun o s₁ h₁=>BH h₁ (fun i s₂ h₂=>?_) fun _ _ x=>x) fun _ _ x=>x);obtain⟨hT,h₂⟩:=h₂;unfold subscriptTail;refine Aa ?_;rw[getitemInPython_of_ne hT.not_modules];refine Aa (EW hT hl ?_);have fin:wpAny (model prog w) A (subscripted slice false o i) (fun r s₃=>wpAny (model prog w) A (letTemporaryGo value o r >>= fun _=>pure r) Q E s₃) E s₂:=by
   rw[hs o i];exact wpAny_operating (BH h₂ (fun r s₃ h₃=>Aa (wpAny_letTemporaryGo (Ab h₃))) fun _ _ x=>x)
 first
   | exact Ab (Aa fin)
   | exact Aa (Ab (Aa fin))
   | exact Aa fin
theorem zhA{X:Cx}{pins:List (Addr×Obj)}{σ:St}{H:Hp}{s:Shared}{a:Addr}{y:V}{o:Option V}(I:Inv X pins σ H s)(g:DGet H a y o):s.TypeIs (.ref a) "dict":=by
 rcases g with ⟨kvs,k,e,_,_⟩ | ⟨kvs,k,b,e,_,_,_⟩
 . obtain⟨_,_,vs,_,dd⟩:=zoX I.hok e;exact dd.typeIs
 . obtain⟨_,_,xs,_,dd⟩:=zoV I.hok e;exact dd.typeIs
noncomputable def zrw(td ty:TE):TE:=fun σ H Q=>td σ H fun x H1=>ty σ H1 fun y H2=>∃ a v,x=.ref a/\DGet H2 a y (some v)/\Q v H2
noncomputable def znt(ty td:TE):TE:=fun σ H Q=>ty σ H fun y H1=>td σ H1 fun x H2=>∃ a o,x=.ref a/\DGet H2 a y o/\Q (.bl (!o.isSome)) H2
noncomputable def zrE(td ty tv:TE):TS:=fun D σ H=>tv σ H fun v H1=>td σ H1 fun x H2=>ty σ H2 fun y H3=>∃ a H4,x=.ref a/\DPut H3 a y v H4/\D.nx σ H4
section
variable {X:Cx} {o i e value:Expr} {pos pos' tpos:Pos} {td ty tv:TE}
theorem zog(hu:X.A.units+1 < cLine)(ho:PE X o td)(hi:PE X i ty)(hs:NoSl i):PE X (.Subscript o i pos) (zrw td ty):=by
 intro pins s σ H Q I h;refine znv PySem.F.slot_dict_getitem.lookup hs (thn (ho pins s σ H _ I h) fun u s1 ⟨x,H1,I1,rx,q1⟩=>thn (hi pins s1 σ H1 _ I1 q1) ?_);rintro iv s2 ⟨y,H2,I2,ry,a,v,ex,g,q2⟩;subst ex;obtain rfl:u=AJ a:=rx;exact⟨zhA I2 g,zku hu I2 g ry fun w' s3 I3 rw'=>⟨v,H2,I3,rw',q2⟩⟩
theorem zj5(hu:X.A.units+1 < cLine)(hi:PE X i ty)(ho:PE X o td):PC X .NotIn i o (znt ty td):=by
 intro pins s σ H Q I h;refine thn (hi pins s σ H _ I h) fun iv s1 ⟨y,H1,I1,ry,q1⟩=>thn (ho pins s1 σ H1 _ I1 q1) ?_;rintro u s2 ⟨x,H2,I2,rx,a,ov,ex,g,q2⟩;subst ex;obtain rfl:u=AJ a:=rx;exact zoY hu I2 g ry fun s3 I3=>⟨.bl (!ov.isSome),H2,I3,rfl,q2⟩
theorem zn7(hu:X.A.units+1 < cLine)(ho:PE X o td)(hi:PE X i ty)(hv:PE X value tv)(hs:swapsWith value (some (.Subscript o i pos')) pos.line X.env=pure false) :
   PS X (.Assign [.Subscript o i pos'] value pos) (zrE td ty tv):=by
 intro pins s σ H D I h;refine wpAny_Assign_Subscript (thn (hv pins s σ H _ I h) fun r s1 ⟨v,H1,I1,rv,q1⟩=>thn (ho pins s1 σ H1 _ I1 q1) fun u s2 ⟨x,H2,I2,rx,q2⟩=>thn (hi pins s2 σ H2 _ I2 q2) ?_) hs;rintro iv s3 ⟨y,H3,I3,ry,a,H4,ex,g,q3⟩;subst ex;obtain rfl:u=AJ a:=rx;exact zkt hu I3 g ry rv fun s4 I4=>⟨σ,H4,I4,q3⟩
end
theorem zmX{P:Program}{w:World}{H:Hp}(h:Heap)(hb:sysModules < h.objs.size):zdi P w H (h.push { cls:=.type "dict",data:=.dict #[] }) h.objs.size (.dK []) :=
 ⟨AZ _,beq_eq_false_iff_ne.mpr (BL (AB hb)),[],.nil,Heap.DictOf.new h⟩
theorem zmV{P:Program}{w:World}{H:Hp}(h:Heap)(hb:sysModules < h.objs.size):zdi P w H (h.push { cls:=.type "dict",data:=.dict #[] }) h.objs.size (.dT []) :=
 ⟨AZ _,beq_eq_false_iff_ne.mpr (BL (AB hb)),[],.nil,_,#[],0,Al _ rfl,⟨rfl,rfl,rfl⟩,rfl,rfl,DZ⟩
noncomputable def zpx:TE:=fun _ H Q=>∀ p,H p=none->Q (.ref p) (upd H p (.dK []))
noncomputable def zpw:TE:=fun _ H Q=>∀ p,H p=none->Q (.ref p) (upd H p (.dT []))
section
variable {X:Cx} {pos:Pos}
theorem zmd:PE X (.Dict [] [] pos) zpx:=fun pins s σ H Q I h =>
 wpAny_Dict_empty ⟨.ref s.heap.objs.size,_,I.laid (a:=s.heap.objs.size) (o:=.dK []) (t':=s.toks) (fun _ _ q=>Ad _ q) (Af _) (zmX s.heap I.big),rfl,h _ (I.hok.fresh (Af _))⟩
theorem zmc:PE X (.Dict [] [] pos) zpw:=fun pins s σ H Q I h =>
 wpAny_Dict_empty ⟨.ref s.heap.objs.size,_,I.laid (a:=s.heap.objs.size) (o:=.dT []) (t':=s.toks) (fun _ _ q=>Ad _ q) (Af _) (zmV s.heap I.big),rfl,h _ (I.hok.fresh (Af _))⟩
end
def IsD(H:Hp)(a:Addr):Prop:=(∃ kvs,Rd H a (.dK kvs))\/∃ kvs,Rd H a (.dT kvs)
theorem zoQ{X:Cx}{pins:List (Addr×Obj)}{σ:St}{H:Hp}{s:Shared}{a:Addr}(I:Inv X pins σ H s)(d:IsD H a) :
   s.TypeIs (.ref a) "dict"/\(∀ b,AJ a=.ref b->∃ ob,s.heap.get? b=some ob/\ob.dict=none)/\(a==sysModules)=false:=by
 rcases d with ⟨kvs,e⟩ | ⟨kvs,e⟩
 . obtain⟨_,hd,vs,_,dd⟩:=zoX I.hok e;refine⟨dd.typeIs,fun b q=>?_,hd⟩;cases q;obtain⟨ob,_,_,h1,h2,_⟩:=dd;exact⟨ob,h1,h2.2.1⟩
 . obtain⟨_,hd,xs,_,dd⟩:=zoV I.hok e;refine⟨dd.typeIs,fun b q=>?_,hd⟩;cases q;obtain⟨ob,_,_,h1,h2,_⟩:=dd;exact⟨ob,h1,h2.2.1⟩
end L2
namespace HT
open PySem PyProof.Rows
noncomputable def lexLt:List Int->List Int->Bool
 | [],[]=>false
 | [],_::_=>true
 | _::_,[]=>false
 | x::xs,y::ys=>if x=y then lexLt xs ys else decide (x < y)
theorem lexLt_cons(x y:Int)(xs ys:List Int):lexLt (x::xs) (y::ys)=if x=y then lexLt xs ys else decide (x < y):=rfl
theorem lexLt_nil_nil:lexLt [] []=false:=rfl
theorem lexLt_nil_cons(y:Int)(ys:List Int):lexLt [] (y::ys)=true:=rfl
theorem lexLt_cons_nil(x:Int)(xs:List Int):lexLt (x::xs) []=false:=rfl
theorem zmS(A:Around)(s:Shared)(a:Int)(t:Tok)(c:Int)(u:Tok):∃ e,SeqAt.EqAt A s (.int a t) (.int c u) e/\(e=true ↔ a=c) :=
 ⟨(a==c),Ga a t c u,by simp⟩
theorem zl1(A:Around)(s:Shared)(a:Int)(t:Tok)(c:Int)(u:Tok)(prog:Program)(w:World)(E:Value->Shared->Prop)(Q:Value->Shared->Prop)(h:Q (.bool (decide (a < c))) s) :
   wpAny (model prog w) A (richCompare .Lt (.int a t) (.int c u)) Q E s :=
 (GR h:wpAny (model prog w) A (compareOp .Lt (.int a t) (.int c u)) Q E s)
section
open PySem.SeqAt
open PySem.MeetsSeq PySem.MeetsSeq2 PySem.MeetsSeq3
theorem zfd(l b:Addr)(items items2:Array Value)(n n2:Nat)(dd dd2:Option Addr)(sl sl2:Array (Option Value))(ns ms:List Int)(hi:IntsAre items.toList ns)(hj:IntsAre items2.toList ms) :
   Meets (Builtin.«tuple.__lt__» ⟨[.ref l,.ref b],[]⟩)
     (fun _ R s=>s.heap.get? l=some { cls:=.type "tuple",dict:=dd,data:=.seq items n,slots:=sl }/\s.heap.get? b=some { cls:=.type "tuple",dict:=dd2,data:=.seq items2 n2,slots:=sl2 } /\
       R (.ok (.ret (.bool (lexLt ns ms)))) s) :=
 .of_wp fun prog w A R s h=>by
   obtain⟨hp,g,d,tk,os⟩:=s;obtain⟨hl,hb,h⟩:=h;have f2:=AutoSeq1.sub_tuple_tuple;have z1:items.size=ns.length:=by rw[<-hi.length];simp
   have z2:items2.size=ms.length:=by rw[<-hj.length];simp
   wp_walk using wpAny_loadPart' hl,wpAny_loadPart' hb,DD _ (fun rest b s'=>b.1=none/\s'=⟨hp,g,d,tk,os⟩/\∃ (vs ws:List Value) (ns' ms':List Int),rest=vs.zip ws /\
     IntsAre vs ns'/\IntsAre ws ms'/\ns'.length+items2.size=ms'.length+items.size/\R (.ok (.ret (.bool (lexLt ns' ms')))) ⟨hp,g,d,tk,os⟩) _
   case turn =>
     rintro ⟨y,x⟩ rest b s' ⟨hb',rfl,vs,ws,ns',ms',hz,hvi,hwi,hlen,hR⟩
     cases hvi with
     | nil=>rw[List.zip_nil_left] at hz;cases hz
     | cons a t hvi' =>
       cases hwi with
       | nil=>rw[List.zip_nil_right] at hz;cases hz
       | cons c u hwi' =>
         rw[CD] at hz;injection hz with hyx hrest
         injection hyx with hy hx
         subst hy hx;rw[lexLt_cons] at hR;simp only[A6] at hlen;obtain⟨e,he,hiff⟩:=zmS A.in1 ⟨hp,g,d,tk,os⟩ a t c u;refine Aa (he prog w _ _ ?_)
         cases e with
         | true =>
           rw[if_pos (hiff.mp rfl)] at hR
           wp_walk
           exact⟨rfl,rfl,_,_,_,_,hrest,hvi',hwi',by omega,hR⟩
         | false =>
           rw[if_neg (fun q=>absurd (hiff.mpr q) Br)] at hR;have hri:=zl1 A.in1 ⟨hp,g,d,tk,os⟩ a t c u prog w
           wp_walk using hri
           exact⟨_,rfl,by simpa using hR⟩
   case fin =>
     rintro ⟨b1,b2⟩ s' ⟨hb',rfl,vs,ws,ns',ms',hz,hvi,hwi,hlen,hR⟩;simp only at hb';subst hb';have hv:lexLt ns' ms'=decide (items.size < items2.size):=by
       cases hvi with
       | nil =>
         cases hwi with
         | nil =>
           simp only[Cg] at hlen;rw[lexLt_nil_nil];exact (decide_eq_false (by omega)).symm
         | cons c u hw =>
           simp only[Cg,A6] at hlen;rw[lexLt_nil_cons];exact (decide_eq_true (by omega)).symm
       | cons a t hv =>
         cases hwi with
         | nil =>
           simp only[Cg,A6] at hlen;rw[lexLt_cons_nil];exact (decide_eq_false (by omega)).symm
         | cons c u hw =>
           rw[CD] at hz;cases hz
     rw[hv] at hR
     wp_walk
     exact⟨_,rfl,by simpa[Builtin.Tuple.tupleCompareSizes] using hR⟩
   case h =>
     exact⟨rfl,rfl,items.toList,items2.toList,ns,ms,rfl,hi,hj,by omega,h⟩
end
section
variable {prog:Program} {w:World} {A:Around} {E:Value->Shared->Prop} {s:Shared}
theorem lt_tupInts{l b:Addr}{items items2:Array Value}{ns ms:List Int}{Q:Value->Shared->Prop}(hl:IsTup s.heap l items)(hb:IsTup s.heap b items2)(hi:IntsAre items.toList ns)(hj:IntsAre items2.toList ms)
   (hu:A.units < cLine) (h:Q (.bool (lexLt ns ms)) s):wpAny (model prog w) A (compareOp .Lt (.ref l) (.ref b)) Q E s:=by
 obtain⟨⟨cls,dd,data,sl⟩,ho,hc,n,hd⟩:=id hl;obtain⟨⟨cls2,dd2,data2,sl2⟩,ho2,hc2,n2,hd2⟩:=id hb;simp only at hc hd hc2 hd2;subst hc hd hc2 hd2;exact richCompare_meets_room (op:=.Lt) ⟨_,ho,rfl⟩ ⟨_,ho2,rfl⟩ PySem.F.slot_tuple_lt PySem.F.entry_tuple_lt (PySem.F.args_tuple_lt_2 _ _) (zfd l b items items2 n n2 dd dd2 sl sl2 ns ms hi hj)
   ⟨ho,ho2,show Dg (lexLt ns ms)≠Value.notImplemented/\Q (.bool (lexLt ns ms)) s from ⟨(fun x=>nomatch x),h⟩⟩ hu
theorem cat_tup{t b:Addr}{vs ws:List Value}{Q:Value->Shared->Prop}(ht:IsTup s.heap t vs.toArray)(hb:IsTup s.heap b ws.toArray)(hv:vs≠[])
   (h1:ws=[]->Q (.ref t) s) (h2:ws≠[]->Q (.ref s.heap.objs.size) { s with heap:=s.heap.push { cls:=.type "tuple",data:=.seq (vs++ws).toArray } })
   (hsz:vs.length+ws.length<=sizeLine):wpAny (model prog w) A (binaryOp .Add (.ref t) (.ref b)) Q E s:=by
 obtain⟨⟨cls,dd,data,sl⟩,ho,hc,n,hd⟩:=id ht;obtain⟨⟨cls2,dd2,data2,sl2⟩,ho2,hc2,n2,hd2⟩:=id hb;simp only at hc hd hc2 hd2;subst hc hd hc2 hd2;have e:vs.toArray++ws.toArray=(vs++ws).toArray:=by simp
 by_cases hw:ws=[]
 . exact concat_meets ⟨_,ho,rfl⟩ ⟨_,ho2,rfl⟩ noFill_tuple_add seq_tuple_add Fh EM (EC _ _)
     (tuple_addW1 t b vs.toArray ws.toArray n n2 dd dd2 sl sl2 (by simpa using hv) (by simp[hw])) ⟨ho,ho2,h1 hw⟩
 . refine concat_meets ⟨_,ho,rfl⟩ ⟨_,ho2,rfl⟩ noFill_tuple_add seq_tuple_add Fh EM (EC _ _)
     (tuple_addW2 t b vs.toArray ws.toArray n n2 dd dd2 sl sl2 (by simpa using hv) (by simpa using hw) (by rw[Ao,Ao];exact hsz)) ⟨ho,ho2,?_⟩
   rw[e];exact h2 hw
noncomputable def sIx(n d:Nat):Option Int->Nat
 | none=>d
 | some v=>if v < 0 then (v+(n:Int)).toNat else min v.toNat n
theorem sIx_none(n d:Nat):sIx n d none=d:=rfl
theorem sIx_nat(n d k:Nat):sIx n d (some (k:Int))=min k n:=by
 show (if (k:Int) < 0 then ((k:Int)+(n:Int)).toNat else min (k:Int).toNat n)=min k n;rw[if_neg (by omega),A7]
theorem zpO(n d:Nat)(hd:d<=n)(o:Option Int):sIx n d o<=n:=by
 cases o with
 | none=>exact hd
 | some v =>
   show (if v < 0 then (v+(n:Int)).toNat else min v.toNat n)<=n
   by_cases hv:v < 0
   . rw[if_pos hv];omega
   . rw[if_neg hv];exact GF _ _
theorem zli(v:Int)(n d:Nat):(if v < 0 then max (v+(n:Int)) 0 else min v (n:Int))=((sIx n d (some v):Nat):Int):=by
 show (if v < 0 then max (v+(n:Int)) 0 else min v (n:Int))=(((if v < 0 then (v+(n:Int)).toNat else min v.toNat n):Nat):Int)
 by_cases hv:v < 0
 . simp only[if_pos hv];omega
 . simp only[if_neg hv];omega
theorem zjq(lo hi:Option Int)(n:Nat):BI lo hi 1 (n:Int)=(((sIx n 0 lo:Nat):Int),((sIx n n hi:Nat):Int)):=by
 have h1:¬ ((1:Int) < 0):=by omega
 unfold BI;simp only[h1,if_false];refine Prod.ext ?_ ?_
 . cases lo with
   | none=>rfl
   | some v=>exact zli v n 0
 . cases hi with
   | none=>rfl
   | some v=>exact zli v n n
theorem zio(i j:Nat):Bq (i:Int) (j:Int) 1=j - i:=by
 unfold Bq;have h1:(1:Int) > 0:=by omega
 simp only[h1,if_true,Int.ediv_one]
 split <;> omega
theorem slicePart_{v:Value}{o:Option Int}{Q:Option Int->Shared->Prop}(p:IsPart v o)(h:Q o s):wpAny (model prog w) A (Builtin.Slice.slicePartIndex v) Q E s:=by
 cases p with
 | none=>exact slicePart_none h
 | int i t=>exact slicePart_int h
theorem sliceApplied_gen{sl:Addr}{vl vu:Value}{lo hi:Option Int}{n:Nat}{Q:Int×Int×Nat->Shared->Prop}(hs:s.heap.IsSliceOf sl vl vu .none)(pl:IsPart vl lo)(pu:IsPart vu hi)
   (h:Q (((sIx n 0 lo:Nat):Int),1,sIx n n hi - sIx n 0 lo) s):wpAny (model prog w) A (Cj (.ref sl) (pure (n:Int))) Q E s:=by
 obtain⟨os,hos,hcs,hds⟩:=id hs;unfold Cj Ew;refine Aa (Aa (Bb hos hds (x:=vl) rfl (Aa (Bb hos hds (x:=vu) rfl (Aa (Bb hos hds (x:=.none) rfl (Ab ?_)))))));refine Aa (slicePart_none ?_);show wpAny _ _ (if ((1:Int)==0)=true then _ else _) _ _ s;rw[if_neg (by decide)];refine Aa (slicePart_ pl (Aa (slicePart_ pu (Aa (Ab ?_)))));show wpAny _ _ (match BI lo hi 1 (n:Int) with | (lo,hi)=>pure (lo,(1:Int),Bq lo hi 1)) _ _ s;rw[zjq lo hi n];show wpAny _ _ (pure (((sIx n 0 lo:Nat):Int),(1:Int),Bq ((sIx n 0 lo:Nat):Int) ((sIx n n hi:Nat):Int) 1)) _ _ s;rw[zio];exact Ab h
theorem zma(xs:Array Value)(i k:Nat):((AX k).filterMap fun (m:Nat)=>xs[((i:Int)+(m:Int)*1).toNat]?).toArray=((xs.toList.drop i).take k).toArray:=by
 have e:(fun (m:Nat)=>xs[((i:Int)+(m:Int)*1).toNat]?)=fun m=>xs[i+m]?:=by
   funext m
   have:((i:Int)+(m:Int)*1).toNat=i+m:=by omega
   rw[this]
 rw[e];have:=pick_run xs i k;rw[Gb] at this;have e2:((fun x=>xs[x]?) ∘ fun x=>i+x)=fun m=>xs[i+m]?:=rfl;rw[e2] at this;rw[this]
theorem getItem_tuple_cut{t sl:Addr}{items:Array Value}{vl vu:Value}{lo hi:Option Int}{Q:Value->Shared->Prop}(ht:IsTup s.heap t items)(hs:s.heap.IsSliceOf sl vl vu .none)(pl:IsPart vl lo)(pu:IsPart vu hi)
   (hw:¬ (sIx items.size 0 lo=0/\sIx items.size items.size hi=items.size))
   (h:Q (.ref s.heap.objs.size) { s with heap:=s.heap.push { cls:=.type "tuple",data:=.seq ((items.toList.drop (sIx items.size 0 lo)).take (sIx items.size items.size hi - sIx items.size 0 lo)).toArray } })
   (hsz:items.size<=sizeLine):wpAny (model prog w) A (getItem (.ref t) (.ref sl)) Q E s:=by
 have htake:sizeOk (.seq ((items.toList.drop (sIx items.size 0 lo)).take (sIx items.size items.size hi - sIx items.size 0 lo)).toArray):=by
   show ((items.toList.drop (sIx items.size 0 lo)).take (sIx items.size items.size hi - sIx items.size 0 lo)).toArray.size<=sizeLine;rw[Ao,Bm,B6,Au];omega
 have hj:sIx items.size items.size hi<=items.size:=zpO _ _ (Af _) hi;obtain⟨os,hos,hcs,hds⟩:=id hs;have hTs:s.TypeIs (.ref sl) "slice":=⟨os,hos,hcs⟩
 unfold getItem
 try with_reducible refine A0 ?_
 first | refine Aa (Ab ?_) | skip
 refine Aa (Eo ht.typeIs (by decide) ?_);refine Aa (AM (name:=A5 "__getitem__") ht.typeIs Bv
   (AC Bv ht.typeIs DX ?_ (D9 _ _)))
 show wpAny _ _ (CW (.ref t) >>= _) _ _ s;refine Aa (FS ht ?_);refine Aa (Ct hTs ?_);rw[if_pos (by decide)];refine Aa (sliceApplied_gen hs pl pu ?_);have hno:¬ ((((sIx items.size 0 lo:Nat):Int)==0&&(1:Int)==1&&(sIx items.size items.size hi - sIx items.size 0 lo)==items.size)=true):=by
   intro q;rw[An,An] at q;have q1:((sIx items.size 0 lo:Nat):Int)=0:=eq_of_beq q.1.1;have q2:sIx items.size items.size hi - sIx items.size 0 lo=items.size:=eq_of_beq q.2;exact hw ⟨by omega,by omega⟩
 show wpAny _ _ (if (((sIx items.size 0 lo:Nat):Int)==0&&(1:Int)==1&&(sIx items.size items.size hi - sIx items.size 0 lo)==items.size)=true then _ else _) _ _ s;rw[if_neg hno,zma]
 first
   | exact Aa (m:=Bu _) (Aw (Ab ⟨_,rfl,Ab h⟩) htake)
   | exact Aa (m:=Bu _) (Aw (Aa (Ab (Ab ⟨_,rfl,Ab h⟩))) htake)
   | exact Aa (Aa (m:=Bu _) (Aw (Ab (Ab ⟨_,rfl,Ab h⟩)) htake))
   | exact Aa (Aa (m:=Bu _) (Aw (Ab ⟨_,rfl,Ab h⟩) htake))
end
end HT
namespace L2
open PySem PySem.Spec PyProof.Rows
noncomputable abbrev TO:=St->Hp->(Option Int->Hp->Prop)->Prop
def PO(X:Cx)(e:Option Expr)(t:TO):Prop :=
 ∀ (pins:List (Addr×Obj)) (s:Shared) (σ:St) (H:Hp) (Q:Option Int->Hp->Prop),Inv X pins σ H s->t σ H Q ->
   wpAny (model X.prog X.w) X.A (evalPart e X.env) (fun u s'=>∃ o H',Inv X pins σ H' s'/\IsPart u o/\Q o H') X.xe s
noncomputable def zns:TO:=fun _ H Q=>Q none H
noncomputable def zrr(t:TE):TO:=fun σ H Q=>t σ H fun x H1=>∃ i,x=.int i/\Q (some i) H1
theorem intsAre_of{ns:List Int}:∀ {us:List Value},Vals (ns.map V.int) us->IntsAre us ns:=by
 induction ns with
 | nil=>intro us r;rw[Cs] at r;cases r;exact .nil
 | cons n ns ih =>
   intro us r;rw[Ar] at r
   cases r with
   | cons r1 r2 =>
     obtain⟨t,e⟩:=r1;subst e;exact .cons n t (ih r2)
section
variable {X:Cx} {e:Expr} {te:TE} {lo hi:Option Expr} {tl th:TO} {pos p2:Pos}
theorem zn8:PO X none zns:=by
 intro pins s σ H Q I h;rw[Dz];exact Ab ⟨none,H,I,.none,h⟩
theorem zgH(h:PE X e te):PO X (some e) (zrr te):=by
 intro pins s σ H Q I hw;rw[evalPart_some];refine thn (h pins s σ H _ I hw) ?_;rintro u s1 ⟨x,H1,I1,r1,q1⟩;obtain⟨i,rfl,q⟩:=q1;obtain⟨t,rfl⟩:=r1;exact⟨some i,H1,I1,.int i t,q⟩
def SlR(X:Cx)(r:V->Option Int->Option Int->Hp->VK->Prop):Prop :=
 ∀ (pins:List (Addr×Obj)) (s:Shared) (σ:St) (H:Hp) (x:V) (v vl vu:Value) (lo hi:Option Int) (sl:Addr) (Q:VK),Inv X pins σ H s->RelV x v->s.heap.IsSliceOf sl vl vu .none->IsPart vl lo->IsPart vu hi->r x lo hi H Q ->
   ∃ T id,typeLookup (.type T) "__getitem__"=pure (some (.builtin id))/\s.TypeIs v T/\wpAny (model X.prog X.w) X.A (getItem v (.ref sl)) (EP X pins σ Q) X.xe s
noncomputable def tSl(r:V->Option Int->Option Int->Hp->VK->Prop)(te:TE)(tl th:TO):TE:=fun σ H Q=>te σ H fun x H1=>tl σ H1 fun l H2=>th σ H2 fun u H3=>r x l u H3 Q
theorem zeP{r:V->Option Int->Option Int->Hp->VK->Prop}(hr:SlR X r)(he:PE X e te)(hl:PO X lo tl)(hu:PO X hi th):PE X (.Subscript e (.Slice lo hi none p2) pos) (tSl r te tl th):=by
 intro pins s σ H Q I h;refine DL (thn (he pins s σ H _ I h) ?_);rintro v s1 ⟨x,H1,I1,r1,q1⟩;refine Fi (thn (hl pins s1 σ H1 _ I1 q1) fun vl s2 ⟨l,H2,I2,pl,q2⟩=>thn (hu pins s2 σ H2 _ I2 q2) ?_);rintro vu s3 ⟨u,H3,I3,pu,q3⟩;rw[Dz];refine Ab ?_;have I4:Inv X pins σ H3 { s3 with heap:=s3.heap.push { cls:=.type "slice",data:=.fields #[vl,vu,.none] } }:=I3.kept (t':=s3.toks) fun b ob q=>Ad _ q;obtain⟨T,id,hT,ht,hg⟩:=hr pins { s3 with heap:=s3.heap.push { cls:=.type "slice",data:=.fields #[vl,vu,.none] } } σ H3 x v vl vu l u s3.heap.objs.size Q I4 r1 (C7 ..) pl pu q3;show wpAny (model X.prog X.w) X.A (subscriptTail e (.Slice lo hi none p2) v (.ref s3.heap.objs.size)) (EP X pins σ Q) X.xe { s3 with heap:=s3.heap.push { cls:=.type "slice",data:=.fields #[vl,vu,.none] } };exact FL (ops:=[.ref s3.heap.objs.size,v]) ht hT hg (by with_unfolding_all rfl)
noncomputable def cutV(xs:List V)(lo hi:Option Int):List V:=(xs.drop (HT.sIx xs.length 0 lo)).take (HT.sIx xs.length xs.length hi - HT.sIx xs.length 0 lo)
theorem zep(xs:List V)(lo hi:Option Int):(cutV xs lo hi).length<=xs.length:=by
 unfold cutV;rw[Bm,B6];omega
noncomputable def rSlT(K:Ae):V->Option Int->Option Int->Hp->VK->Prop:=fun x lo hi H Q=>∃ a xs,x=.ref a/\SqT K H a xs /\
 ¬ (HT.sIx xs.length 0 lo=0/\HT.sIx xs.length xs.length hi=xs.length)/\∀ p,H p=none->Q (.ref p) (upd H p (.tup (cutV xs lo hi)))
theorem zpC:SlR X (rSlT X.K):=by
 intro pins s σ H x v vl vu lo hi sl Q I rx hs pl pu h;obtain⟨a,xs,rfl,hx,hw,q⟩:=h;cases rx;obtain⟨its,r,ht,hz⟩:=I.tuple hx;have hlen:its.toArray.size=xs.length:=by rw[Ao];exact r.length.symm
 refine⟨"tuple",_,PyProof.Rows.slot_tuple_getitem.lookup,ht.typeIs,?_⟩;refine HT.getItem_tuple_cut ht hs pl pu (by rw[hlen];exact hw) ?_ (by rw[hlen];exact hz);rw[hlen];refine⟨.ref s.heap.objs.size,_,I.laid (t':=s.toks) (o:=.tup (cutV xs lo hi)) (fun b ob q=>Ad _ q) (Af _) ?_,rfl,q _ (I.hok.fresh (Af _))⟩;exact⟨AR (zep xs lo hi) hz,_,(r.drop (HT.sIx xs.length 0 lo)).take (HT.sIx xs.length xs.length hi - HT.sIx xs.length 0 lo),zfc.new _ _⟩
noncomputable def rLtT(K:Ae):R2:=fun x y H Q=>∃ a b ns ms,x=.ref a/\y=.ref b/\SqT K H a (ns.map V.int)/\SqT K H b (ms.map V.int)/\Q (.bl (HT.lexLt ns ms)) H
theorem zqo(hu:X.A.units < cLine):OpR X (compareOp .Lt) (rLtT X.K):=by
 intro pins s σ H x y v u Q I rx ry h;obtain⟨a,b,ns,ms,rfl,rfl,ha,hb,q⟩:=h;cases rx;cases ry;obtain⟨its,r1,p1,_⟩:=I.tuple ha;obtain⟨its2,r2,p2,_⟩:=I.tuple hb;have i1:IntsAre its.toArray.toList ns:=intsAre_of r1;have i2:IntsAre its2.toArray.toList ms:=intsAre_of r2;exact HT.lt_tupInts p1 p2 i1 i2 hu ⟨.bl (HT.lexLt ns ms),H,I,rfl,q⟩
noncomputable def zrG(K:Ae):R2:=fun x y H Q=>∃ a b xs ys,x=.ref a/\y=.ref b/\SqT K H a xs/\SqT K H b ys/\xs≠[]/\xs.length+ys.length<=sizeLine /\
 (ys=[]->Q (.ref a) H)/\(ys≠[]->∀ p,H p=none->Q (.ref p) (upd H p (.tup (xs++ys))))
theorem Vals.nil_iff{xs:List V}{us:List Value}(r:Vals xs us):us=[] ↔ xs=[]:=by
 cases r with
 | nil=>simp
 | cons _ _=>simp
theorem zos:OpR X (binaryOp .Add) (zrG X.K):=by
 intro pins s σ H x y v u Q I rx ry h;obtain⟨a,b,xs,ys,rfl,rfl,ha,hb,hx,hz,q1,q2⟩:=h;cases rx;cases ry;obtain⟨its,r1,p1,_⟩:=I.tuple ha;obtain⟨its2,r2,p2,_⟩:=I.tuple hb;refine HT.cat_tup p1 p2 (fun z=>hx (r1.nil_iff.mp z)) (fun z=>⟨.ref a,H,I,rfl,q1 (r2.nil_iff.mp z)⟩) (fun z=>?_) (by rw[<-r1.length,<-r2.length];exact hz);refine⟨.ref s.heap.objs.size,_,I.laid (t':=s.toks) (o:=.tup (xs++ys)) (fun b ob q=>Ad _ q) (Af _) ?_,rfl,q2 (fun w=>z (r2.nil_iff.mpr w)) _ (I.hok.fresh (Af _))⟩;exact⟨by rw[AE];exact hz,_,r1.append r2,zfc.new _ _⟩
end
noncomputable def ixN(n:Nat)(i:Int):Option Nat:=if 0<=i then (if i < n then some i.toNat else none) else if -(n:Int)<=i then some (i+n).toNat else none
noncomputable def atI{α:Type}(xs:List α)(i:Int):Option α:=(ixN xs.length i).bind fun j=>xs[j]?
theorem zk8{n:Nat}{i:Int}{j:Nat}(h:ixN n i=some j):seqIndex? i n=some j/\j < n/\-(n:Int)<=i/\i < n:=by
 unfold ixN at h
 by_cases h0:0<=i
 . rw[if_pos h0] at h
   by_cases h1:i < n
   . rw[if_pos h1] at h;have e:i.toNat=j:=Ay h;exact⟨by rw[GC h0 h1,e],by omega,by omega,h1⟩
   . rw[if_neg h1] at h;cases h
 . rw[if_neg h0] at h
   by_cases h1:-(n:Int)<=i
   . rw[if_pos h1] at h;have e:(i+n).toNat=j:=Ay h;exact⟨by rw[Gc (by omega) h1,e],by omega,h1,by omega⟩
   . rw[if_neg h1] at h;cases h
theorem zjp{α:Type}{xs:List α}{i:Int}{v:α}(h:atI xs i=some v):∃ j,seqIndex? i xs.length=some j/\xs[j]?=some v/\j < xs.length/\-(xs.length:Int)<=i/\i < xs.length:=by
 unfold atI at h
 cases e:ixN xs.length i with
 | none=>rw[e] at h;cases h
 | some j =>
   rw[e] at h;obtain⟨h1,h2,h3,h4⟩:=zk8 e;exact⟨j,h1,h,h2,h3,h4⟩
def zjr(b:Expr):Prop:=∀ o i,subscripted b false o i=operate [o,i] (getItem o i)
def IxR(X:Cx)(r:R2):Prop :=
 ∀ (value slice:Expr) (pins:List (Addr×Obj)) (s:Shared) (σ:St) (H:Hp) (x y:V) (v u:Value) (Q:VK),Inv X pins σ H s->RelV x v->RelV y u->r x y H Q ->
   subscripted slice false v u=operate [v,u] (getItem v u)->wpAny (model X.prog X.w) X.A (subscriptTail value slice v u) (EP X pins σ Q) X.xe s
def MtR(X:Cx)(id:String)(r:V->List V->Hp->VK->Prop):Prop :=
 ∀ (pins:List (Addr×Obj)) (s:Shared) (σ:St) (H:Hp) (x:V) (xs:List V) (v:Value) (us:List Value) (Q:VK),Inv X pins σ H s->RelV x v->Vals xs us->r x xs H Q ->
   wpAny (model X.prog X.w) X.A (call (.builtin id) (v::us)) (EP X pins σ Q) X.xe s
section
variable {X:Cx} {a b:Expr} {ta tb:TE} {pos:Pos}
theorem zrL{r:R2}(hr:IxR X r)(ha:PE X a ta)(hb:PE X b tb)(hs:zjr b):PE X (.Subscript a b pos) (tOp r ta tb):=by
 intro pins s σ H Q I h;exact DL (binT ha hb I h fun v u s2 x y H2 I2 rx ry q=>hr a b pins s2 σ H2 x y v u Q I2 rx ry q (hs _ _))
noncomputable def rIxL(K:Ae):R2:=fun x y H Q=>∃ p xs i v,x=.ref p/\y=.int i/\SqL K H p xs/\atI xs i=some v/\Q v H
noncomputable def rIxT(K:Ae):R2:=fun x y H Q=>∃ p xs i v,x=.ref p/\y=.int i/\SqT K H p xs/\atI xs i=some v/\Q v H
noncomputable def rIxS:R2:=fun x y H Q=>∃ z i c,x=.str z/\y=.int i/\z.length<=sizeLine/\atI z.cps.toList i=some c/\Q (.str ⟨#[c]⟩) H
theorem zk7:IxR X (rIxL X.K):=by
 intro value slice pins s σ H x y v u Q I rx ry h hs;obtain⟨p,xs,i,z,rfl,rfl,hq,he,q⟩:=h;cases rx;obtain⟨t,rfl⟩:=ry;obtain⟨its,r,pl,hz⟩:=I.list hq;obtain⟨j,h1,h2,h3,h4,h5⟩:=zjp he;obtain⟨w,ew,rw'⟩:=r.get h2;have hl:=r.length;have hn:=zgk;have fin:EP X pins σ Q w s:=⟨z,H,I,rw',q⟩
 by_cases h0:0<=i
 . have hj:i.toNat=j:=by
     rw[GC h0 h5] at h1;exact Ay h1
   exact item_listR pl.isList h0 (by omega) (by rw[hj];simpa using ew) fin hs
 . have hj:(i+(its.toArray.size:Int)).toNat=j:=by
     rw[Gc (by omega) h4] at h1;rw[Ao,<-hl];exact Ay h1
   exact Fj (x:=w) pl.isList.typeIs slot_list_getitem.lookup
     (wpAny_getItem_list_neg (Q:=fun r s'=>r=w/\EP X pins σ Q r s') pl.isList (by omega) (by rw[Ao] <;> omega) (by omega) (by rw[hj];simpa using ew) ⟨rfl,fin⟩) hs
theorem zb8:IxR X (rIxT X.K):=by
 intro value slice pins s σ H x y v u Q I rx ry h hs;obtain⟨p,xs,i,z,rfl,rfl,hq,he,q⟩:=h;cases rx;obtain⟨t,rfl⟩:=ry;obtain⟨its,r,pl,hz⟩:=I.tuple hq;obtain⟨j,h1,h2,h3,h4,h5⟩:=zjp he;obtain⟨w,ew,rw'⟩:=r.get h2;have hl:=r.length;have hn:=zgk;have fin:EP X pins σ Q w s:=⟨z,H,I,rw',q⟩
 exact Fj (x:=w) pl.typeIs slot_tuple_getitem.lookup
   (getItem_tuple (j:=j) (Q:=fun r s'=>r=w/\EP X pins σ Q r s') pl (by omega) (by omega) (by rw[Ao,<-hl];exact h1) (by simpa using ew) ⟨rfl,fin⟩) hs
theorem zkl:IxR X rIxS:=by
 intro value slice pins s σ H x y v u Q I rx ry h hs;obtain⟨z,i,c,rfl,rfl,hz,he,q⟩:=h;obtain⟨t,rfl⟩:=rx;obtain⟨t',rfl⟩:=ry;obtain⟨j,h1,h2,h3,h4,h5⟩:=zjp he;have hl:z.cps.toList.length=z.length:=by simp[Str.length]
 rw[hl] at h1 h4 h5;have hn:=zgk;exact FL (Ex s z t) slot_str_getitem.lookup (getItem_str (c:=c) (by
   have e1:decide (i < -(2 ^ 63:Int))=false:=decide_eq_false (by omega);have e2:decide (i ≥ 2 ^ 63)=false:=decide_eq_false (by omega);rw[e1,e2,FT]) (by rw[h1];simpa using h2) ⟨.str ⟨#[c]⟩,H,I.tok _,⟨_,rfl⟩,q⟩) hs
theorem ziH(its:List Value)(n j:Nat)(u:Value):Bf (·.setIfInBounds j u) { cls:=.type "list",data:=.seq its.toArray n }={ cls:=.type "list",data:=.seq (its.set j u).toArray n }:=by
 simp[Bf]
theorem Inv.lst{pins:List (Addr×Obj)}{σ:St}{H:Hp}{s:Shared}{p:Addr}{xs:List V}(I:Inv X pins σ H s)(h:H p=some (.lst xs)) :
   ∃ (its:List Value) (n:Nat),Vals xs its/\s.heap.get? p=some { cls:=.type "list",data:=.seq its.toArray n }/\xs.length<=sizeLine:=by
 obtain⟨z,its,n,r,e⟩:=I.hok p _ h;exact⟨its,n,r,e,z⟩
theorem Inv.lstUpd{pins:List (Addr×Obj)}{σ:St}{H:Hp}{s:Shared}{p:Addr}{xs ys:List V}{its its':List Value}{n n':Nat}{f:Obj->Obj}(I:Inv X pins σ H s)(h:H p=some (.lst xs))
   (ho:s.heap.get? p=some { cls:=.type "list",data:=.seq its.toArray n }) (hf:f { cls:=.type "list",data:=.seq its.toArray n }={ cls:=.type "list",data:=.seq its'.toArray n' }) (r:Vals ys its') (hz:ys.length<=sizeLine) (t:Nat) :
   Inv X pins σ (upd H p (.lst ys)) { s with heap:=s.heap.update p f,toks:=t }:=by
 have e:(s.heap.update p f).get? p=some { cls:=.type "list",data:=.seq its'.toArray n' }:=by
   rw[AS f ho (by rw[hf] <;> rfl),hf]
 refine I.write (x:=p) (e:=p) (by rw[h];trivial) (.inl rfl) (fun b u hb q=>(BQ _ _ (BL hb)).trans q) ⟨_,e⟩ ?_;exact⟨hz,its',n',r,e⟩
noncomputable def zrF:V->V->V->Hp->(Hp->Prop)->Prop:=fun o i v H Q=>∃ p xs k j,o=.ref p/\i=.int k/\H p=some (.lst xs)/\ixN xs.length k=some j/\Q (upd H p (.lst (xs.set j v)))
theorem set_list:PSet X zrF:=by
 intro pins s σ H o i v ov iv u Q I ro ri rv h;obtain⟨p,xs,k,j,rfl,rfl,hp,hj,q⟩:=h;cases ro;obtain⟨t,rfl⟩:=ri;obtain⟨its,n,r,ho,hz⟩:=I.lst hp;obtain⟨h1,h2,h3,h4⟩:=zk8 hj;have hl:=r.length;have hn:=zgk;have I':Inv X pins σ (upd H p (.lst (xs.set j v))) { s with heap:=s.heap.update p (Bf (·.setIfInBounds j u)) } :=
   I.lstUpd hp ho (ziH its n j u) (r.set rv j) (by rw[EX];exact hz) s.toks
 by_cases h0:0<=k
 . have hk:k.toNat=j:=by
     rw[GC h0 h4] at h1;exact Ay h1
   exact PySem.W.ki_setAt ho h0 (by omega) (by rw[Ao,<-hl];exact h4) (by rw[hk];exact⟨_,I',q⟩)
 . have hk:(k+(its.toArray.size:Int)).toNat=j:=by
     rw[Gc (by omega) h3] at h1;rw[Ao,<-hl];exact Ay h1
   exact PySem.W.ki_setBack ho (by omega) (by rw[Ao,<-hl];exact h3) (by omega) (by rw[hk];exact⟨_,I',q⟩)
theorem zf0(lo hi:Option Int)(n:Nat):(sliceBounds lo hi none n).1=((HT.sIx n 0 lo:Nat):Int)/\(sliceBounds lo hi none n).2.1=((HT.sIx n n hi:Nat):Int)/\(sliceBounds lo hi none n).2.2=1:=by
 refine⟨?_,?_,rfl⟩
 . cases lo with
   | none=>simp[sliceBounds,HT.sIx]
   | some i =>
     simp only[sliceBounds,HT.sIx,GG,show (1:Int) > 0 by decide,if_true]
     by_cases h:i < 0
     . simp only[h,if_true] <;> omega
     . simp only[h,if_false] <;> omega
 . cases hi with
   | none=>simp[sliceBounds,HT.sIx]
   | some i =>
     simp only[sliceBounds,HT.sIx,GG,show (1:Int) > 0 by decide,if_true]
     by_cases h:i < 0
     . simp only[h,if_true] <;> omega
     . simp only[h,if_false] <;> omega
theorem zfi(its:List Value)(lo hi:Option Int):slicePick its.toArray lo hi none=((its.drop (HT.sIx its.length 0 lo)).take (HT.sIx its.length its.length hi - HT.sIx its.length 0 lo)).toArray:=by
 obtain⟨h1,h2,h3⟩:=zf0 lo hi its.toArray.size;unfold slicePick;rw[h1,h2,h3];simp only[sliceRange_one,pick_run,Ao] <;> rfl
noncomputable def rSlL(K:Ae):V->Option Int->Option Int->Hp->VK->Prop:=fun x lo hi H Q=>∃ a xs,x=.ref a/\SqL K H a xs/\∀ p,H p=none->Q (.ref p) (upd H p (.lst (cutV xs lo hi)))
theorem zkS:SlR X (rSlL X.K):=by
 intro pins s σ H x v vl vu lo hi sl Q I rx hs pl pu h;obtain⟨a,xs,rfl,hx,q⟩:=h;cases rx;obtain⟨its,r,ht,hz⟩:=I.list hx;have hlen:=r.length;refine⟨"list",_,slot_list_getitem.lookup,ht.isList.typeIs,?_⟩;refine ED ht.isList hs pl pu .none (by simp) ?_ (by rw[Ao] <;> omega);rw[zfi,<-hlen];refine⟨.ref s.heap.objs.size,_,I.laid (t':=s.toks) (o:=.lst (cutV xs lo hi)) (fun b ob q=>Ad _ q) (Af _) ?_,rfl,q _ (I.hok.fresh (Af _))⟩;exact⟨AR (zep xs lo hi) hz,_,0,(r.drop (HT.sIx xs.length 0 lo)).take (HT.sIx xs.length xs.length hi - HT.sIx xs.length 0 lo),Al _ rfl⟩
theorem zc4:zfK X (.builtin "len") (fun xs H Q=>∃ p ys,xs=[.ref p]/\(SqL X.K H p ys\/SqT X.K H p ys)/\Q (.int ys.length) H):=by
 intro pins s σ H xs us Q I r h;obtain⟨p,ys,rfl,hq,q⟩:=h;obtain⟨u,rfl,rx⟩:=vals1 r;cases rx;have hn:=zgk
 rcases hq with hq | hq
 . obtain⟨its,r',pl,hz⟩:=I.list hq;have hlen:=r'.length;exact Calls.call_len_list pl.isList (by simp only[Ao] <;> omega) ⟨.int ys.length,H,I.tok _,⟨s.toks+1,by rw[Ao,hlen]⟩,q⟩
 . obtain⟨its,r',pl,hz⟩:=I.tuple hq;have hlen:=r'.length;exact len_tuple pl (by simp only[Ao] <;> omega) ⟨.int ys.length,H,I.tok _,⟨s.toks+1,by rw[Ao,hlen]⟩,q⟩
theorem zgs:zfK X (.builtin "len") (fun xs H Q=>∃ z,xs=[.str z]/\z.length<=sizeLine/\Q (.int z.length) H):=by
 intro pins s σ H xs us Q I r h;obtain⟨z,rfl,hz,q⟩:=h;obtain⟨u,rfl,t,rfl⟩:=vals1 r;have hn:=zgk;exact len_str (by omega) ⟨.int z.length,H,I.tok _,⟨_,rfl⟩,q⟩
theorem zc3:zfK X (.type "list") (fun xs H Q=>∃ p ys,xs=[.ref p]/\(SqL X.K H p ys\/SqT X.K H p ys)/\∀ l,H l=none->Q (.ref l) (upd H l (.lst ys))):=by
 intro pins s σ H xs us Q I r h;obtain⟨p,ys,rfl,hq,q⟩:=h;obtain⟨u,rfl,rx⟩:=vals1 r;cases rx;have fin:∀ (its:List Value),Vals ys its->ys.length<=sizeLine->∀ (h':Heap) (c':Nat),(∀ b o',s.heap.get? b=some o'->h'.get? b=some o') ->
     h'.get? s.heap.objs.size=some { cls:=.type "list",dict:=none,data:=.seq its.toArray c',slots:=#[] }->EP X pins σ Q (.ref s.heap.objs.size) { s with heap:=h' }:=fun its r' hz h' c' kp e =>
   ⟨.ref s.heap.objs.size,_,I.laid (t':=s.toks) kp (Af _) (show zdi X.prog X.w _ h' _ (.lst ys) from ⟨hz,its,c',r',e⟩),rfl,q _ (I.hok.fresh (Af _))⟩
 rcases hq with hq | hq
 . obtain⟨its,r',pl,hz⟩:=I.list hq;have hlen:=r'.length;obtain⟨o,ho,hc,n,hd⟩:=pl.isList;exact call_list_seq p (.inl rfl) ho hc hd (fun h' c' kp e=>fin its r' hz h' c' kp e) (by simp only[Ao] <;> omega)
 . obtain⟨its,r',pl,hz⟩:=I.tuple hq;have hlen:=r'.length;obtain⟨o,ho,hc,n,hd⟩:=pl;exact call_list_seq p (.inr rfl) ho hc hd (fun h' c' kp e=>fin its r' hz h' c' kp e) (by simp only[Ao] <;> omega)
theorem zdw:zfK X (.type "tuple") (fun xs H Q=>∃ p ys,xs=[.ref p]/\((SqL X.K H p ys/\∀ l,H l=none->Q (.ref l) (upd H l (.tup ys)))\/(SqT X.K H p ys/\Q (.ref p) H))):=by
 intro pins s σ H xs us Q I r h;obtain⟨p,ys,rfl,h⟩:=h;obtain⟨u,rfl,rx⟩:=vals1 r;cases rx
 rcases h with ⟨hq,q⟩ | ⟨hq,q⟩
 . obtain⟨its,r',pl,hz⟩:=I.list hq;have hlen:=r'.length;refine call_tuple_list pl.isList (fun h' kp=>?_) (by simp only[Ao] <;> omega);have I1:Inv X pins σ H { s with heap:=h' }:=I.kept (t':=s.toks) kp;have I2:Inv X pins σ (upd H h'.objs.size (.tup ys)) { s with heap:=h'.push { cls:=.type "tuple",data:=.seq its.toArray } } :=
     I1.laid (t':=s.toks) (fun b o e=>Ad _ e) (Af _) (show zdi X.prog X.w _ _ _ (.tup ys) from ⟨hz,its,r',zfc.new _ _⟩)
   exact⟨.ref h'.objs.size,_,I2,rfl,q _ (I1.hok.fresh (Af _))⟩
 . obtain⟨its,r',pl,hz⟩:=I.tuple hq;exact call_tuple_same pl ⟨.ref p,H,I,rfl,q⟩
def tyV(K:Ae)(T:String)(x:V)(H:Hp):Prop:=match x with
 | .str _=>T="str"
 | .int _=>T="int"
 | .ref p=>(T="list"/\∃ xs,SqL K H p xs)\/(T="tuple"/\∃ o,K.lookup p=some o/\o.cls=.type "tuple"/\o.dict=none) \/
     (T="dict"/\((∃ kvs,H p=some (.dK kvs))\/∃ kvs,H p=some (.dT kvs)))\/(T="set"/\∃ S n,H p=some (.set S n))
 | _=>False
theorem zpt{pins:List (Addr×Obj)}{σ:St}{H:Hp}{s:Shared}{T:String}{x:V}{v:Value}(I:Inv X pins σ H s)(r:RelV x v)(ty:tyV X.K T x H) :
   s.TypeIs v T/\∀ a,v=.ref a->∃ ob,s.heap.get? a=some ob/\ob.dict=none:=by
 cases x with
 | str z =>
   obtain⟨t,rfl⟩:=r
   cases (show T="str" from ty)
   exact⟨Ex s z t,fun _ e=>nomatch e⟩
 | int i =>
   obtain⟨t,rfl⟩:=r
   cases (show T="int" from ty)
   exact⟨typeIs_int s i t,fun _ e=>nomatch e⟩
 | ref p =>
   cases r
   rcases ty with ⟨rfl,xs,hq⟩ | ⟨rfl,o,hk,hc,hd⟩ | ⟨rfl,hk⟩ | ⟨rfl,S,n,hk⟩
   . obtain⟨its,_,pl,_⟩:=I.list hq;refine⟨pl.isList.typeIs,fun a e=>?_⟩;cases e;obtain⟨o,n,e,c,hd,_⟩:=pl;exact⟨o,e,hd⟩
   . refine⟨⟨o,I.kIn p o hk,hc⟩,fun a e=>?_⟩;cases e;exact⟨o,I.kIn _ o hk,hd⟩
   . have z:∃ o,s.heap.get? p=some o/\o.ExactDict:=by
       rcases hk with ⟨kvs,hk⟩ | ⟨kvs,hk⟩
       . obtain⟨_,_,_,_,o,_,_,e,ex,_⟩:=I.hok p _ hk;exact⟨o,e,ex⟩
       . obtain⟨_,_,_,_,o,_,_,e,ex,_⟩:=I.hok p _ hk;exact⟨o,e,ex⟩
     obtain⟨o,e,ex⟩:=z;refine⟨⟨o,e,ex.1⟩,fun a e2=>?_⟩;cases e2;exact⟨o,e,ex.2.1⟩
   . obtain⟨o,_,_,_,e,ex,_⟩:=I.hok p _ hk;refine⟨⟨o,e,ex.1⟩,fun a e2=>?_⟩;cases e2;exact⟨o,e,ex.2.1⟩
 | _=>exact False.elim ty
noncomputable def tBM(K:Ae)(T:String)(r:V->List V->Hp->VK->Prop)(to:TE)(t:TA):TE:=fun σ H Q=>to σ H fun x H1=>tyV K T x H1/\t σ H1 fun xs H2=>r x xs H2 Q
variable {o e:Expr} {es:List Expr} {to:TE} {t:TA} {name:Str} {apos cpos:Pos} {T id:String} {r:V->List V->Hp->VK->Prop}
theorem zq7(pa:PlainAttrs T)(slot:Slot T name id)(hty:typeOf (.builtin id)=pure (.type "method_descriptor"))(hm:MtR X id r)(ho:PE X o to)(ha:PA X (e::es) t)
   (hbase:attributeBase o name X.env (eval o X.env)=eval o X.env:=by rfl)
   (hfew:((backTo cpos (starEach (e::es) X.env)).all (fun x=>!x.1)&&(backToKw cpos (keywordEach [] X.env)).all (fun x=>x.1.isSome)
    &&decide ((e::es).length+([]:List Keyword).length+(if ([]:List Keyword).isEmpty then 0 else 1) < 30))=true:=by rfl)
   (hline:(apos.endLine==cpos.line)=true:=by rfl) (hs:starEach (e::es) X.env=(false,eval e X.env)::starEach es X.env:=by rfl) (hplain:(backTo cpos (starEach es X.env)).any (·.1)=false:=by rfl) :
   PE X (.Call (.Attribute o name apos) (e::es) [] cpos) (tBM X.K T r to t):=by
 intro pins s σ H Q I h;refine wpAny_Call_method_late hbase hfew hline rfl (thn (ho pins s σ H _ I h) ?_);rintro v s1 ⟨x,H1,I1,r1,ty,q1⟩;obtain⟨h1,h2⟩:=zpt I1 r1 ty;refine⟨T,id,pa,slot,hty,h1,h2,?_⟩;have hA:=ha cpos pins s1 σ H1 _ I1 q1;rw[hs] at hA ⊢;refine Dt (by show (false || (backTo cpos (starEach es X.env)).any (·.1))=false;rw[hplain] <;> rfl) (Calls.evalArgs_plain ?_);exact thn hA fun us s2 ⟨vs,H2,I2,r2,q2⟩=>hm pins s2 σ H2 x vs v us Q I2 r1 r2 q2
end
def MtM(X:Cx)(id:String)(r:V->List V->Hp->VK->Prop):Prop :=
 ∀ (pins:List (Addr×Obj)) (s:Shared) (σ:St) (H:Hp) (x:V) (xs:List V) (v:Value) (us:List Value) (Q:VK),Inv X pins σ H s->RelV x v->Vals xs us->r x xs H Q ->
   wpAny (model X.prog X.w) X.A (call (.builtin id) (v::us)) (EP X pins σ Q) X.xe s
theorem Vals.one:∀ {x:V} {us:List Value},Vals [x] us->∃ u,us=[u]/\RelV x u
 | _,_,.cons r .nil=>⟨_,rfl,r⟩
theorem Vals.two{x y:V}{us:List Value}(h:Vals [x,y] us):∃ u v,us=[u,v]/\RelV x u/\RelV y v:=by
 cases h with
 | cons r t =>
   cases t with
   | cons q t =>
     cases t;exact⟨_,_,rfl,r,q⟩
section
variable {X:Cx} {pins:List (Addr×Obj)} {σ:St} {H:Hp} {s:Shared} {l b:Addr} {xs ys zs:List V}
theorem Inv.lset{its its':List Value}{n:Nat}{f:Array Value->Array Value}{t':Nat}(I:Inv X pins σ H s)(hH:H l=some (.lst xs))
   (e:s.heap.get? l=some { cls:=.type "list",data:=.seq its.toArray n }) (hf:f its.toArray=its'.toArray) (hv:Vals ys its') (hz:ys.length<=sizeLine) :
   Inv X pins σ (upd H l (.lst ys)) { s with heap:=s.heap.update l (Bf f),toks:=t' }:=by
 have q:=PySem.IsL.update e f;rw[hf] at q;refine I.write (x:=l) (e:=l) (by rw[hH];exact trivial) (.inl rfl) (fun b' u hb hu=>(BQ s.heap (Bf f) (BL hb)).trans hu) ⟨_,q⟩ ?_;exact⟨hz,its',_,hv,q⟩
theorem Inv.lnew{its:List Value}{t':Nat}(I:Inv X pins σ H s)(hv:Vals ys its)(hz:ys.length<=sizeLine) :
   Inv X pins σ (upd H s.heap.objs.size (.lst ys)) { s with heap:=s.heap.push { cls:=.type "list",data:=.seq its.toArray },toks:=t' } :=
 I.laid (fun _ _ q=>Ad _ q) (Af _) ⟨hz,its,0,hv,Al _ rfl⟩
theorem Inv.fresh(I:Inv X pins σ H s):H s.heap.objs.size=none:=I.hok.fresh (Af _)
theorem Inv.lstM(I:Inv X pins σ H s)(hH:H l=some (.lst xs)):xs.length<=sizeLine/\∃ (its:List Value) (n:Nat),Vals xs its/\xs.length=its.length/\s.heap.get? l=some { cls:=.type "list",data:=.seq its.toArray n }:=by
 obtain⟨z,its,n,r,e⟩:=I.hok l _ hH;exact⟨z,its,n,r,r.length,e⟩
end
section
variable {X:Cx}
noncomputable def znZ:V->List V->Hp->VK->Prop:=fun x vs H Q=>∃ l xs y,x=.ref l/\vs=[y]/\H l=some (.lst xs)/\xs.length < sizeLine/\Q .non (upd H l (.lst (xs++[y])))
theorem zgO:MtM X "list.append" znZ:=by
 intro pins s σ H x vs v us Q I rx rv h;obtain⟨l,xs,y,rfl,rfl,hH,hz,q⟩:=h;cases rx;obtain⟨u,rfl,ru⟩:=rv.one;obtain⟨z,its,n,r,hl,e⟩:=I.lstM hH;refine call_meets F.slot_list_append ⟨_,e,rfl⟩ F.entry_list_append (F.args_list_append_2 _ _) (PySem.list_append l its.toArray n u (by rw[Ao];omega)) ⟨e,?_⟩;refine⟨.non,_,I.lset (its':=its++[u]) hH e (by simp) (r.append (.cons ru .nil)) ?_,rfl,q⟩;rw[AE,CO];omega
noncomputable def rCat:R2:=fun x y H Q=>∃ l b xs zs,x=.ref l/\y=.ref b/\H l=some (.lst xs)/\H b=some (.lst zs)/\xs.length+zs.length<=sizeLine/\∀ p,H p=none->Q (.ref p) (upd H p (.lst (xs++zs)))
theorem zqt:OpR X (binaryOp .Add) rCat:=by
 intro pins s σ H x y v u Q I rx ry h;obtain⟨l,b,xs,zs,rfl,rfl,hH,hB,hz,q⟩:=h;cases rx;cases ry;obtain⟨z,its,n,r,hl,e⟩:=I.lstM hH;obtain⟨z2,its2,n2,r2,hl2,e2⟩:=I.lstM hB;refine PySem.P.add_list e e2 ?_ (by rw[Ao,Ao];omega);have ea:its.toArray++its2.toArray=(its++its2).toArray:=by simp
 rw[ea];exact⟨.ref _,_,I.lnew (t':=s.toks) (r.append r2) (by rw[AE];omega),rfl,q _ I.fresh⟩
end
section
variable {prog:Program} {w:World} {A:Around} {E:Value->Shared->Prop} {s:Shared}
set_option maxRecDepth 100000 in
end
end L2
namespace Att
open PySem PySem.W PySem.Calls PyProof.Rows
theorem zed{P:Params}{h:Heap}:∀ (ns:List Int) (vs:List Value),WellAll P h vs (ns.map WData.int)->IntsAre vs ns:=by
 intro ns
 induction ns with
 | nil =>
   intro vs w;rw[Cs] at w;cases w;exact .nil
 | cons n ns ih =>
   intro vs w;rw[Ar] at w
   cases w with
   | cons a b =>
     cases a;exact .cons _ _ (ih _ b)
theorem zjU{l:OpenLaw}{n:Nat}(hn:l.most=some n){P:Params}{h:Heap}{args:List WData}{vals:List Value}
   (hpre:l.row.toRowW.claim.pre args=true) (hwl:WellAll P h vals args) :
   ∃ a vs ns,vals=[AJ a]/\args=[WData.list (ns.map WData.int)]/\h.get? a=some { cls:=.type "list",data:=.seq vs.toArray }/\IntsAre vs ns/\ns.length<=n:=by
 have hsh:WShape.hasAll [] args [.list .int]=true:=(pre_splitW hpre).1;have hc:l.pre.holds [] { args:=args }=true:=(pre_splitW hpre).2;obtain⟨d,r,rfl,h1,h2⟩:=hasAllW_cons hsh;obtain rfl:=hasAllW_nil h2;obtain⟨xs,rfl,h3⟩:=hasW_list h1;obtain⟨ns,rfl⟩:=items_int h3;have hlen:ns.length<=n:=by
   unfold OpenLaw.pre at hc;have h4:(WTm.not (.lt (.lit (.int (n:Int))) (.len (.arg 0)))).holds [] { args:=[.list (ns.map .int)] }=true:=by
     have h4:=(holds_andW hc).1;rw[hn] at h4;exact h4
   have h5:=condW_of h4 (w_not (w_lt w_lit (w_len_list (w_arg rfl))));rw[Ag] at h5;refine Nat.le_of_not_lt fun q=>?_;have q':(n:Int) < ((ns.length:Nat):Int):=by omega
   first
     | (rw[decide_eq_true q'] at h5;exact absurd h5 (by decide))
     | (simp at h5;omega)
 cases hwl with
 | cons w1 w2 =>
   cases w2
   cases w1 with
   | list ho hall=>exact⟨_,_,ns,rfl,rfl,ho,zed ns _ hall,hlen⟩
theorem zj3(l:OpenLaw)(args:List WData):l.row.toRowW.claim.post args (.bool true) args=true :=
 postW_of (r:=l.row.toRowW) (X:=(true==true))
   (show WShape.has [] (.bool true) .bool=true by first | rfl | decide | simp[WShape.has,WShape.arms,WShape.armsAll])
   (show (WTm.eq .res (.lit (.bool true))).value [] { args:=args,res:=some (.bool true),after:=args }=some (.bool (true==true)) from w_eq_bool (w_res rfl) w_lit) rfl
theorem attach_call{l:OpenLaw}{n:Nat}{q:Program}{loose:List Str}{XP:(Str->Option Value)->Heap->Prop}{YP:World->Heap->Prop}{d:DefRec}
   (hn:l.most=some n) (hdf:d.params.defaults=[])
   (call:∀ (w:World) (s₀ s₁:Shared) (mg mb:Str->Option Value) (fa:Addr) (o:Obj) (pm cd doc:Value) (a:Addr) (vs:List Value) (ns:List Int),
     Ground q loose [] XP w s₀ mg mb s₁.heap->YP w s₁.heap ->
     s₁.heap.get? fa=some o->o.data=.func (docDef d.name d.params d.body d.scope pm cd doc)->s₁.heap.CodeRec cd d.name->mg d.name=some (.ref fa) ->
     s₁.heap.get? a=some { cls:=.type "list",data:=.seq vs.toArray }->IntsAre vs ns->ns.length<=n->s₁.gens=#[] ->
     codeAny (model l.prog w) callerA (.call (.ref fa) ⟨[.ref a],[]⟩) (fun r s'=>r=.ok (.ret (.bool true))/\OldK s₁.heap s'.heap/\s'.os=s₁.os/\AllBare s'.gens) s₁) :
   WalkO q loose XP YP l.row.toRowW d [] (fun f vs=>GW f vs):=by
 intro w s₀ s₁ mg mb G Y fa o pm cd doc dV kV ho hd hcd hD hmg hg args vals as hpre hlay hrd hwl hlo;obtain rfl:dV=.none:=Dflts.none hD hdf;obtain rfl:kV=.none:=Dflts.noKw hD;obtain⟨a,vs,ns,rfl,rfl,hobj,hints,hlen⟩:=zjU hn hpre hwl;refine enter_call (CM (call w s₀ s₁ mg mb fa o pm cd doc a vs ns G Y ho (fd_plain hd) hcd hmg hobj hints hlen hg) fun r s' hq=>?_);obtain⟨rfl,h2,h3,h4⟩:=hq;exact⟨.inl ⟨.bool true,.bool true,[],rfl,fun _=>rfl,.bool true,zj3 l _,fun _=>⟨Dp,fun _ hm=>(nomatch hm)⟩⟩,h2,h3,h4⟩
end Att
namespace L2
open PySem PySem.Spec PyProof.Rows
theorem zgw:∀ {vs:List Value} {ns:List Int},IntsAre vs ns->Vals (ns.map V.int) vs
 | _,_,.nil=>.nil
 | _,_,.cons n t h=>.cons ⟨t,rfl⟩ (zgw h)
def Only(H:Hp):Prop:=∀ b,H b=none\/∃ o xs,H b=some (.frz o (.lst xs))
theorem zmy{P:Program}{w:World}{K:Ae}{mg mb:Str->Option Value}{CX:CXT}{k:Nat}{fa a:Addr}{fd:FuncData}{x:Str}{sp:Sp}{s₁:Shared}{vs:List Value}{ns:List Int}
   (KX:K.In s₁.heap) (hns:s₁.heap.Ns mainGlobals mg) (hb:s₁.heap.Ns builtinsNs mb) (hbb:∀ x:Str,x≠"__name__"->mb x=bootBuiltins x) (hlim:s₁.heap.NoLimit) (hg:s₁.gens=#[])
   (ha:s₁.heap.get? a=some { cls:=.type "list",data:=.seq vs.toArray }) (hi:IntsAre vs ns) (hl:ns.length<=sizeLine) (hr:Room k callerA)
   (F:∀ base:Heap,K.In base->base.Ns mainGlobals mg->FnOk P w K mg base CX k fa fd [x] sp) (hbind:∀ (s:Shared) (u:Value),BindsTo s fd ⟨[u],[]⟩ [(x,u)])
   (hsp:∀ H:Hp,Only H->SqL K H a (ns.map V.int)->sp [.ref a] H (fun v _=>v=.bl true) fun _ _ _=>False)
   (hCX:∀ H e s',CX [] H s₁ (fun _ _ _=>False) e s'->False) :
   codeAny (model P w) callerA (.call (.ref fa) ⟨[.ref a],[]⟩) (fun r s'=>r=.ok (.ret (.bool true))/\OldK s₁.heap s'.heap/\s'.os=s₁.os/\AllBare s'.gens) s₁:=by
 have rv:=zgw hi;have lenV:=hi.length
 -- from an abstract heap in which nothing but the script may be tracked
 have core:∀ H:Hp,Only H->SqL K H a (ns.map V.int)->HOk P w H s₁.heap->(∀ b,H b≠none->b=a)->(H a≠none->K.lookup a=none) ->
     codeAny (model P w) callerA (.call (.ref fa) ⟨[.ref a],[]⟩) (fun r s'=>r=.ok (.ret (.bool true))/\OldK s₁.heap s'.heap/\s'.os=s₁.os/\AllBare s'.gens) s₁:=by
   intro H hO hS hok hA hK;have base_of:∀ {b:Addr} {o:Obj},s₁.heap.get? b=some o->H b=none->(hidT s₁.heap H).get? b=some o:=fun e n=>zmJ e n;have noA:∀ {b:Addr} {o:Obj} {es:Array DictEntry} {ep:Nat},s₁.heap.get? b=some o->o.data=.dict es ep->H b=none:=fun {b o es ep} e d=>by
     cases q:H b with
     | none=>rfl
     | some u =>
       have e':b=a:=hA b (by rw[q];simp);subst e';rw[ha] at e;cases e;have d':Data.seq vs.toArray _=Data.dict es ep:=d;cases d'
   have nsK:∀ {b:Addr} {m:Str->Option Value},s₁.heap.Ns b m->(hidT s₁.heap H).Ns b m:=fun {b m} ⟨o,es,ep,e,d,r⟩=>⟨o,es,ep,base_of e (noA e d),d,r⟩
   have hKb:K.In (hidT s₁.heap H):=fun b o e=>base_of (KX b o e) (by
     cases q:H b with
     | none=>rfl
     | some u =>
       have e':b=a:=hA b (by rw[q];simp);subst e';rw[hK (by rw[q];simp)] at e;cases e)
   have hM:Mod K mg (hidT s₁.heap H):=⟨hKb,nsK hns,⟨mb,nsK hb,hbb⟩,let ⟨mc,h1,h2⟩:=hlim;⟨mc,nsK h1,h2⟩⟩
   have e0:Env0 P w K mg (hidT s₁.heap H) callerA [] s₁ H:=⟨rfl,hM,fun b o e=>zot e,Nat.le_of_eq (zkp _ _),trivial,fun b hb=>absurd (show b∈([]:List Addr) from hb) (by simp),hok,.of_eq hg⟩
   refine CM ((F _ hKb (nsK hns)).run callerA [] s₁ H ⟨[.ref a],[]⟩ [.ref a] [.ref a] _ _ hr e0 (hbind s₁ (.ref a)) (.cons rfl .nil) (hsp H hO hS)) fun r s' h=>?_
   cases r with
   | error e=>exact (hCX H e s' h).elim
   | ok fl =>
     cases fl with
     | next=>exact False.elim h
     | brk=>exact False.elim h
     | cont=>exact False.elim h
     | ret u =>
       obtain⟨v,H',os,bare,un,hok',r',q⟩:=h;have q':v=.bl true:=q;subst q';obtain rfl:u=Dg true:=r';refine⟨rfl,OldK.of_keep fun b o e=>?_,os,bare⟩
       cases q:H b with
       | none=>exact un.keep b o e q (by intro z;exact absurd (show b∈([]:List Addr) from z) (by simp)) (by simp)
       | some u =>
         rcases hO b with z | ⟨ob,xs,z⟩
         . rw[q] at z;cases z
         . have z2:=un.frzs b ob _ z;obtain⟨e1,_⟩:=hok b _ z;obtain⟨e2,_⟩:=hok' b _ z2;rw[e] at e1;cases e1;exact e2
 cases hk:K.lookup a with
 | some o =>
   -- the script is one of the module's own objects
   have e:=KX a o hk;rw[ha] at e;cases e;refine core (fun _=>none) (fun _=>.inl rfl) (.inr ⟨_,vs.toArray,_,hk,rfl,rfl,rfl,by rw[Ao,lenV];exact hl,by simpa using rv⟩) (fun b u z=>by have z':(none:Option HO)=some u:=z;cases z') (fun b z=>absurd rfl z) fun z=>absurd rfl z
 | none =>
   refine core (fun b=>if b=a then some (.frz { cls:=.type "list",data:=.seq vs.toArray } (.lst (ns.map V.int))) else none) (fun b=>?_) (.inl (.inr ⟨{ cls:=.type "list",data:=.seq vs.toArray },if_pos rfl⟩)) (fun b u z=>?_) (fun b z=>?_) fun _=>hk
   . by_cases hb:b=a
     . exact .inr ⟨_,_,if_pos hb⟩
     . exact .inl (if_neg hb)
   . by_cases hb:b=a
     . have z':=(if_pos hb).symm.trans z;cases z';subst hb;exact⟨ha,by rw[Ag];exact hl,vs,_,rv,ha⟩
     . have z':=(if_neg hb).symm.trans z;cases z'
   . by_cases hb:b=a
     . exact hb
     . exact absurd (if_neg hb) z
theorem walk_of{l:EY}{n k:Nat}{q:Program}{loose:List Str}{XP:(Str->Option Value)->Heap->Prop}{YP:World->Heap->Prop}{d:DefRec}{K:Params->Ae}{CX:World->CXT}{sp:World->Sp}{x:Str}
   (hn:l.most=some n) (hn2:n<=sizeLine) (hdf:d.params.defaults=[]) (hr:Room k callerA)
   (hY:∀ (w:World) (h:Heap),YP w h->(K w.params).In h)
   (F:∀ (w:World) (mg:Str->Option Value) (fa:Addr) (h:Heap),(K w.params).In h->h.Ns mainGlobals mg->mg d.name=some (.ref fa) ->
     ∃ fd:FuncData,(∀ (s:Shared) (u:Value),BindsTo s fd ⟨[u],[]⟩ [(x,u)]) /\
       ∀ base:Heap,(K w.params).In base->base.Ns mainGlobals mg->FnOk l.prog w (K w.params) mg base (CX w) k fa fd [x] (sp w))
   (hsp:∀ (w:World) (H:Hp) (a:Addr) (ns:List Int),ns.length<=n->Only H->SqL (K w.params) H a (ns.map V.int)->sp w [.ref a] H (fun v _=>v=.bl true) fun _ _ _=>False)
   (hCX:∀ (w:World) (H:Hp) (s:Shared) (e:Value) (s':Shared),CX w [] H s (fun _ _ _=>False) e s'->False) :
   Hq q loose XP YP l.row.toRowW d [] (fun f vs=>GW f vs):=by
 refine Att.attach_call hn hdf fun w s₀ s₁ mg mb fa o pm cd doc a vs ns G Y ho hd hcd hmg hobj hints hlen hg=>?_;have KX:=hY w _ Y;obtain⟨fd,hb,hF⟩:=F w mg fa _ KX G.T.g hmg;exact zmy KX G.T.g G.T.b G.T.builtins G.T.nolimit hg hobj hints (AR hlen hn2) hr hF hb (fun H hO hS=>hsp w H a ns hlen hO hS) fun H e s'=>hCX w H s₁ e s'
noncomputable def zd1(s:Stmt):Arguments:=match s with
 | .FunctionDef _ a _ _ _ _ _ _ _ _=>a
 | _=>{ posonlyargs:=[],args:=[],vararg:=none,kwonlyargs:=[],kw_defaults:=[],kwarg:=none,defaults:=[] }
noncomputable def zcJ(s:Stmt):List Stmt:=match s with
 | .FunctionDef _ _ b _ _ _ _ _ _ _=>b
 | _=>[]
noncomputable def zaA(s:Stmt):Scope:=match s with
 | .FunctionDef _ _ _ _ _ _ sc _ _ _=>sc
 | _=>{ kind:=.function,names:=[],isGenerator:=false,isCoroutine:=false }
noncomputable abbrev CX0:CXT:=fun _ _ _ _ _ _=>False
noncomputable abbrev E0:XK:=fun _ _ _=>False
theorem zrN{X:Cx}:Passes CX0 X E0:=fun _ _ _ _ _ _ _ h=>h.elim
structure Fun(K:Ae)(x qual:Str)(st:Stmt)(f:Addr)(fd:FuncData):Prop where
 ex:∃ (oc:Value) (od:Option Addr) (kV doc pm:Value) (an:Option Addr) (cdv ct:Value) (osl:Array (Option Value)),
   fd=Cc x qual (zd1 st) (zcJ st) (zaA st) .none kV doc pm an cdv ct/\K.lookup f=some ⟨oc,od,.func fd,osl⟩/\Di K cdv qual=true
 kp:Co K (.ref f)=true
section
variable {P:Program} {w:World} {K:Ae} {mg:Str->Option Value} {base:Heap}
theorem Fun.ok{x qual:Str}{st:Stmt}{f:Addr}{fd:FuncData}{N ps:List Str}{k:Nat}{sp:Sp}(F:Fun K x qual st f fd)(S:FnScope N ps (zaA st))(len:∀ vs H Q E,sp vs H Q E->vs.length=ps.length)
   (hbody:∀ (cdv:Value) (A:Around) (outer:List Env) (s:Shared) (H:Hp) (vs:List V) (Q:VK) (E:XK),Room k (A.deeper (envOfC qual (zaA st) s.heap.objs.size f cdv))->sp vs H Q E ->
     ∃ t,PSs (cxOf CX0 P w K mg base N qual (zaA st) f cdv A outer s H E).nox (zcJ st) t/\t { nx:=fun _ H'=>Q .non H',rt:=Q } (start N vs) H):FnOk P w K mg base CX0 (k+1) f fd ps sp:=by
 obtain⟨oc,od,kV,doc,pm,an,cdv,ct,osl,rfl,lk,hcd⟩:=F.ex;refine zr4 lk hcd S len fun A outer s H vs Q E hr hsp=>?_;obtain⟨t,h,q⟩:=hbody cdv A outer s H vs Q E hr hsp;exact⟨t,h.nox,q⟩
theorem Fun.binds{x qual:Str}{st:Stmt}{f:Addr}{fd:FuncData}{ps:List Str}(F:Fun K x qual st f fd)
   (h:∀ (kV doc pm:Value) (an:Option Addr) (cdv ct:Value) (us:List Value),us.length=ps.length->bindArgs (Cc x qual (zd1 st) (zcJ st) (zaA st) .none kV doc pm an cdv ct) ⟨us,[]⟩=pure (ps.zip us)):Binds K fd ps []:=by
 obtain⟨oc,od,kV,doc,pm,an,cdv,ct,osl,rfl,lk,hcd⟩:=F.ex;exact .all (h kV doc pm an cdv ct)
theorem zmM{x qual:Str}{st:Stmt}{f:Addr}{oc:Value}{od an:Option Addr}{osl:Array (Option Value)}{kV doc pm cdv ct:Value}(l:K.lookup f=some ⟨oc,od,.func (Cc x qual (zd1 st) (zcJ st) (zaA st) .none kV doc pm an cdv ct),osl⟩)
   (c:Di K cdv qual=true) (k:Co K (.ref f)=true):Fun K x qual st f (Cc x qual (zd1 st) (zcJ st) (zaA st) .none kV doc pm an cdv ct):=⟨⟨oc,od,kV,doc,pm,an,cdv,ct,osl,rfl,l,c⟩,k⟩
end
theorem zcE{A:Around}{k:Nat}(hr:Room k A):A.units+1 < cLine:=Cd (DY (by decide:1<=64) _) hr.units
section
variable {X:Cx}
theorem pv(i:Nat){x:Str}{pos:Pos}(hN:X.N[i]?=some x:=by rfl)(hv:Vis X.env.scope x:=by first | exact AI rfl | exact AG (AI rfl) | exact AG (AG rfl))(hd:(x==("__debug__":Str))=false:=by decide)
   (hcd:(x==("__classdict__":Str))=false:=by decide):PE X (.Name x pos) (tVar i):=zod hN hv hd hcd
end
end L2
namespace L2.MP
open PySem PySem.Spec PyProof.Rows
inductive D where
 | non | bl (b:Bool) | int (i:Int) | str (x:Str) | tup (xs:List D) | ref (n:Nat) | kl (xs:List D)
inductive O where
 | lst (xs:List D) | fz (xs:List D) | dk (kvs:List (Key×D)) | dt (kvs:List (List Key×D)) | fk (kvs:List (Key×D)) | ft (kvs:List (List Key×D)) | ob (C:Addr) (fs:List (Str×D)) | sz (n:Nat)
noncomputable abbrev Sto:=List O
noncomputable abbrev Rho:=List (Option D)
structure Kp(H H':Hp):Prop where
 tup:∀ a xs,H a=some (.tup xs)->H' a=some (.tup xs)
 frz:∀ a o u,H a=some (.frz o u)->H' a=some (.frz o u)
def SqF(K:Ae)(H:Hp)(a:Addr)(xs:List V):Prop :=
 (∃ o,H a=some (.frz o (.lst xs)))\/∃ (o:Obj) (its:Array Value) (n:Nat),K.lookup a=some o/\o.cls=.type "list"/\o.dict=none/\o.data=.seq its n/\its.size<=sizeLine/\Vals xs its.toList
theorem SqF.sq{K:Ae}{H:Hp}{a:Addr}{xs:List V}(h:SqF K H a xs):SqL K H a xs:=by
 rcases h with h | h
 . exact .inl (.inr h)
 . exact .inr h
theorem SqF.kp{K:Ae}{H H':Hp}{a:Addr}{xs:List V}(T:Kp H H')(h:SqF K H a xs):SqF K H' a xs:=by
 rcases h with ⟨o,h⟩ | h
 . exact .inl ⟨o,T.frz _ _ _ h⟩
 . exact .inr h
mutual
noncomputable def Rep(K:Ae)(H:Hp)(io:List Addr):V->D->Prop
 | v,.non=>v=.non
 | v,.bl b=>v=.bl b
 | v,.int i=>v=.int i
 | v,.str x=>v=.str x
 | v,.tup ds=>∃ a xs,v=.ref a/\H a=some (.tup xs)/\Reps K H io xs ds
 | v,.ref n=>∃ a,v=.ref a/\io[n]?=some a
 | v,.kl ds=>∃ a xs,v=.ref a/\SqF K H a xs/\Reps K H io xs ds
noncomputable def Reps(K:Ae)(H:Hp)(io:List Addr):List V->List D->Prop
 | xs,[]=>xs=[]
 | xs,d::ds=>∃ y ys,xs=y::ys/\Rep K H io y d/\Reps K H io ys ds
end
mutual
theorem Rep.mono{K:Ae}{H H':Hp}{io ka:List Addr}(T:Kp H H'):∀ {v:V} {d:D},Rep K H io v d->Rep K H' (io++ka) v d
 | _,.non,h=>h
 | _,.bl _,h=>h
 | _,.int _,h=>h
 | _,.str _,h=>h
 | _,.tup ds,h=>by
   obtain⟨a,xs,e,q,r⟩:=h;exact⟨a,xs,e,T.tup a xs q,Reps.mono T r⟩
 | _,.ref n,h=>by
   obtain⟨a,e,q⟩:=h;exact⟨a,e,by rw[AK (List.getElem?_eq_some_iff.mp q).1];exact q⟩
 | _,.kl ds,h=>by
   obtain⟨a,xs,e,q,r⟩:=h;exact⟨a,xs,e,q.kp T,Reps.mono T r⟩
theorem Reps.mono{K:Ae}{H H':Hp}{io ka:List Addr}(T:Kp H H'):∀ {xs:List V} {ds:List D},Reps K H io xs ds->Reps K H' (io++ka) xs ds
 | _,[],h=>h
 | _,d::ds,h=>by
   obtain⟨y,ys,e,r,rs⟩:=h;exact⟨y,ys,e,Rep.mono T r,Reps.mono T rs⟩
end
section
variable {K:Ae} {H H' H1 H2:Hp} {io ka kb:List Addr} {st st':Sto} {xs ys:List V} {ds es:List D}
theorem Reps.length:∀ {xs:List V} {ds:List D},Reps K H io xs ds->xs.length=ds.length
 | _,[],h=>by rw[show _=[] from h];rfl
 | _,d::ds,h=>by
   obtain⟨y,ys,e,_,rs⟩:=h;rw[e,A6,A6,Reps.length rs]
theorem Reps.get:∀ {xs:List V} {ds:List D} {i:Nat} {d:D},Reps K H io xs ds->ds[i]?=some d->∃ v,xs[i]?=some v/\Rep K H io v d
 | _,[],_,_,_,e=>by simp at e
 | _,a::ds,0,d,h,e=>by
   obtain⟨y,ys,rfl,r,_⟩:=h;have e':a=d:=by simpa using e
   subst e';exact⟨y,rfl,r⟩
 | _,a::ds,i+1,d,h,e=>by
   obtain⟨y,ys,rfl,_,rs⟩:=h;exact Reps.get (i:=i) rs (by simpa using e)
theorem Reps.append:∀ {xs ys:List V} {ds es:List D},Reps K H io xs ds->Reps K H io ys es->Reps K H io (xs++ys) (ds++es)
 | _,_,[],_,h,q=>by rw[show _=[] from h];exact q
 | _,_,d::ds,_,h,q=>by
   obtain⟨y,ys,rfl,r,rs⟩:=h;exact⟨y,_,rfl,r,Reps.append rs q⟩
theorem Reps.set:∀ {xs:List V} {ds:List D} {v:V} {d:D} (i:Nat),Reps K H io xs ds->Rep K H io v d->Reps K H io (xs.set i v) (ds.set i d)
 | _,[],_,_,_,h,_=>by rw[show _=[] from h];exact rfl
 | _,a::ds,v,d,0,h,q=>by
   obtain⟨y,ys,rfl,_,rs⟩:=h;exact⟨v,ys,rfl,q,rs⟩
 | _,a::ds,v,d,i+1,h,q=>by
   obtain⟨y,ys,rfl,r,rs⟩:=h;exact⟨y,_,rfl,r,Reps.set i rs q⟩
theorem Reps.take:∀ {xs:List V} {ds:List D} (n:Nat),Reps K H io xs ds->Reps K H io (xs.take n) (ds.take n)
 | _,[],n,h=>by rw[show _=[] from h];simp[Reps]
 | _,_::_,0,_=>by simp[Reps]
 | _,d::ds,n+1,h=>by
   obtain⟨y,ys,rfl,r,rs⟩:=h;exact⟨y,_,rfl,r,Reps.take n rs⟩
theorem Reps.drop:∀ {xs:List V} {ds:List D} (n:Nat),Reps K H io xs ds->Reps K H io (xs.drop n) (ds.drop n)
 | _,[],n,h=>by rw[show _=[] from h];simp[Reps]
 | _,_::_,0,h=>h
 | _,d::ds,n+1,h=>by
   obtain⟨y,ys,rfl,r,rs⟩:=h;exact Reps.drop n rs
theorem Reps.nil:Reps K H io [] []:=rfl
theorem Reps.cons{v:V}{d:D}(r:Rep K H io v d)(rs:Reps K H io xs ds):Reps K H io (v::xs) (d::ds):=⟨v,xs,rfl,r,rs⟩
theorem Reps.one{d:D}(r:Reps K H io xs [d]):∃ v,xs=[v]/\Rep K H io v d:=by
 obtain⟨y,ys,rfl,r,e⟩:=r
 cases (show ys=[] from e)
 exact⟨y,rfl,r⟩
theorem Reps.two{d e:D}(r:Reps K H io xs [d,e]):∃ v u,xs=[v,u]/\Rep K H io v d/\Rep K H io u e:=by
 obtain⟨y,ys,rfl,r,q⟩:=r;obtain⟨v,rfl,q'⟩:=q.one;exact⟨y,v,rfl,r,q'⟩
noncomputable abbrev KR (κ:Type) (K:Ae) (H:Hp) (io:List Addr):List (κ×V)->List (κ×D)->Prop:=Paired fun (p:κ×V) (q:κ×D)=>p.1=q.1/\Rep K H io p.2 q.2
def SetZ(a:Addr)(n:Nat)(h:Heap):Prop:=∃ o es ep t,h.get? a=some o/\o.ExactSet/\o.data=.set es ep t/\es.size < scanBound/\t.fits es.size=true/\es.size=n
noncomputable def OR(K:Ae)(H:Hp)(io:List Addr)(a:Addr):O->Prop
 | .lst ds=>∃ xs,H a=some (.lst xs)/\Reps K H io xs ds
 | .fz ds=>∃ o xs,H a=some (.frz o (.lst xs))/\Reps K H io xs ds
 | .dk kvs=>∃ ps,H a=some (.dK ps)/\KR Key K H io ps kvs
 | .dt kvs=>∃ ps,H a=some (.dT ps)/\KR (List Key) K H io ps kvs
 | .fk kvs=>∃ o ps,H a=some (.frz o (.dK ps))/\KR Key K H io ps kvs
 | .ft kvs=>∃ o ps,H a=some (.frz o (.dT ps))/\KR (List Key) K H io ps kvs
 | .ob C fs=>∃ dx ps,H a=some (.ins C dx ps)/\KR Str K H io ps fs
 | .sz n=>H a=some (.ext (SetZ a n))
structure StR(K:Ae)(H:Hp)(io:List Addr)(st:Sto):Prop where
 len:io.length=st.length
 nd:io.Nodup
 ob:∀ (n:Nat) (a:Addr) (o:O),io[n]?=some a->st[n]?=some o->OR K H io a o
structure EnvR(K:Ae)(H:Hp)(io:List Addr)(σ:St)(ρ:Rho):Prop where
 len:σ.length=ρ.length
 at_:∀ (i:Nat) (d:D),ρ[i]?=some (some d)->∃ v,σ[i]?=some (some v)/\Rep K H io v d
structure Ext(io ka:List Addr)(H H':Hp):Prop where
 keep:∀ b o,H b=some o->b ∉ io->H' b=some o
 fresh:∀ b,b∈ka->H b=none
 frz:∀ b o u,H b=some (.frz o u)->H' b=some (.frz o u)
theorem OR.stands{a:Addr}{o:O}(h:OR K H io a o):∃ u,H a=some u/\∀ xs,u≠.tup xs/\∀ ob,u≠.frz ob (.tup xs):=by
 cases o with
 | lst ds=>obtain⟨xs,e,_⟩:=h;exact⟨_,e,fun _=>⟨by simp,by simp⟩⟩
 | fz ds=>obtain⟨ob,xs,e,_⟩:=h;exact⟨_,e,fun _=>⟨by simp,by simp⟩⟩
 | dk kvs=>obtain⟨xs,e,_⟩:=h;exact⟨_,e,fun _=>⟨by simp,by simp⟩⟩
 | dt kvs=>obtain⟨xs,e,_⟩:=h;exact⟨_,e,fun _=>⟨by simp,by simp⟩⟩
 | fk kvs=>obtain⟨ob,xs,e,_⟩:=h;exact⟨_,e,fun _=>⟨by simp,by simp⟩⟩
 | ft kvs=>obtain⟨ob,xs,e,_⟩:=h;exact⟨_,e,fun _=>⟨by simp,by simp⟩⟩
 | ob C fs=>obtain⟨dx,xs,e,_⟩:=h;exact⟨_,e,fun _=>⟨by simp,by simp⟩⟩
 | sz n=>exact⟨_,h,fun _=>⟨by simp,by simp⟩⟩
theorem StR.mem(S:StR K H io st){a:Addr}(h:a∈io):∃ u,H a=some u/\∀ xs,u≠.tup xs/\∀ ob,u≠.frz ob (.tup xs):=by
 obtain⟨n,hn,e⟩:=FW h;have h1:io[n]?=some a:=by rw[Am hn,e]
 have h2:n < st.length:=by rw[<-S.len];exact hn
 exact (S.ob n a _ h1 (Am h2)).stands
theorem Ext.sqT(S:StR K H io st)(E:Ext io ka H H'):∀ a xs,H a=some (.tup xs)->H' a=some (.tup xs):=by
 intro a xs h;refine E.keep _ _ h fun m=>?_;obtain⟨u,e,q⟩:=S.mem m;rw[h] at e;exact (q xs).1 (Ay e).symm
theorem Ext.kp(S:StR K H io st)(E:Ext io ka H H'):Kp H H':=⟨E.sqT S,E.frz⟩
theorem Ext.refl:Ext io [] H H:=⟨fun _ _ h _=>h,fun _ h=>absurd h (by simp),fun _ _ _ h=>h⟩
theorem Ext.trans(S1:StR K H1 (io++ka) st)(E1:Ext io ka H H1)(E2:Ext (io++ka) kb H1 H2):Ext io (ka++kb) H H2 where
 keep:=fun b o h n=>E2.keep b o (E1.keep b o h n) fun m=>by
   rcases List.mem_append.mp m with m | m
   . exact n m
   . rw[E1.fresh b m] at h;cases h
 fresh:=fun b m=>by
   rcases List.mem_append.mp m with m | m
   . exact E1.fresh b m
   . have h1:=E2.fresh b m
     cases e:H b with
     | none=>rfl
     | some o =>
       by_cases hb:b∈io
       . obtain⟨u,e',_⟩:=S1.mem (Bx _ hb);rw[e'] at h1;cases h1
       . rw[E1.keep b o e hb] at h1;cases h1
 frz:=fun b o u h=>E2.frz b o u (E1.frz b o u h)
theorem Ext.app(E:Ext io (ka++[]) H H'):Ext io ka H H':=by rw[Ap] at E;exact E
theorem Rep.ext{v:V}{d:D}(S:StR K H io st)(E:Ext io ka H H')(h:Rep K H io v d):Rep K H' (io++ka) v d:=Rep.mono (E.kp S) h
theorem Reps.ext(S:StR K H io st)(E:Ext io ka H H')(h:Reps K H io xs ds):Reps K H' (io++ka) xs ds:=Reps.mono (E.kp S) h
theorem EnvR.ext{σ:St}{ρ:Rho}(h:EnvR K H io σ ρ)(S:StR K H io st)(E:Ext io ka H H'):EnvR K H' (io++ka) σ ρ :=
 ⟨h.len,fun i d e=>let ⟨v,q,r⟩:=h.at_ i d e;⟨v,q,r.ext S E⟩⟩
theorem EnvR.set{σ:St}{ρ:Rho}{v:V}{d:D}(i:Nat)(h:EnvR K H io σ ρ)(r:Rep K H io v d):EnvR K H io (σ.set i (some v)) (ρ.set i (some d)):=by
 refine⟨by rw[EX,EX];exact h.len,fun j e q=>?_⟩
 by_cases hij:i=j
 . subst hij;rw[Ep] at q;rw[if_pos rfl] at q
   split at q
   . rename_i hl
     cases (Ay (Ay q))
     exact⟨v,by rw[Ep,if_pos rfl,if_pos (by rw[h.len];exact hl)],r⟩
   . cases q
 . rw[AO hij] at q;obtain⟨u,q',r'⟩:=h.at_ j e q;exact⟨u,by rw[AO hij];exact q',r'⟩
theorem StR.nil(S:StR K H io st):StR K H (io++[]) st:=by rw[Ap];exact S
theorem KR.mono{κ:Type}{ps:List (κ×V)}{kvs:List (κ×D)}(T:Kp H H')(h:KR κ K H io ps kvs):KR κ K H' (io++ka) ps kvs:=Paired.mapP h fun _ _ z=>⟨z.1,Rep.mono T z.2⟩
theorem OR.mono{a:Addr}{o:O}(T:Kp H H')(e:H' a=H a)(h:OR K H io a o):OR K H' (io++ka) a o:=by
 cases o with
 | lst ds=>obtain⟨xs,q,r⟩:=h;exact⟨xs,e.trans q,Reps.mono T r⟩
 | fz ds=>obtain⟨ob,xs,q,r⟩:=h;exact⟨ob,xs,e.trans q,Reps.mono T r⟩
 | dk kvs=>obtain⟨xs,q,r⟩:=h;exact⟨xs,e.trans q,KR.mono T r⟩
 | dt kvs=>obtain⟨xs,q,r⟩:=h;exact⟨xs,e.trans q,KR.mono T r⟩
 | fk kvs=>obtain⟨ob,xs,q,r⟩:=h;exact⟨ob,xs,e.trans q,KR.mono T r⟩
 | ft kvs=>obtain⟨ob,xs,q,r⟩:=h;exact⟨ob,xs,e.trans q,KR.mono T r⟩
 | ob C fs=>obtain⟨dx,xs,q,r⟩:=h;exact⟨dx,xs,e.trans q,KR.mono T r⟩
 | sz n=>exact e.trans h
theorem zej{p:Addr}{o:HO}(S:StR K H io st)(hp:H p=none):Ext io [] H (upd H p o)/\StR K (upd H p o) (io++[]) st:=by
 have E:Ext io [] H (upd H p o):=⟨fun b u h _=>by rw[zaO (zaF h hp)];exact h,fun _ h=>absurd h (by simp),fun b u v h=>by rw[zaO (zaF h hp)];exact h⟩
 refine⟨E,?_⟩;refine⟨by rw[Ap];exact S.len,by rw[Ap];exact S.nd,fun n a ob h1 h2=>?_⟩;rw[Ap] at h1;obtain⟨u,hu,_⟩:=(S.ob n a ob h1 h2).stands;exact OR.mono (E.kp S) (zaO (zaF hu hp)) (S.ob n a ob h1 h2)
theorem zmk{p:Addr}{o:HO}{ob:O}(S:StR K H io st)(hp:H p=none)(new:∀ H',Kp H H'->H' p=some o->OR K H' (io++[p]) p ob):Ext io [p] H (upd H p o)/\StR K (upd H p o) (io++[p]) (st++[ob]):=by
 have E:Ext io [p] H (upd H p o):=⟨fun b u h _=>by rw[zaO (zaF h hp)];exact h,fun b h=>by rw[List.mem_singleton.mp h];exact hp,fun b u v h=>by rw[zaO (zaF h hp)];exact h⟩
 have np:p ∉ io:=fun m=>by
   obtain⟨u,hu,_⟩:=S.mem m;rw[hp] at hu;cases hu
 refine⟨E,by simp[S.len],?_,fun n a ob' h1 h2=>?_⟩
 . rw[Er];refine⟨S.nd,by simp,fun a ha b hb=>?_⟩;rw[List.mem_singleton.mp hb];rintro rfl;exact np ha
 . by_cases hn:n < io.length
   . rw[AK hn] at h1;rw[AK (by rw[<-S.len];exact hn)] at h2;obtain⟨u,hu,_⟩:=(S.ob n a ob' h1 h2).stands;exact OR.mono (E.kp S) (zaO (zaF hu hp)) (S.ob n a ob' h1 h2)
   . have hl:n < (io++[p]).length:=(List.getElem?_eq_some_iff.mp h1).1;rw[AE,CO] at hl;have e:n=io.length:=by omega
     subst e;rw[Be (Af _),C8] at h1;rw[S.len,Be (Af _),C8] at h2
     cases (Ay h1)
     cases (Ay h2)
     exact new _ (E.kp S) zbv
theorem zim{p:Addr}{n:Nat}{o:HO}{ob old:O}(S:StR K H io st)(hn:io[n]?=some p)(ho:st[n]?=some old)(nf:∀ o u,H p≠some (.frz o u))(new:∀ H',Kp H H'->H' p=some o->OR K H' (io++[]) p ob):Ext io [] H (upd H p o)/\StR K (upd H p o) (io++[]) (st.set n ob):=by
 have hp:p∈io:=Bc hn;have E:Ext io [] H (upd H p o):=⟨fun b u h nb=>by rw[zaO (fun e=>nb (by rw[e];exact hp))];exact h,fun b h=>absurd h (by simp),fun b u v h=>by
   by_cases hb:b=p
   . subst hb;exact absurd h (nf u v)
   . rw[zaO hb];exact h⟩
 refine⟨E,by simp[S.len],by rw[Ap];exact S.nd,fun m a ob' h1 h2=>?_⟩;rw[Ap] at h1
 by_cases hm:m=n
 . subst hm;rw[hn] at h1
   cases (Ay h1)
   rw[Ep,if_pos rfl] at h2
   split at h2
   . cases (Ay h2)
     exact new _ (E.kp S) zbv
   . cases h2
 . rw[AO (fun e=>hm e.symm)] at h2;have hap:a≠p:=fun e=>by
     subst e;exact hm ((List.getElem?_inj (List.getElem?_eq_some_iff.mp h1).1 S.nd).mp (h1.trans hn.symm))
   exact OR.mono (E.kp S) (zaO hap) (S.ob m a ob' h1 h2)
end
noncomputable abbrev ME:=Rho->Sto->Option (D×Sto)
noncomputable abbrev MT:=Rho->Sto->Option (Bool×Sto)
noncomputable abbrev MA:=Rho->Sto->Option (List D×Sto)
inductive Fl where
 | nx (ρ:Rho) | rt (d:D) | bk (ρ:Rho) | ct (ρ:Rho)
noncomputable abbrev MS:=Rho->Sto->Option (Fl×Sto)
noncomputable abbrev MG:=D->Rho->Sto->Option (Rho×Sto)
noncomputable abbrev MGs:=List D->Rho->Sto->Option (Rho×Sto)
def Bh(K:Ae)(io:List Addr)(H:Hp)(st':Sto)(d:D)(Q:VK):Prop:=∀ v H' ka,Ext io ka H H'->StR K H' (io++ka) st'->Rep K H' (io++ka) v d->Q v H'
inductive tE (K:Ae) (m:ME) (σ:L2.St) (H:Hp) (Q:VK):Prop
 | mk (ρ:Rho) (st:Sto) (io:List Addr) (d:D) (st':Sto) (h1:EnvR K H io σ ρ) (h2:StR K H io st) (h3:m ρ st=some (d,st')) (h4:Bh K io H st' d Q)
inductive tT (K:Ae) (m:MT) (σ:L2.St) (H:Hp) (Q:Bool->Hp->Prop):Prop
 | mk (ρ:Rho) (st:Sto) (io:List Addr) (b:Bool) (st':Sto) (h1:EnvR K H io σ ρ) (h2:StR K H io st) (h3:m ρ st=some (b,st')) (h4:∀ H' ka,Ext io ka H H'->StR K H' (io++ka) st'->Q b H')
inductive tA (K:Ae) (m:MA) (σ:L2.St) (H:Hp) (Q:List V->Hp->Prop):Prop
 | mk (ρ:Rho) (st:Sto) (io:List Addr) (ds:List D) (st':Sto) (h1:EnvR K H io σ ρ) (h2:StR K H io st) (h3:m ρ st=some (ds,st')) (h4:∀ vs H' ka,Ext io ka H H'->StR K H' (io++ka) st'->Reps K H' (io++ka) vs ds->Q vs H')
noncomputable def tS(K:Ae)(m:MS):TS:=fun N σ H=>∃ ρ st io f st',EnvR K H io σ ρ/\StR K H io st/\m ρ st=some (f,st') /\
 match f with
 | .nx ρ'=>∀ σ' H' ka,Ext io ka H H'->StR K H' (io++ka) st'->EnvR K H' (io++ka) σ' ρ'->N.nx σ' H'
 | .bk ρ'=>∀ σ' H' ka,Ext io ka H H'->StR K H' (io++ka) st'->EnvR K H' (io++ka) σ' ρ'->N.bk σ' H'
 | .ct ρ'=>∀ σ' H' ka,Ext io ka H H'->StR K H' (io++ka) st'->EnvR K H' (io++ka) σ' ρ'->N.ct σ' H'
 | .rt d=>Bh K io H st' d N.rt
inductive tG (K:Ae) (m:MG) (v:V) (σ:L2.St) (H:Hp) (Q:L2.St->Hp->Prop):Prop
 | mk (d:D) (ρ:Rho) (st:Sto) (io:List Addr) (ρ':Rho) (st':Sto) (h0:Rep K H io v d) (h1:EnvR K H io σ ρ) (h2:StR K H io st) (h3:m d ρ st=some (ρ',st')) (h4:∀ σ' H' ka,Ext io ka H H'->StR K H' (io++ka) st'->EnvR K H' (io++ka) σ' ρ'->Q σ' H')
inductive tGs (K:Ae) (m:MGs) (vs:List V) (σ:L2.St) (H:Hp) (Q:L2.St->Hp->Prop):Prop
 | mk (ds:List D) (ρ:Rho) (st:Sto) (io:List Addr) (ρ':Rho) (st':Sto) (h0:Reps K H io vs ds) (h1:EnvR K H io σ ρ) (h2:StR K H io st) (h3:m ds ρ st=some (ρ',st')) (h4:∀ σ' H' ka,Ext io ka H H'->StR K H' (io++ka) st'->EnvR K H' (io++ka) σ' ρ'->Q σ' H')
def SE(X:Cx)(e:Expr)(m:ME):Prop:=PE X e (tE X.K m)
def SB(X:Cx)(e:Expr)(m:MT):Prop:=PT X e (tT X.K m)
def SA(X:Cx)(es:List Expr)(m:MA):Prop:=PA X es (tA X.K m)
def SS(X:Cx)(s:Stmt)(m:MS):Prop:=PS X s (tS X.K m)
def SSs(X:Cx)(s:List Stmt)(m:MS):Prop:=PSs X s (tS X.K m)
def SG(X:Cx)(e:Expr)(m:MG):Prop:=PG X e (tG X.K m)
def SGs(X:Cx)(e:List Expr)(m:MGs):Prop:=PGs X e (tGs X.K m)
section
variable {X:Cx} {e a b c:Expr} {es:List Expr} {st1 st2:Stmt} {rest body orelse:List Stmt} {pos:Pos} {m ma mb mc:ME} {mt mu:MT} {mm:MA} {ms mq mr:MS} {mg:MG} {mgs:MGs}
theorem PE.imp{t u:TE}(h:PE X e t)(k:∀ σ H Q,u σ H Q->t σ H Q):PE X e u:=fun pins s σ H Q I q=>h pins s σ H Q I (k σ H Q q)
theorem PT.imp{t u:TT}(h:PT X e t)(k:∀ σ H Q,u σ H Q->t σ H Q):PT X e u:=fun pins s σ H Q I q=>h pins s σ H Q I (k σ H Q q)
theorem PA.imp{t u:TA}(h:PA X es t)(k:∀ σ H Q,u σ H Q->t σ H Q):PA X es u:=fun p pins s σ H Q I q=>h p pins s σ H Q I (k σ H Q q)
theorem PS.imp{t u:TS}(h:PS X st1 t)(k:∀ N σ H,u N σ H->t N σ H):PS X st1 u:=fun pins s σ H N I q=>h pins s σ H N I (k N σ H q)
theorem PSs.imp{t u:TS}(h:PSs X rest t)(k:∀ N σ H,u N σ H->t N σ H):PSs X rest u:=fun pins s σ H N I q=>h pins s σ H N I (k N σ H q)
theorem PG.imp{t u:TG}(h:PG X e t)(k:∀ v σ H Q,u v σ H Q->t v σ H Q):PG X e u:=fun pins s σ H v w Q I r q=>h pins s σ H v w Q I r (k v σ H Q q)
theorem PGs.imp{t u:TGs}(h:PGs X es t)(k:∀ v σ H Q,u v σ H Q->t v σ H Q):PGs X es u:=fun pins s σ H v w Q I r q=>h pins s σ H v w Q I r (k v σ H Q q)
theorem zag{α β:Type}{x:Option α}{f:α->Option β}{y:β}(h:x.bind f=some y):∃ z,x=some z/\f z=some y:=by
 cases x with
 | none=>cases h
 | some z=>exact⟨z,rfl,h⟩
variable {K:Ae} {H H1 H2:Hp} {io ka kb:List Addr} {st st':Sto}
theorem Bh.now{d:D}{Q:VK}{v:V}(h:Bh K io H st d Q)(S:StR K H io st)(r:Rep K H io v d):Q v H:=h v H [] Ext.refl S.nil (by rw[Ap];exact r)
theorem Bh.on{d:D}{Q:VK}(h:Bh K io H st' d Q)(S1:StR K H1 (io++ka) st)(E:Ext io ka H H1):Bh K (io++ka) H1 st' d Q:=fun v H' kb E' S' r =>
 h v H' (ka++kb) (E.trans S1 E') (by rw[<-Av];exact S') (by rw[<-Av];exact r)
noncomputable def mVar(i:Nat):ME:=fun ρ st=>match ρ[i]? with
 | some (some d)=>some (d,st)
 | _=>none
theorem zac(i:Nat){x:Str}{pos:Pos}(hN:X.N[i]?=some x:=by rfl)(hv:Vis X.env.scope x:=by first | exact AI rfl | exact AG (AI rfl) | exact AG (AG rfl))(hd:(x==("__debug__":Str))=false:=by decide)
   (hcd:(x==("__classdict__":Str))=false:=by decide):SE X (.Name x pos) (mVar i):=PE.imp (zod hN hv hd hcd) <| by
 rintro σ H Q ⟨ρ,st,io,d,st',E,S,e,k⟩;unfold mVar at e
 split at e
 . rename_i d' he;cases e;obtain⟨v,hv,r⟩:=E.at_ i _ he;exact⟨v,hv,k.now S r⟩
 . cases e
noncomputable def mCon(d:D):ME:=fun _ st=>some (d,st)
theorem zaf{i j pos}:SE X (.Constant (.int i) j pos) (mCon (.int i)):=PE.imp zqj <| by
 rintro σ H Q ⟨ρ,st,io,d,st',E,S,e,k⟩
 cases e;exact k.now S rfl
theorem zjT{b j pos}:SE X (.Constant (.bool b) j pos) (mCon (.bl b)):=PE.imp zrM <| by
 rintro σ H Q ⟨ρ,st,io,d,st',E,S,e,k⟩
 cases e;exact k.now S rfl
theorem zbD{x j pos}:SE X (.Constant (.str x) j pos) (mCon (.str x)):=PE.imp zqd <| by
 rintro σ H Q ⟨ρ,st,io,d,st',E,S,e,k⟩
 cases e;exact k.now S rfl
theorem zid{j pos}:SE X (.Constant .none j pos) (mCon .non):=PE.imp zqh <| by
 rintro σ H Q ⟨ρ,st,io,d,st',E,S,e,k⟩
 cases e;exact k.now S rfl
noncomputable abbrev G2:=D->D->Sto->Option (D×Sto)
inductive r2M (K:Ae) (g:G2) (x y:V) (H:Hp) (Q:VK):Prop
 | mk (dx dy:D) (st:Sto) (io:List Addr) (d:D) (st':Sto) (h0:Rep K H io x dx) (h1:Rep K H io y dy) (h2:StR K H io st) (h3:g dx dy st=some (d,st')) (h4:Bh K io H st' d Q)
def OpM(X:Cx)(f:Value->Value->Sem Value)(g:G2):Prop:=OpR X f (r2M X.K g)
noncomputable def mBin(g:G2)(ma mb:ME):ME:=fun ρ st=>(ma ρ st).bind fun (x,s1)=>(mb ρ s1).bind fun (y,s2)=>g x y s2
theorem zdL{g:G2}{σ:L2.St}{H:Hp}{Q:VK}(h:tE K (mBin g ma mb) σ H Q):tOp (r2M K g) (tE K ma) (tE K mb) σ H Q:=by
 obtain⟨ρ,st,io,d,st',E,S,e,k⟩:=h;obtain⟨⟨x,s1⟩,e1,e⟩:=zag e;obtain⟨⟨y,s2⟩,e2,e3⟩:=zag e;refine⟨ρ,st,io,x,s1,E,S,e1,fun v1 H1 k1 X1 S1 R1=>?_⟩;refine⟨ρ,s1,io++k1,y,s2,E.ext S X1,S1,e2,fun v2 H2 k2 X2 S2 R2=>?_⟩;exact⟨x,y,s2,(io++k1)++k2,d,st',R1.ext S1 X2,R2,S2,e3,(k.on S1 X1).on S2 X2⟩
theorem zaJ{op:Operator}{g:G2}(ho:OpM X (binaryOp op) g)(ha:SE X a ma)(hb:SE X b mb):SE X (.BinOp a op b pos) (mBin g ma mb):=PE.imp (zrK ho ha hb) fun _ _ _ h=>zdL h
theorem zf2{op:CmpOp}{g:G2}(ho:OpM X (compareOp op) g)(ha:SE X a ma)(hb:SE X b mb)(hm:behindInMarks op b=false):SE X (.Compare a [op] [b] pos) (mBin g ma mb):=PE.imp (zoh ho ha hb hm) fun _ _ _ h=>zdL h
noncomputable def mTst(m:ME):MT:=fun ρ st=>(m ρ st).bind fun (x,s1)=>match x with
 | .bl b=>some (b,s1)
 | _=>none
theorem zjz{ρ:Rho}{b:Bool}(e:mTst m ρ st=some (b,st')):m ρ st=some (.bl b,st'):=by
 obtain⟨⟨x,s1⟩,e1,e⟩:=zag e;dsimp only at e
 split at e
 . cases e;exact e1
 . cases e
theorem zew{σ:L2.St}{H:Hp}{Q:Bool->Hp->Prop}(h:tT K (mTst m) σ H Q):tE K m σ H fun x H'=>∃ b,x=.bl b/\Q b H':=by
 obtain⟨ρ,st,io,b,st',E,S,e,k⟩:=h;exact⟨ρ,st,io,_,st',E,S,zjz e,fun v H' ka X' S' R'=>⟨b,R',k H' ka X' S'⟩⟩
theorem zcv{op:CmpOp}{g:G2}(ho:OpM X (compareOp op) g)(ha:SE X a ma)(hb:SE X b mb)(hm:behindInMarks op b=false):SB X (.Compare a [op] [b] pos) (mTst (mBin g ma mb)) :=
 PT.imp (zn2 ho ha hb hm) fun σ H Q h=>zdL (zew h)
theorem zhm(h:SE X a m)(he:∀ whole,isTrue a X.env whole=(do let v <-whole;standAt a.pos;holding [v] (truthy v)):=by intro _;rfl):SB X a (mTst m) :=
 PT.imp (zl6 h he) fun σ H Q h=>by
   obtain⟨ρ,st,io,b,st',E,S,e,k⟩:=zew h;refine⟨ρ,st,io,b,st',E,S,e,fun v H' ka X' S' R'=>?_⟩;obtain⟨c,hc,q⟩:=k v H' ka X' S' R';subst hc;exact⟨c,rfl,q⟩
noncomputable def zgR(m:MT):MT:=fun ρ st=>(m ρ st).map fun (b,s)=>(!b,s)
theorem zeL(h:SB X a mt):SB X (.UnaryOp .Not a pos) (zgR mt):=PT.imp (zpU h) <| by
 rintro σ H Q ⟨ρ,st,io,b,st',E,S,e,k⟩;unfold zgR at e
 cases e1:mt ρ st with
 | none=>rw[e1] at e;cases e
 | some p=>rw[e1] at e;cases e;exact⟨ρ,st,io,_,_,E,S,e1,fun H' ka X' S'=>k H' ka X' S'⟩
noncomputable def zfw(m n:MT):MT:=fun ρ st=>(m ρ st).bind fun (b,s)=>if b=true then n ρ s else some (false,s)
noncomputable def mOrT(m n:MT):MT:=fun ρ st=>(m ρ st).bind fun (b,s)=>if b=true then some (true,s) else n ρ s
def SW(X:Cx)(e:Expr)(m:MT):Prop:=PW X e (tT X.K m)
theorem PW.imp{t u:TT}(h:PW X e t)(k:∀ σ H Q,u σ H Q->t σ H Q):PW X e u:=fun w pins s σ H Q I q=>h w pins s σ H Q I (k σ H Q q)
theorem SW.sb(h:SW X a mt):SB X a mt:=PW.pt h
theorem zdQ(ha:SB X a mt):SW X (.BoolOp .And [a] pos) mt:=pw_and1 ha
theorem zhb(ha:SB X a mt):SW X (.BoolOp .Or [a] pos) mt:=pw_or1 ha
theorem ziy{n:MT}{σ:L2.St}{ρ:Rho}{Q:Bool->Hp->Prop}{b:Bool}{s1:Sto}(E:EnvR K H io σ ρ)(S:StR K H io st)(X1:Ext io ka H H1)(S1:StR K H1 (io++ka) s1)(e:n ρ s1=some (b,st'))(k:∀ H' ka,Ext io ka H H'->StR K H' (io++ka) st'->Q b H'):tT K n σ H1 Q :=
 ⟨ρ,s1,io++ka,b,st',E.ext S X1,S1,e,fun H' kb X' S'=>k H' (ka++kb) (X1.trans S1 X') (by rw[<-Av];exact S')⟩
theorem zfY{rs:List Expr}(ha:SB X a mt)(hb:SW X (.BoolOp .And (b::rs) pos) mu):SW X (.BoolOp .And (a::b::rs) pos) (zfw mt mu):=PW.imp (pw_and ha hb) <| by
 rintro σ H Q ⟨ρ,st,io,v,st',E,S,e,k⟩;obtain⟨⟨x,s1⟩,e1,e⟩:=zag e;refine⟨ρ,st,io,x,s1,E,S,e1,fun H1 k1 X1 S1=>?_⟩
 cases x with
 | true=>rw[if_pos rfl];exact ziy E S X1 S1 e k
 | false =>
   rw[if_neg (by decide)];have e':some (false,s1)=some (v,st'):=e;cases e';exact k H1 k1 X1 S1
theorem zjC{rs:List Expr}(ha:SB X a mt)(hb:SW X (.BoolOp .Or (b::rs) pos) mu):SW X (.BoolOp .Or (a::b::rs) pos) (mOrT mt mu):=PW.imp (pw_or ha hb) <| by
 rintro σ H Q ⟨ρ,st,io,v,st',E,S,e,k⟩;obtain⟨⟨x,s1⟩,e1,e⟩:=zag e;refine⟨ρ,st,io,x,s1,E,S,e1,fun H1 k1 X1 S1=>?_⟩
 cases x with
 | false=>rw[if_neg (by decide)];exact ziy E S X1 S1 e k
 | true =>
   rw[if_pos rfl];have e':some (true,s1)=some (v,st'):=e;cases e';exact k H1 k1 X1 S1
noncomputable def ziI(m n:ME):ME:=fun ρ st=>(mTst m ρ st).bind fun (b,s)=>if b=true then n ρ s else some (.bl false,s)
noncomputable def zoF(m:ME):ME:=fun ρ st=>(mTst m ρ st).map fun (b,s)=>(.bl !b,s)
theorem zqv{n:ME}{σ:L2.St}{ρ:Rho}{Q:VK}{d:D}{s1:Sto}(E:EnvR K H io σ ρ)(S:StR K H io st)(X1:Ext io ka H H1)(S1:StR K H1 (io++ka) s1)(e:n ρ s1=some (d,st'))(k:Bh K io H st' d Q):tE K n σ H1 Q :=
 ⟨ρ,s1,io++ka,d,st',E.ext S X1,S1,e,k.on S1 X1⟩
theorem zfk(ha:SE X a ma):SE X (.BoolOp .And [a] pos) ma:=zqf ha
theorem zeF{rs:List Expr}(ha:SE X a ma)(hb:SE X (.BoolOp .And (b::rs) pos) mb):SE X (.BoolOp .And (a::b::rs) pos) (ziI ma mb):=PE.imp (zqk ha hb) <| by
 rintro σ H Q ⟨ρ,st,io,v,st',E,S,e,k⟩;obtain⟨⟨x,s1⟩,e1,e⟩:=zag e;refine⟨ρ,st,io,.bl x,s1,E,S,zjz e1,fun v1 H1 k1 X1 S1 R1=>⟨x,R1,?_⟩⟩
 cases x with
 | true=>rw[if_pos rfl];exact zqv E S X1 S1 e k
 | false =>
   rw[if_neg (by decide)];have e':some (D.bl false,s1)=some (v,st'):=e;cases e';exact k _ H1 k1 X1 S1 rfl
theorem znR(ha:SE X a ma):SE X (.UnaryOp .Not a pos) (zoF ma):=PE.imp (zqg ha) <| by
 rintro σ H Q ⟨ρ,st,io,v,st',E,S,e,k⟩;unfold zoF at e
 cases e1:mTst ma ρ st with
 | none=>rw[e1] at e;cases e
 | some p =>
   rw[e1] at e;cases e;exact⟨ρ,st,io,_,_,E,S,zjz e1,fun v1 H1 k1 X1 S1 R1=>⟨_,R1,k _ H1 k1 X1 S1 rfl⟩⟩
end
end L2.MP
set_option linter.unusedVariables false
namespace L2.MP
open PySem PySem.Spec PyProof.Rows
section
variable {X:Cx} {e a b c:Expr} {es:List Expr} {st1 st2:Stmt} {rest body orelse:List Stmt} {pos:Pos} {m ma mb mc:ME} {mt mu:MT} {mm:MA} {ms mq mr:MS} {mg:MG} {mgs:MGs}
variable {K:Ae} {H H1 H2:Hp} {io ka kb:List Addr} {st st':Sto}
noncomputable def mNil:MA:=fun _ st=>some ([],st)
noncomputable def zab(m:ME)(mm:MA):MA:=fun ρ st=>(m ρ st).bind fun (x,s1)=>(mm ρ s1).bind fun (xs,s2)=>some (x::xs,s2)
theorem zah:SA X [] mNil:=PA.imp zhq <| by
 rintro σ H Q ⟨ρ,st,io,ds,st',E,S,e,k⟩
 cases e;exact k [] H [] Ext.refl S.nil Reps.nil
theorem zaa(ha:SE X e m)(hr:SA X es mm)(hs:starEach (e::es) X.env=(false,eval e X.env)::starEach es X.env:=by rfl):SA X (e::es) (zab m mm):=PA.imp (zdW ha hr hs) <| by
 rintro σ H Q ⟨ρ,st,io,ds,st',E,S,e,k⟩;obtain⟨⟨x,s1⟩,e1,e⟩:=zag e;obtain⟨⟨xs,s2⟩,e2,e⟩:=zag e;cases e;refine⟨ρ,st,io,x,s1,E,S,e1,fun v1 H1 k1 X1 S1 R1=>⟨ρ,s1,io++k1,xs,_,E.ext S X1,S1,e2,fun vs H2 k2 X2 S2 R2=>?_⟩⟩;exact k _ H2 (k1++k2) (X1.trans S1 X2) (by rw[<-Av];exact S2) (by rw[<-Av];exact Reps.cons (R1.ext S1 X2) R2)
noncomputable def fits(n:Nat):Bool:=decide (n<=sizeLine)
noncomputable def mTup(mm:MA):ME:=fun ρ st=>(mm ρ st).bind fun (xs,s)=>if fits xs.length=true then some (.tup xs,s) else none
noncomputable def mLst(mm:MA):ME:=fun ρ st=>(mm ρ st).bind fun (xs,s)=>if fits xs.length=true then some (.ref s.length,s++[.lst xs]) else none
theorem zav{α:Type}{c:Prop}[Decidable c]{x:Option α}{y:α}(h:(if c then x else none)=some y):c/\x=some y:=by
 by_cases hc:c
 . rw[if_pos hc] at h;exact⟨hc,h⟩
 . rw[if_neg hc] at h;cases h
theorem Bh.tup{ds:List D}{vs:List V}{Q:VK}{p:Addr}(k:Bh K io H st (.tup ds) Q)(S:StR K H io st)(R:Reps K H io vs ds)(hp:H p=none):Q (.ref p) (upd H p (.tup vs)):=by
 obtain⟨E,S'⟩:=zej (o:=.tup vs) S hp;refine k _ _ [] E S' ⟨p,vs,rfl,zbv,R.ext S E⟩
theorem getElem?_len{α:Type}(l:List α)(x:α):(l++[x])[l.length]?=some x:=by
 rw[Be (Af _),C8];rfl
theorem Bh.lst{ds:List D}{vs:List V}{Q:VK}{p:Addr}(k:Bh K io H (st++[.lst ds]) (.ref st.length) Q)(S:StR K H io st)(R:Reps K H io vs ds)(hp:H p=none):Q (.ref p) (upd H p (.lst vs)):=by
 obtain⟨E,S'⟩:=zmk (o:=.lst vs) (ob:=.lst ds) S hp fun H' T e=>⟨vs,e,Reps.mono T R⟩
 exact k _ _ [p] E S' ⟨p,rfl,by rw[<-S.len];exact getElem?_len io p⟩
theorem za8{x1}(h:SA X es mm):SE X (.Tuple es x1 pos) (mTup mm):=PE.imp (zqc h) <| by
 rintro σ H Q ⟨ρ,st,io,d,st',E,S,e,k⟩;obtain⟨⟨xs,s1⟩,e1,e⟩:=zag e;obtain⟨hf,e⟩:=zav e;cases e;refine⟨ρ,st,io,xs,_,E,S,e1,fun vs H1 k1 X1 S1 R1=>⟨by rw[R1.length];exact of_decide_eq_true hf,fun p hp=>(k.on S1 X1).tup S1 R1 hp⟩⟩
theorem zbJ(h:SA X es mm):SE X (.List es pos) (mLst mm):=PE.imp (zqi h) <| by
 rintro σ H Q ⟨ρ,st,io,d,st',E,S,e,k⟩;obtain⟨⟨xs,s1⟩,e1,e⟩:=zag e;obtain⟨hf,e⟩:=zav e;cases e;refine⟨ρ,st,io,xs,_,E,S,e1,fun vs H1 k1 X1 S1 R1=>⟨by rw[R1.length];exact of_decide_eq_true hf,fun p hp=>(k.on S1 X1).lst S1 R1 hp⟩⟩
noncomputable abbrev GN:=List D->Sto->Option (D×Sto)
inductive rNM (K:Ae) (g:GN) (xs:List V) (H:Hp) (Q:VK):Prop
 | mk (ds:List D) (st:Sto) (io:List Addr) (d:D) (st':Sto) (h1:Reps K H io xs ds) (h2:StR K H io st) (h3:g ds st=some (d,st')) (h4:Bh K io H st' d Q)
def zd8(X:Cx)(f:Value)(g:GN):Prop:=zfK X f (rNM X.K g)
noncomputable def zaG(g:GN)(mm:MA):ME:=fun ρ st=>(mm ρ st).bind fun (xs,s)=>g xs s
theorem zfD{g:GN}{σ:L2.St}{Q:VK}(h:tE K (zaG g mm) σ H Q):tCB (rNM K g) (tA K mm) σ H Q:=by
 obtain⟨ρ,st,io,d,st',E,S,e,k⟩:=h;obtain⟨⟨xs,s1⟩,e1,e⟩:=zag e;exact⟨ρ,st,io,xs,s1,E,S,e1,fun vs H1 k1 X1 S1 R1=>⟨xs,s1,io++k1,d,st',R1,S1,e,k.on S1 X1⟩⟩
theorem zbj{x:Str}{p:Pos}{id:String}{g:GN}(hc:zd8 X (.builtin id) g)(hg:Gl X x)(hm:X.mg x=none)(hv:bootBuiltins x=some (.builtin id))(ha:SA X (e::es) mm)(hn:x≠"__name__":=by decide)(hdb:(x==("__debug__":Str))=false:=by decide)
   (he:starEach (e::es) X.env=(false,eval e X.env)::starEach es X.env:=by rfl) (hpl:(backTo pos (starEach es X.env)).any (·.1)=false:=by rfl):SE X (.Call (.Name x p) (e::es) [] pos) (zaG g mm) :=
 PE.imp (zeR hc hg hm hv ha hn hdb he hpl) fun _ _ _ h=>zfD h
theorem zcc{x:Str}{p:Pos}{T:String}{g:GN}(hc:zd8 X (.type T) g)(hg:Gl X x)(hm:X.mg x=none)(hv:bootBuiltins x=some (.type T))(ha:SA X (e::es) mm)(hn:x≠"__name__":=by decide)(hdb:(x==("__debug__":Str))=false:=by decide)
   (he:starEach (e::es) X.env=(false,eval e X.env)::starEach es X.env:=by rfl) (hpl:(backTo pos (starEach es X.env)).any (·.1)=false:=by rfl):SE X (.Call (.Name x p) (e::es) [] pos) (zaG g mm) :=
 PE.imp (zeQ hc hg hm hv ha hn hdb he hpl) fun _ _ _ h=>zfD h
noncomputable def spM(K:Ae)(n:Nat)(g:GN):Sp:=fun vs H Q _=>∃ ds st io d st',vs.length=n/\Reps K H io vs ds/\StR K H io st/\g ds st=some (d,st')/\Bh K io H st' d Q
theorem znU{x:Str}{p:Pos}{k:Nat}{f:Addr}{fd:FuncData}{ps:List Str}{n:Nat}{g:GN}(F:FnOk X.prog X.w X.K X.mg X.base CX0 k f fd ps (spM X.K n g))(hr:Room k X.A)(hg:Gl X x)(hm:X.mg x=some (.ref f))(hk:Co X.K (.ref f)=true)(hb:Binds X.K fd ps [])
   (ha:SA X (e::es) mm) (hdb:(x==("__debug__":Str))=false:=by decide) (he:starEach (e::es) X.env=(false,eval e X.env)::starEach es X.env:=by rfl) (hpl:(backTo pos (starEach es X.env)).any (·.1)=false:=by rfl) (hn:(e::es).length=n:=by rfl)
   (hl:∀ ρ st xs s,mm ρ st=some (xs,s)->xs.length=n) :
   SE X (.Call (.Name x p) (e::es) [] pos) (zaG g mm):=PE.imp (zoi F hr hg hm hk hb .nil zrN ha hdb he hpl) <| by
 rintro σ H Q ⟨ρ,st,io,d,st',E,S,e,k⟩;obtain⟨⟨xs,s1⟩,e1,e⟩:=zag e;refine⟨ρ,st,io,xs,s1,E,S,e1,fun vs H1 k1 X1 S1 R1=>⟨xs,s1,io++k1,d,st',?_,?_,S1,e,k.on S1 X1⟩⟩
 . rw[Ap,R1.length];exact hl _ _ _ _ e1
 . rw[Ap];exact R1
theorem zmq{ρ:Rho}{st:Sto}{xs:List D}{s:Sto}(h:mNil ρ st=some (xs,s)):xs.length=0:=by cases h;rfl
theorem zkb{ρ:Rho}{st:Sto}{xs:List D}{s:Sto}{n:Nat}(hr:∀ ρ st xs s,mm ρ st=some (xs,s)->xs.length=n)(h:zab m mm ρ st=some (xs,s)):xs.length=n+1:=by
 obtain⟨⟨x,s1⟩,e1,e⟩:=zag h;obtain⟨⟨ys,s2⟩,e2,e⟩:=zag e;cases e;rw[A6,hr _ _ _ _ e2]
noncomputable def Wn(K:Ae)(io:List Addr)(H:Hp)(st':Sto)(N:Ends):Fl->Prop
 | .nx ρ'=>∀ σ' H' ka,Ext io ka H H'->StR K H' (io++ka) st'->EnvR K H' (io++ka) σ' ρ'->N.nx σ' H'
 | .bk ρ'=>∀ σ' H' ka,Ext io ka H H'->StR K H' (io++ka) st'->EnvR K H' (io++ka) σ' ρ'->N.bk σ' H'
 | .ct ρ'=>∀ σ' H' ka,Ext io ka H H'->StR K H' (io++ka) st'->EnvR K H' (io++ka) σ' ρ'->N.ct σ' H'
 | .rt d=>Bh K io H st' d N.rt
inductive tSi (K:Ae) (m:MS) (N:Ends) (σ:L2.St) (H:Hp):Prop
 | mk (ρ:Rho) (st:Sto) (io:List Addr) (f:Fl) (st':Sto) (h1:EnvR K H io σ ρ) (h2:StR K H io st) (h3:m ρ st=some (f,st')) (h4:Wn K io H st' N f)
theorem zc9{N:Ends}{σ:L2.St}{H:Hp}:tS K ms N σ H ↔ tSi K ms N σ H:=by
 constructor
 . rintro ⟨ρ,st,io,f,st',E,S,e,k⟩;exact⟨ρ,st,io,f,st',E,S,e,by cases f <;> exact k⟩
 . rintro ⟨ρ,st,io,f,st',E,S,e,k⟩;exact⟨ρ,st,io,f,st',E,S,e,by cases f <;> exact k⟩
theorem zft{P:L2.St->Hp->Prop}{ρ':Rho}(h:∀ σ' H' ka,Ext io ka H H'->StR K H' (io++ka) st'->EnvR K H' (io++ka) σ' ρ'->P σ' H')(X1:Ext io ka H H1)(S1:StR K H1 (io++ka) st) :
   ∀ σ' H' kb,Ext (io++ka) kb H1 H'->StR K H' ((io++ka)++kb) st'->EnvR K H' ((io++ka)++kb) σ' ρ'->P σ' H':=fun σ' H' kb E' S' R' =>
 h σ' H' (ka++kb) (X1.trans S1 E') (by rw[<-Av];exact S') (by rw[<-Av];exact R')
theorem Wn.on{N:Ends}{f:Fl}(h:Wn K io H st' N f)(X1:Ext io ka H H1)(S1:StR K H1 (io++ka) st):Wn K (io++ka) H1 st' N f:=by
 cases f with
 | nx ρ'=>exact zft h X1 S1
 | bk ρ'=>exact zft h X1 S1
 | ct ρ'=>exact zft h X1 S1
 | rt d=>exact Bh.on h S1 X1
theorem znf{N:Ends}{σ:L2.St}{ρ:Rho}{f:Fl}(E:EnvR K H io σ ρ)(S:StR K H io st)(e:ms ρ st=some (f,st'))(w:Wn K io H st' N f):tS K ms N σ H:=zc9.mpr ⟨ρ,st,io,f,st',E,S,e,w⟩
theorem zpu{N:Ends}{σ:L2.St}{ρ:Rho}{f:Fl}{s1:Sto}(X1:Ext io ka H H1)(S1:StR K H1 (io++ka) s1)(E:EnvR K H1 (io++ka) σ ρ)(e:ms ρ s1=some (f,st'))(w:Wn K io H st' N f):tS K ms N σ H1 :=
 znf E S1 e (w.on X1 S1)
noncomputable def zcG:MS:=fun ρ st=>some (.nx ρ,st)
theorem zny:SSs X [] zcG:=PSs.imp zn4 fun N σ H h=>by
 obtain⟨ρ,st,io,f,st',E,S,e,w⟩:=zc9.mp h;cases e;exact w σ H [] Ext.refl S.nil (by rw[Ap];exact E)
noncomputable def mSeq(m n:MS):MS:=fun ρ st=>(m ρ st).bind fun (f,s)=>match f with
 | .nx ρ1=>n ρ1 s
 | f=>some (f,s)
theorem zlB(h1:SS X st1 ms)(h2:SSs X rest mq):SSs X (st1::rest) (mSeq ms mq):=PSs.imp (zl7 h1 h2) fun N σ H h=>by
 obtain⟨ρ,st,io,f,st',E,S,e,w⟩:=zc9.mp h;obtain⟨⟨f1,s1⟩,e1,e⟩:=zag e;refine znf E S e1 ?_
 cases f1 with
 | nx ρ1=>exact fun σ' H' ka X' S' R'=>zpu X' S' R' e w
 | bk ρ1=>cases e;exact w
 | ct ρ1=>cases e;exact w
 | rt d=>cases e;exact w
theorem znx(h1:SS X st1 ms):SSs X [st1] ms:=zn3 h1
noncomputable def mExp(m:ME):MS:=fun ρ st=>(m ρ st).map fun (_,s)=>(.nx ρ,s)
noncomputable def mRet(m:ME):MS:=fun ρ st=>(m ρ st).map fun (d,s)=>(.rt d,s)
theorem zaj{α β:Type}{x:Option α}{f:α->β}{y:β}(h:x.map f=some y):∃ z,x=some z/\f z=y:=by
 cases x with
 | none=>cases h
 | some z=>exact⟨z,rfl,Ay h⟩
theorem zh2(he:SE X e m)(hs:swapsWith e none pos.line X.env=pure false:=by rfl):SS X (.Expr e pos) (mExp m):=PS.imp (zn6 he hs) fun N σ H h=>by
 obtain⟨ρ,st,io,f,st',E,S,e,w⟩:=zc9.mp h;obtain⟨⟨d,s1⟩,e1,e⟩:=zaj e;cases e;exact⟨ρ,st,io,d,_,E,S,e1,fun v H' ka X' S' R'=>w σ H' ka X' S' (E.ext S X')⟩
theorem zbw(he:SE X e m):SS X (.Return (some e) pos) (mRet m):=PS.imp (zpX he) fun N σ H h=>by
 obtain⟨ρ,st,io,f,st',E,S,e,w⟩:=zc9.mp h;obtain⟨⟨d,s1⟩,e1,e⟩:=zaj e;cases e;exact⟨ρ,st,io,d,_,E,S,e1,w⟩
noncomputable def mIf(c:MT)(m n:MS):MS:=fun ρ st=>(c ρ st).bind fun (b,s)=>if b=true then m ρ s else n ρ s
theorem zrA(hc:SB X c mt)(h1:SSs X body ms)(h2:SSs X orelse mq):SS X (.If c body orelse pos) (mIf mt ms mq):=PS.imp (zrH hc h1 h2) fun N σ H h=>by
 obtain⟨ρ,st,io,f,st',E,S,e,w⟩:=zc9.mp h;obtain⟨⟨x,s1⟩,e1,e⟩:=zag e;refine⟨ρ,st,io,x,s1,E,S,e1,fun H1 k1 X1 S1=>?_⟩
 cases x with
 | true=>rw[if_pos rfl];exact zpu X1 S1 (E.ext S X1) e w
 | false=>rw[if_neg (by decide)];exact zpu X1 S1 (E.ext S X1) e w
noncomputable def gNm(i:Nat):MG:=fun d ρ st=>some (ρ.set i (some d),st)
theorem zbz{i:Nat}{x:Str}(hN:X.N.Nodup)(hi:X.N[i]?=some x)(hx:Loc X.env.scope x)(hf:X.fn x=true\/X.env.scope.names.lookup x=some .local:=by first | exact .inl rfl | exact .inr rfl | assumption):SG X (.Name x pos) (gNm i) :=
 PG.imp (zoc hN hi hx hf) <| by
   rintro v σ H Q ⟨d,ρ,st,io,ρ',st',R,E,S,e,k⟩;cases e;exact k _ H [] Ext.refl S.nil (by rw[Ap];exact E.set i R)
noncomputable def gN0:MGs:=fun ds ρ st=>match ds with
 | []=>some (ρ,st)
 | _=>none
noncomputable def gC(g:MG)(h:MGs):MGs:=fun ds ρ st=>match ds with
 | d::r=>(g d ρ st).bind fun (ρ1,s1)=>h r ρ1 s1
 | []=>none
theorem zia:SGs X [] gN0:=PGs.imp zob <| by
 rintro v σ H Q ⟨ds,ρ,st,io,ρ',st',R,E,S,e,k⟩
 cases ds with
 | nil=>cases e;exact⟨R,k σ H [] Ext.refl S.nil (by rw[Ap];exact E)⟩
 | cons d r=>cases e
theorem zcZ(h1:SG X e mg)(h2:SGs X es mgs)(hs:(assignEach (e::es) X.env).map (·.2)=assign e X.env::(assignEach es X.env).map (·.2):=by rfl):SGs X (e::es) (gC mg mgs) :=
 PGs.imp (zmb h1 h2 hs) <| by
   rintro v σ H Q ⟨ds,ρ,st,io,ρ',st',R,E,S,e,k⟩
   cases ds with
   | nil=>cases e
   | cons d r =>
     obtain⟨y,ys,rfl,r1,rs⟩:=R;obtain⟨⟨ρ1,s1⟩,e1,e⟩:=zag e;refine⟨y,ys,rfl,d,ρ,st,io,ρ1,s1,r1,E,S,e1,fun σ1 H1 k1 X1 S1 E1=>?_⟩;exact⟨r,ρ1,s1,io++k1,ρ',st',rs.ext S X1,E1,S1,e,zft k X1 S1⟩
noncomputable def gTp(n:Nat)(h:MGs):MG:=fun d ρ st=>match d with
 | .tup ds=>if ds.length=n then h ds ρ st else none
 | _=>none
theorem zlQ{k:Nat}{n:Nat}(hc:X.calm=true)(h:SGs X es mgs)(hn:(assignEach es X.env).length=n:=by rfl)(hst:(assignEach es X.env).findIdx? (·.1)=none:=by rfl):SG X (.Tuple es k pos) (gTp n mgs) :=
 PG.imp (zqa hc h hn hst) <| by
   rintro v σ H Q ⟨d,ρ,st,io,ρ',st',R,E,S,e,k⟩
   cases d with
   | tup ds =>
     obtain⟨a,xs,rfl,hq,rs⟩:=R;obtain⟨hl,e⟩:=zav e;exact⟨a,xs,rfl,SqT.of hq,by rw[rs.length];exact hl,ds,ρ,st,io,ρ',st',rs,E,S,e,k⟩
   | _=>cases e
noncomputable abbrev G3:=D->D->D->Sto->Option Sto
inductive tSetM (K:Ae) (g:G3) (o i v:V) (H:Hp) (Q:Hp->Prop):Prop
 | mk (d1 d2 d3:D) (st:Sto) (io:List Addr) (st':Sto) (h0:Rep K H io o d1) (h1:Rep K H io i d2) (h2:Rep K H io v d3) (h3:StR K H io st) (h4:g d1 d2 d3 st=some st') (h5:∀ H' ka,Ext io ka H H'->StR K H' (io++ka) st'->Q H')
def SetM(X:Cx)(g:G3):Prop:=PSet X (tSetM X.K g)
noncomputable def gSb(g:G3)(mo mi:ME):MG:=fun d ρ st=>(mo ρ st).bind fun (o,s1)=>(mi ρ s1).bind fun (i,s2)=>(g o i d s2).map fun s3=>(ρ,s3)
theorem zpJ{o i:Expr}{mo mi:ME}{g:G3}(ho:SE X o mo)(hi:SE X i mi)(hs:SetM X g)
   (ha:∀ v,assign (.Subscript o i pos) X.env v=(do
     let ov <-holding [v] (eval o X.env)
     let iv <-holding [v,ov] (eval i X.env)
     standAt pos
     holding [v,ov,iv] (setItem ov iv v)
     release [v,ov,iv] []):=by intro _;rfl):SG X (.Subscript o i pos) (gSb g mo mi) :=
 PG.imp (zqb ho hi hs ha) <| by
   rintro v σ H Q ⟨d,ρ,st,io,ρ',st',R,E,S,e,k⟩;obtain⟨⟨x,s1⟩,e1,e⟩:=zag e;obtain⟨⟨y,s2⟩,e2,e⟩:=zag e;obtain⟨s3,e3,e⟩:=zaj e;cases e;refine⟨ρ,st,io,x,s1,E,S,e1,fun v1 H1 k1 X1 S1 R1=>⟨ρ,s1,io++k1,y,s2,E.ext S X1,S1,e2,fun v2 H2 k2 X2 S2 R2=>?_⟩⟩;have X12:=X1.trans S1 X2;refine⟨x,y,d,s2,(io++k1)++k2,_,R1.ext S1 X2,R2,(R.ext S X1).ext S1 X2,S2,e3,fun H3 k3 X3 S3=>?_⟩;rw[Av] at X3 S2;rw[Av,Av] at S3;refine k σ H3 ((k1++k2)++k3) (X12.trans S2 X3) (by simpa using S3) ?_;have E2:EnvR X.K H2 (io++(k1++k2)) σ ρ:=E.ext S X12;have:=E2.ext S2 X3;simpa using this
noncomputable def mAsg(m:ME)(g:MG):MS:=fun ρ st=>(m ρ st).bind fun (d,s1)=>(g d ρ s1).map fun (ρ',s2)=>(.nx ρ',s2)
theorem zkI{N:Ends}{σ:L2.St}{H:Hp}(h:tS K (mAsg m mg) N σ H):tAsg (tE K m) (tG K mg) N σ H:=by
 obtain⟨ρ,st,io,f,st',E,S,e,w⟩:=zc9.mp h;obtain⟨⟨x,s1⟩,e1,e⟩:=zag e;obtain⟨⟨ρ',s2⟩,e2,e⟩:=zaj e;cases e;exact⟨ρ,st,io,x,s1,E,S,e1,fun v1 H1 k1 X1 S1 R1=>⟨x,ρ,s1,io++k1,ρ',_,R1,E.ext S X1,S1,e2,zft w X1 S1⟩⟩
theorem zpA{tg:Expr}(he:SE X e m)(hg:SG X tg mg)(hs:swapsWithSole [tg] e pos.line X.env=pure false:=by rfl)(hw:swappedStores [tg] e X.env=pure none:=by rfl)
   (h1:(assignEach [tg] X.env).map (·.2)=[assign tg X.env]:=by rfl):SS X (.Assign [tg] e pos) (mAsg m mg):=PS.imp (zp0 he hg hs hw h1) fun _ _ _ h=>zkI h
theorem zbe{i:Nat}{x:Str}{pos':Pos}(hN:X.N.Nodup)(hi:X.N[i]?=some x)(hx:Loc X.env.scope x)(he:SE X e m)(hs:swapsWith e (some (.Name x pos')) pos.line X.env=pure false:=by rfl)(hf:X.fn x=true\/X.env.scope.names.lookup x=some .local:=by first | exact .inl rfl | exact .inr rfl | assumption) :
   SS X (.Assign [.Name x pos'] e pos) (mAsg m (gNm i)):=PS.imp (zpW hN hi hx he hs hf) fun N σ H h=>by
 obtain⟨ρ,st,io,f,st',E,S,e,w⟩:=zc9.mp h;obtain⟨⟨x,s1⟩,e1,e⟩:=zag e;obtain⟨⟨ρ',s2⟩,e2,e⟩:=zaj e;cases e;cases e2;exact⟨ρ,st,io,x,_,E,S,e1,fun v1 H1 k1 X1 S1 R1=>w _ H1 k1 X1 S1 ((E.ext S X1).set i R1)⟩
structure Wk where
 ds:List D
 g:List (Nat×List D)
def stays(W:Wk)(st:Sto):Prop:=∀ p,p∈W.g->st[p.1]?=some (.lst p.2)\/st[p.1]?=some (.fz p.2)
structure ItOk(K:Ae)(H0:Hp)(io:List Addr)(W:Wk)(J:It):Prop where
 go:∀ i d H ka st,W.ds[i]?=some d->Ext io ka H0 H->StR K H (io++ka) st->stays W st->J.go i H/\∀ x H',J.yld i H x H'->Ext (io++ka) [] H H'/\StR K H' (io++ka) st/\Rep K H' (io++ka) x d
 stop:∀ H ka st,Ext io ka H0 H->StR K H (io++ka) st->stays W st->J.stop W.ds.length H
 stop':∀ H ka st i,W.ds.length<=i->Ext io ka H0 H->StR K H (io++ka) st->stays W st->J.stop i H
noncomputable abbrev MI:=Rho->Sto->Option (Wk×Sto)
inductive tI (K:Ae) (m:MI) (σ:L2.St) (H:Hp) (R:It->Hp->Prop):Prop
 | mk (ρ:Rho) (st:Sto) (io:List Addr) (W:Wk) (st':Sto) (h1:EnvR K H io σ ρ) (h2:StR K H io st) (h3:m ρ st=some (W,st')) (h4:∀ J H' ka,Ext io ka H H'->StR K H' (io++ka) st'->ItOk K H' (io++ka) W J->R J H')
def SI(X:Cx)(tg iter:Expr)(m:MI):Prop:=PI X tg iter (tI X.K m)
theorem PI.imp{tg iter:Expr}{t u:TI}(h:PI X tg iter t)(k:∀ σ H R,u σ H R->t σ H R):PI X tg iter u:=fun pins s σ H R I q=>h pins s σ H R I (k σ H R q)
end
mutual
noncomputable def D.eqb:D->D->Bool
 | .non,.non=>true
 | .bl a,.bl b=>a==b
 | .int a,.int b=>decide (a=b)
 | .str a,.str b=>decide (a=b)
 | .tup a,.tup b=>D.eqbs a b
 | .ref a,.ref b=>decide (a=b)
 | .kl a,.kl b=>D.eqbs a b
 | _,_=>false
noncomputable def D.eqbs:List D->List D->Bool
 | [],[]=>true
 | a::as,b::bs=>D.eqb a b&&D.eqbs as bs
 | _,_=>false
end
mutual
theorem D.eqb_refl:∀ a:D,D.eqb a a=true
 | .non=>rfl
 | .bl a=>by simp[D.eqb]
 | .int a=>by simp[D.eqb]
 | .str a=>by simp[D.eqb]
 | .tup a=>by rw[D.eqb];exact D.eqbs_refl a
 | .ref a=>by simp[D.eqb]
 | .kl a=>by rw[D.eqb];exact D.eqbs_refl a
theorem D.eqbs_refl:∀ a:List D,D.eqbs a a=true
 | []=>rfl
 | a::as=>by rw[D.eqbs,D.eqb_refl a,D.eqbs_refl as];rfl
end
mutual
theorem D.eq_of:∀ {a b:D},D.eqb a b=true->a=b
 | .non,b,h=>by cases b <;> simp[D.eqb] at h ⊢
 | .bl a,b,h=>by cases b <;> simp[D.eqb] at h ⊢;exact h
 | .int a,b,h=>by cases b <;> simp[D.eqb] at h ⊢;exact h
 | .str a,b,h=>by cases b <;> simp[D.eqb] at h ⊢;exact h
 | .tup a,.tup b,h=>by rw[D.eqb] at h;rw[D.eqs_of h]
 | .tup a,.non,h=>by simp[D.eqb] at h
 | .tup a,.bl _,h=>by simp[D.eqb] at h
 | .tup a,.int _,h=>by simp[D.eqb] at h
 | .tup a,.str _,h=>by simp[D.eqb] at h
 | .tup a,.ref _,h=>by simp[D.eqb] at h
 | .tup a,.kl _,h=>by simp[D.eqb] at h
 | .kl a,.kl b,h=>by rw[D.eqb] at h;rw[D.eqs_of h]
 | .kl a,.non,h=>by simp[D.eqb] at h
 | .kl a,.bl _,h=>by simp[D.eqb] at h
 | .kl a,.int _,h=>by simp[D.eqb] at h
 | .kl a,.str _,h=>by simp[D.eqb] at h
 | .kl a,.ref _,h=>by simp[D.eqb] at h
 | .kl a,.tup _,h=>by simp[D.eqb] at h
 | .ref a,b,h=>by cases b <;> simp[D.eqb] at h ⊢;exact h
theorem D.eqs_of:∀ {a b:List D},D.eqbs a b=true->a=b
 | [],[],_=>rfl
 | [],_::_,h=>by simp[D.eqbs] at h
 | _::_,[],h=>by simp[D.eqbs] at h
 | a::as,b::bs,h=>by
   rw[D.eqbs,An] at h;rw[D.eq_of h.1,D.eqs_of h.2]
end
noncomputable instance:DecidableEq D:=fun a b=>if h:D.eqb a b=true then .isTrue (D.eq_of h) else .isFalse fun e=>h (by rw[e];exact D.eqb_refl b)
noncomputable def zi2(st:Sto)(n:Nat)(ds:List D):Bool:=match st[n]? with
 | some (.lst xs)=>D.eqbs xs ds
 | some (.fz xs)=>D.eqbs xs ds
 | _=>false
theorem zko{st:Sto}{n:Nat}{ds:List D}(h:zi2 st n ds=true):st[n]?=some (.lst ds)\/st[n]?=some (.fz ds):=by
 unfold zi2 at h
 split at h
 . rename_i xs e;rw[D.eqs_of h] at e;exact .inl e
 . rename_i xs e;rw[D.eqs_of h] at e;exact .inr e
 . cases h
theorem zi1{st:Sto}{n:Nat}{ds:List D}(h:st[n]?=some (.lst ds)):zi2 st n ds=true:=by unfold zi2;rw[h];exact D.eqbs_refl ds
section
variable {X:Cx} {e a b c:Expr} {es:List Expr} {st1 st2:Stmt} {rest body orelse:List Stmt} {pos:Pos} {m ma mb mc:ME} {mt mu:MT} {mm:MA} {ms mq mr:MS} {mg:MG} {mgs:MGs} {mi:MI}
variable {K:Ae} {H H1 H2:Hp} {io ka kb:List Addr} {st st':Sto}
noncomputable def walked(W:Wk)(st:Sto):Bool:=W.g.all fun p=>zi2 st p.1 p.2
theorem zc8{W:Wk}(h:walked W st=true):stays W st:=fun p hp=>zko (List.all_eq_true.mp h p hp)
noncomputable def ze3(W:Wk)(g:MG)(m:MS):List D->Rho->Sto->Option (Fl×Sto)
 | [],ρ,st=>if walked W st=true then some (.nx ρ,st) else none
 | d::ds,ρ,st=>if walked W st=true then (g d ρ st).bind fun (ρ1,s1)=>(m ρ1 s1).bind fun (f,s2)=>match f with
   | .nx ρ2=>ze3 W g m ds ρ2 s2
   | .ct ρ2=>ze3 W g m ds ρ2 s2
   | .bk ρ2=>some (.nx ρ2,s2)
   | .rt d=>some (.rt d,s2) else none
noncomputable def mFor(mi:MI)(g:MG)(m:MS):MS:=fun ρ st=>(mi ρ st).bind fun (W,s)=>ze3 W g m W.ds ρ s
theorem zpz{tg iter:Expr}(hp:PassesOwn (model X.prog X.w) X.A X.env X.xe)(hc:X.calm=true)(hi:SI X tg iter mi)(hg:SG X tg mg)(hb:SSs X body ms)
   (hs:∀ x,foldedSetIterable iter X.env x=pure x:=by intro _;rfl):SS X (.For tg iter body [] pos) (mFor mi mg ms):=PS.imp (zpZ hp hc hi hg hb hs) fun N σ H h=>by
 obtain⟨ρ,st,io,f,st',E,S,e,w⟩:=zc9.mp h;obtain⟨⟨W,s1⟩,e1,e⟩:=zag e;refine⟨ρ,st,io,W,s1,E,S,e1,fun J H1 k1 X1 S1 IO=>?_⟩;refine⟨fun i n σ2 H2=>n=W.ds.length - i/\∃ ρ2 s2 k2,Ext (io++k1) k2 H1 H2/\StR X.K H2 ((io++k1)++k2) s2/\EnvR X.K H2 ((io++k1)++k2) σ2 ρ2/\ze3 W mg ms (W.ds.drop i) ρ2 s2=some (f,st'),
   ⟨_,rfl,ρ,s1,[],Ext.refl,by rw[Ap];exact S1,by rw[Ap];exact E.ext S X1,by rw[Fu];exact e⟩,?_⟩
 rintro i n σ2 H2 ⟨rfl,ρ2,s2,k2,X2,S2,E2,e2⟩;have w2:Wn X.K ((io++k1)++k2) H2 st' N f:=(w.on X1 S1).on X2 S2
 cases hd:W.ds[i]? with
 | none =>
   have hl:W.ds.length<=i:=List.getElem?_eq_none_iff.mp hd;rw[Fk hl] at e2;obtain⟨hw,e2⟩:=zav e2;cases e2;refine .inl ⟨?_,w2 σ2 H2 [] Ext.refl S2.nil (by rw[Ap];exact E2)⟩
   -- the end may lie behind
   by_cases hi:i=W.ds.length
   . rw[hi];exact IO.stop H2 k2 _ X2 S2 (zc8 hw)
   . exact IO.stop' H2 k2 _ i hl X2 S2 (zc8 hw)
 | some d =>
   have hl:i < W.ds.length:=(List.getElem?_eq_some_iff.mp hd).1;have hdr:W.ds.drop i=d::W.ds.drop (i+1):=by
     rw[Ey hl,(List.getElem?_eq_some_iff.mp hd).2]
   rw[hdr] at e2;obtain⟨hw,e2⟩:=zav e2;obtain⟨⟨ρ3,s3⟩,e3,e2⟩:=zag e2;obtain⟨⟨f4,s4⟩,e4,e2⟩:=zag e2;obtain⟨go,yl⟩:=IO.go i d H2 k2 s2 hd X2 S2 (zc8 hw);refine .inr ⟨go,fun σ5 H5=>∃ ρ5 s5 k5,Ext (io++k1) k5 H1 H5/\StR X.K H5 ((io++k1)++k5) s5/\EnvR X.K H5 ((io++k1)++k5) σ5 ρ5/\ze3 W mg ms (W.ds.drop (i+1)) ρ5 s5=some (f,st'),
     fun σ5 H5 h5=>⟨W.ds.length - (i+1),by omega,rfl,h5⟩,fun x H' y=>?_⟩
   obtain⟨X3,S3,R3⟩:=yl x H' y;have X23:Ext (io++k1) k2 H1 H':=(X2.trans S2 X3).app;refine⟨d,ρ2,s2,(io++k1)++k2,ρ3,s3,R3,?_,S3,e3,fun σ6 H6 k6 X6 S6 E6=>?_⟩
   . have:=E2.ext S2 X3;rw[Ap] at this;exact this
   . refine znf E6 S6 e4 ?_;have X26:=X23.trans S3 X6;have S6':StR X.K H6 ((io++k1)++(k2++k6)) s3:=by rw[<-Av];exact S6
     have fin:∀ {ρ7:Rho},ze3 W mg ms (W.ds.drop (i+1)) ρ7 s4=some (f,st')->∀ σ7 H7 k7,Ext ((io++k1)++k2++k6) k7 H6 H7->StR X.K H7 ((io++k1)++k2++k6++k7) s4->EnvR X.K H7 ((io++k1)++k2++k6++k7) σ7 ρ7 ->
         ∃ ρ5 s5 k5,Ext (io++k1) k5 H1 H7/\StR X.K H7 ((io++k1)++k5) s5/\EnvR X.K H7 ((io++k1)++k5) σ7 ρ5/\ze3 W mg ms (W.ds.drop (i+1)) ρ5 s5=some (f,st'):=by
       intro ρ7 e7 σ7 H7 k7 X7 S7 E7;rw[Av (io++k1)] at X7;rw[Av (io++k1),Av (io++k1)] at S7 E7;exact⟨ρ7,s4,(k2++k6)++k7,X26.trans S6' X7,S7,E7,e7⟩
     cases f4 with
     | nx ρ7=>exact fin e2
     | ct ρ7=>exact fin e2
     | bk ρ7 =>
       cases e2;exact ((w.on X1 S1).on X23 S3).on X6 S6
     | rt dd =>
       cases e2;exact ((w.on X1 S1).on X23 S3).on X6 S6
end
section
variable {X:Cx} {e a b c:Expr} {es:List Expr} {st1 st2:Stmt} {rest body orelse:List Stmt} {pos:Pos} {m ma mb mc:ME} {mt mu:MT} {mm:MA} {ms mq mr:MS} {mg:MG} {mgs:MGs} {mi:MI}
variable {K:Ae} {H H1 H2:Hp} {io ka kb:List Addr} {st st':Sto}
theorem zgh{ρ:Rho}{x:D}{xs:List D}{s s1 s2:Sto}(h1:m ρ s=some (x,s1))(h2:mm ρ s1=some (xs,s2)):zab m mm ρ s=some (x::xs,s2):=by
 unfold zab;rw[h1];show HB (mm ρ s1) _=_;rw[h2];rfl
noncomputable def zca(st:Sto)(n:Nat):Option (List D):=match st[n]? with
 | some (.lst ds)=>some ds
 | some (.fz ds)=>some ds
 | _=>none
theorem zbf{n:Nat}{p:Addr}{ds:List D}(S:StR K H io st)(hn:io[n]?=some p)(h:zca st n=some ds):∃ xs,SqL K H p xs/\Reps K H io xs ds:=by
 unfold zca at h
 split at h
 . rename_i o he;cases h;obtain⟨xs,e,r⟩:=S.ob n p _ hn he;exact⟨xs,SqL.of e,r⟩
 . rename_i o he;cases h;obtain⟨ob,xs,e,r⟩:=S.ob n p _ hn he;exact⟨xs,.inl (.inr ⟨ob,e⟩),r⟩
 . cases h
theorem zdo{n:Nat}{ds:List D}{W:Wk}(hm:(n,ds)∈W.g)(h:stays W st):zca st n=some ds:=by
 unfold zca
 rcases h _ hm with h | h
 . have h:st[n]?=some (.lst ds):=h;rw[h]
 . have h:st[n]?=some (.fz ds):=h;rw[h]
noncomputable def mWL(m:ME):MI:=fun ρ st=>(m ρ st).bind fun (d,s)=>match d with
 | .ref n=>(zca s n).map fun ds=>(⟨ds,[(n,ds)]⟩,s)
 | _=>none
noncomputable def mWT(m:ME):MI:=fun ρ st=>(m ρ st).bind fun (d,s)=>match d with
 | .tup ds=>some (⟨ds,[]⟩,s)
 | _=>none
theorem zch{io ka:List Addr}{n:Nat}{p:Addr}(h:io[n]?=some p):(io++ka)[n]?=some p:=by
 rw[AK (List.getElem?_eq_some_iff.mp h).1];exact h
theorem zqM{n:Nat}{p:Addr}{ds:List D}(hn:io[n]?=some p):ItOk K H io ⟨ds,[(n,ds)]⟩ (Itl K p) where
 go:=fun i d H1 k1 s hd X1 S1 hs=>by
   obtain⟨xs,hx,r⟩:=zbf S1 (zch hn) (zdo Aj hs);obtain⟨v,hv,rv⟩:=r.get hd;refine⟨⟨xs,v,hx,hv⟩,fun x H' y=>?_⟩;obtain⟨rfl,y⟩:=y;have e:=y xs hx;rw[hv] at e;cases e;exact⟨Ext.refl,S1,rv⟩
 stop:=fun H1 k1 s X1 S1 hs=>by
   obtain⟨xs,hx,r⟩:=zbf S1 (zch hn) (zdo Aj hs);exact⟨xs,hx,by rw[r.length];exact Af _⟩
 stop':=fun H1 k1 s i hi X1 S1 hs=>by
   obtain⟨xs,hx,r⟩:=zbf S1 (zch hn) (zdo Aj hs);exact⟨xs,hx,by rw[r.length];exact hi⟩
theorem znG{tg l:Expr}(hl:SE X l m):SI X tg l (mWL m):=PI.imp (zoa hl) <| by
 rintro σ H R ⟨ρ,st,io,W,st',E,S,e,k⟩;obtain⟨⟨d,s1⟩,e1,e⟩:=zag e;dsimp only at e
 split at e
 . rename_i n;obtain⟨ds,e2,e⟩:=zaj e;cases e;refine⟨ρ,st,io,_,_,E,S,e1,fun v H1 k1 X1 S1 R1=>?_⟩;obtain⟨p,rfl,hn⟩:=R1;obtain⟨xs,hx,r⟩:=zbf S1 hn e2;exact⟨p,rfl,⟨xs,hx⟩,k _ H1 k1 X1 S1 (zqM hn)⟩
 . cases e
theorem zqK{st:Sto}{p:Addr}{xs:List V}{ds:List D}(S:StR K H io st)(hp:H p=some (.tup xs))(r:Reps K H io xs ds):ItOk K H io ⟨ds,[]⟩ (Itt K p) where
 go:=fun i d H1 k1 s hd X1 S1 hs=>by
   obtain⟨v,hv,rv⟩:=(r.ext S X1).get hd;have hx:SqT K H1 p xs:=SqT.of (X1.sqT S p xs hp);refine⟨⟨xs,v,hx,hv⟩,fun x H' y=>?_⟩;obtain⟨rfl,y⟩:=y;have e:=y xs hx;rw[hv] at e;cases e;exact⟨Ext.refl,S1,rv⟩
 stop:=fun H1 k1 s X1 S1 hs=>⟨xs,SqT.of (X1.sqT S p xs hp),by rw[r.length];exact Af _⟩
 stop':=fun H1 k1 s i hi X1 S1 hs=>⟨xs,SqT.of (X1.sqT S p xs hp),by rw[r.length];exact hi⟩
theorem zpH{tg l:Expr}(hl:SE X l m):SI X tg l (mWT m):=PI.imp (zp8 hl) <| by
 rintro σ H R ⟨ρ,st,io,W,st',E,S,e,k⟩;obtain⟨⟨d,s1⟩,e1,e⟩:=zag e;dsimp only at e
 split at e
 . rename_i ds;cases e;refine⟨ρ,st,io,_,_,E,S,e1,fun v H1 k1 X1 S1 R1=>?_⟩;obtain⟨p,xs,rfl,hp,r⟩:=R1;exact⟨p,rfl,⟨xs,SqT.of hp⟩,k _ H1 k1 X1 S1 (zqK S1 hp r)⟩
 . cases e
noncomputable def run(lo:Int)(n:Nat):List D:=(AX n).map fun (k:Nat)=>D.int (lo+(k:Int))
theorem zcU(lo:Int)(n:Nat):(run lo n).length=n:=by unfold run;rw[Ag,Ck]
theorem run_get{lo:Int}{n i:Nat}{d:D}(h:(run lo n)[i]?=some d):i < n/\d=.int (lo+(i:Int)):=by
 have hi:i < n:=by
   have q:=(List.getElem?_eq_some_iff.mp h).1
   rwa [zcU] at q
 unfold run at h;rw[AA,CZ hi] at h;exact⟨hi,(Ay h).symm⟩
theorem zqL(lo:Int)(n:Nat):ItOk K H io ⟨run lo n,[]⟩ (Itr lo n) where
 go:=fun i d H1 k1 s hd X1 S1 hs=>by
   obtain⟨hi,rfl⟩:=run_get hd;refine⟨hi,fun x H' y=>?_⟩;obtain⟨rfl,rfl⟩:=y;exact⟨Ext.refl,S1,rfl⟩
 stop:=fun H1 k1 s X1 S1 hs=>by
   show n<=_;rw[zcU];exact Af _
 stop':=fun H1 k1 s i hi X1 S1 hs=>by
   show n<=i;have hi:(run lo n).length<=i:=hi
   rwa [zcU] at hi
noncomputable def small(j:Int):Bool:=decide (-(2 ^ 62)<=j)&&decide (j < 2 ^ 62)
theorem zh6{j:Int}(h:small j=true):-(2 ^ 62)<=j/\j < 2 ^ 62:=by
 unfold small at h;rw[An] at h;exact⟨of_decide_eq_true h.1,of_decide_eq_true h.2⟩
noncomputable def mR1(m:ME):MI:=fun ρ st=>(m ρ st).bind fun (d,s)=>match d with
 | .int j=>if small j=true then some (⟨run 0 j.toNat,[]⟩,s) else none
 | _=>none
theorem zcz{tg a:Expr}{p pos:Pos}(hg:Gl X "range")(hm:X.mg "range"=none)(ha:SE X a m)(hs:starEach [a] X.env=[(false,eval a X.env)]:=by rfl):SI X tg (.Call (.Name "range" p) [a] [] pos) (mR1 m) :=
 PI.imp (zj4 hg hm (zaa ha zah hs) hs) <| by
   rintro σ H R ⟨ρ,st,io,W,st',E,S,e,k⟩;obtain⟨⟨d,s1⟩,e1,e⟩:=zag e;dsimp only at e
   split at e
   . rename_i j;obtain⟨hj,e⟩:=zav e;cases e;refine⟨ρ,st,io,[.int j],_,E,S,(zgh e1 rfl),fun vs H1 k1 X1 S1 R1=>?_⟩;obtain⟨v,rfl,rfl⟩:=R1.one;exact⟨j,rfl,(zh6 hj).1,(zh6 hj).2,k _ H1 k1 X1 S1 (zqL 0 _)⟩
   . cases e
end
noncomputable def rho(n:Nat)(ds:List D):Rho:=ds.map some++Cp (n - ds.length) none
noncomputable def fnM(n:Nat)(m:MS):GN:=fun ds st=>(m (rho n ds) st).bind fun (f,s)=>match f with
 | .rt d=>some (d,s)
 | .nx _=>some (.non,s)
 | _=>none
theorem zkr{K:Ae}{H:Hp}{io:List Addr}{N:List Str}{vs:List V}{ds:List D}(R:Reps K H io vs ds):EnvR K H io (start N vs) (rho N.length ds):=by
 have hl:=R.length;refine⟨by unfold start rho;simp[hl],fun i d h=>?_⟩;unfold rho at h;unfold start
 by_cases hi:i < ds.length
 . rw[AK (by simpa using hi),AA] at h
   cases e:ds[i]? with
   | none=>rw[e] at h;cases h
   | some d' =>
     rw[e] at h
     cases (Ay (Ay h))
     obtain⟨v,hv,r⟩:=R.get e;exact⟨v,by rw[AK (by simpa[hl] using hi),AA,hv];rfl,r⟩
 . rw[Be (by simpa using hi),Cz] at h
   split at h <;> cases h
section
variable {P:Program} {w:World} {K:Ae} {mg:Str->Option Value} {base:Heap}
theorem fn_m{x qual:Str}{st:Stmt}{f:Addr}{fd:FuncData}{N ps:List Str}{k:Nat}{m:MS}(F:Fun K x qual st f fd)(S:FnScope N ps (zaA st))
   (hbody:∀ (cdv:Value) (A:Around) (outer:List Env) (s:Shared) (H:Hp) (E:XK),Room k (A.deeper (envOfC qual (zaA st) s.heap.objs.size f cdv)) ->
     SSs (cxOf CX0 P w K mg base N qual (zaA st) f cdv A outer s H E).nox (zcJ st) m):FnOk P w K mg base CX0 (k+1) f fd ps (spM K ps.length (fnM N.length m)):=by
 refine F.ok S (fun vs H Q E ⟨_,_,_,_,_,h,_⟩=>h) fun cdv A outer s H vs Q E hr h=>?_;obtain⟨ds,st0,io,d,st',hl,R,SR,e,k'⟩:=h;refine⟨_,hbody cdv A outer s H E hr,?_⟩;obtain⟨⟨fl,s1⟩,e1,e⟩:=zag e;refine znf (zkr R) SR e1 ?_
 cases fl with
 | rt dd=>cases e;exact k'
 | nx ρ=>cases e;exact fun σ' H' ka X' S' E'=>k' .non H' ka X' S' rfl
 | bk ρ=>cases e
 | ct ρ=>cases e
end
noncomputable def clOf(cells:List (Str×Addr)):List (Str×NameKind)->List (Str×Addr)->List (Str×Addr)
 | [],acc=>acc
 | (n,k)::r,acc=>if k==.free then clOf cells r ((n,(cells.lookup n).getD 0)::acc) else clOf cells r acc
theorem zd2{env:Env}(f:Str×NameKind->List (Str×Addr)->Sem (ForInStep (List (Str×Addr))))
   (hf:∀ n k acc,f (n,k) acc=if k==.free then (do let c <-cellOf env n;pure (.yield ((n,c)::acc))) else pure (.yield acc)) :
   ∀ (names:List (Str×NameKind)) (acc:List (Str×Addr)),(∀ n,(n,AU)∈names->∃ c,env.cells.lookup n=some c)->(forIn names acc f:Sem (List (Str×Addr)))=pure (clOf env.cells names acc)
 | [],acc,_=>by rw[Dj];rfl
 | (n,k)::r,acc,h=>by
   rw[EZ,hf];unfold clOf
   cases hk:k==AU with
   | false =>
     rw[if_neg (by simp),if_neg (by simp)];have:=zd2 f hf r acc fun m hm=>h m (Ah _ hm);rw[<-this];rfl
   | true =>
     rw[if_pos rfl,if_pos rfl];have hk':k=AU:=by simpa using hk
     obtain⟨c,hc⟩:=h n (by rw[hk'];exact Aj);have:=zd2 f hf r ((n,c)::acc) fun m hm=>h m (Ah _ hm);rw[hc,EE,<-this];unfold cellOf;rw[hc];rfl
theorem zje{env:Env}{scope:Scope}(h:∀ n,(n,AU)∈scope.names->∃ c,env.cells.lookup n=some c):closureFor scope env=pure (clOf env.cells scope.names []):=by
 unfold closureFor;have:=zd2 (env:=env) (fun x acc=>(match x with | (n,k)=>if k==.free then (do let c <-cellOf env n;pure (.yield ((n,c)::acc))) else pure (.yield acc))) (fun _ _ _=>rfl) scope.names [] h;refine Eq.trans ?_ this;simp only[bind_pure]
theorem zgp{cells:List (Str×Addr)}:∀ {names:List (Str×NameKind)} {acc:List (Str×Addr)} {p:Str×Addr},p∈clOf cells names acc->p∈acc\/((p.1,AU)∈names/\p.2=(cells.lookup p.1).getD 0)
 | [],acc,p,h=>.inl h
 | (n,k)::r,acc,p,h=>by
   unfold clOf at h
   cases hk:k==AU with
   | false =>
     rw[hk,if_neg (by simp)] at h
     rcases zgp h with h | h
     . exact .inl h
     . exact .inr ⟨Ah _ h.1,h.2⟩
   | true =>
     rw[hk,if_pos rfl] at h;have hk':k=AU:=by simpa using hk
     rcases zgp h with h | h
     . rcases List.mem_cons.mp h with h | h
       . subst h;exact .inr ⟨by rw[hk'];exact Aj,rfl⟩
       . exact .inl h
     . exact .inr ⟨Ah _ h.1,h.2⟩
theorem ze8{cells:List (Str×Addr)}:∀ {names:List (Str×NameKind)} {acc:List (Str×Addr)} {x:Str},((x,AU)∈names\/(acc.lookup x).isSome=true)->((clOf cells names acc).lookup x).isSome=true
 | [],acc,x,h=>by
   rcases h with h | h
   . exact absurd h (by simp)
   . exact h
 | (n,k)::r,acc,x,h=>by
   unfold clOf
   cases hk:k==AU with
   | false =>
     rw[if_neg (by simp)];refine ze8 ?_
     rcases h with h | h
     . rcases List.mem_cons.mp h with h | h
       . have:k=AU:=(Du h).2.symm;rw[this] at hk;exact absurd hk (by decide)
       . exact .inl h
     . exact .inr h
   | true =>
     rw[if_pos rfl];refine ze8 ?_
     by_cases hx:x=n
     . subst hx;exact .inr (by simp)
     . rcases h with h | h
       . rcases List.mem_cons.mp h with h | h
         . exact absurd (Du h).1 hx
         . exact .inl h
       . refine .inr ?_;rw[Bz];have:(x==n)=false:=by simpa using hx
         rw[this];exact h
theorem zeT:∀ {names:List (Str×NameKind)} {n:Nat} {acc:List (Str×Addr)} {p:Str×Addr},p∈cellsFrom n names acc->p∈acc\/n<=p.2
 | [],_,_,_,h=>.inl h
 | (x,k)::r,n,acc,p,h=>by
   unfold cellsFrom at h
   split at h
   . rcases zeT h with h | h
     . rcases List.mem_cons.mp h with h | h
       . subst h;exact .inr (Af _)
       . exact .inl h
     . exact .inr (Cm h)
   . exact zeT h
theorem zds:∀ {names:List (Str×NameKind)} {n:Nat} {acc:List (Str×Addr)},(acc.Pairwise fun x y=>x.2≠y.2)->(∀ p∈acc,p.2 < n)->(cellsFrom n names acc).Pairwise fun x y=>x.2≠y.2
 | [],_,_,h,_=>h
 | (x,k)::r,n,acc,h,hl=>by
   unfold cellsFrom
   split
   . refine zds (List.pairwise_cons.mpr ⟨fun y hy e=>?_,h⟩) fun p hp=>?_
     . have q:=hl y hy;have e':n=y.2:=e;rw[<-e'] at q;exact AY _ q
     . rcases List.mem_cons.mp hp with rfl | hp
       . exact DE _
       . exact BY (hl p hp)
   . exact zds h hl
theorem zis:∀ {names:List (Str×NameKind)} {n:Nat} {acc:List (Str×Addr)} {x:Str},((x,Ba)∈names\/(acc.lookup x).isSome=true)->((cellsFrom n names acc).lookup x).isSome=true
 | [],n,acc,x,h=>by
   rcases h with h | h
   . exact absurd h (by simp)
   . exact h
 | (m,k)::r,n,acc,x,h=>by
   unfold cellsFrom
   cases hk:k==Ba with
   | false =>
     rw[if_neg (by simp)];refine zis ?_
     rcases h with h | h
     . rcases List.mem_cons.mp h with h | h
       . have:k=Ba:=(Du h).2.symm;rw[this] at hk;exact absurd hk (by decide)
       . exact .inl h
     . exact .inr h
   | true =>
     rw[if_pos rfl];refine zis ?_
     by_cases hx:x=m
     . subst hx;exact .inr (by simp)
     . rcases h with h | h
       . rcases List.mem_cons.mp h with h | h
         . exact absurd (Du h).1 hx
         . exact .inl h
       . refine .inr ?_;rw[Bz];have:(x==m)=false:=by simpa using hx
         rw[this];exact h
theorem zeS:∀ {names:List (Str×NameKind)} {n:Nat} {acc:List (Str×Addr)} {x:Str},(x,Ba) ∉ names->(cellsFrom n names acc).lookup x=acc.lookup x
 | [],_,_,_,_=>rfl
 | (m,k)::r,n,acc,x,h=>by
   unfold cellsFrom
   cases hk:k==Ba with
   | false=>rw[if_neg (by simp)];exact zeS fun q=>h (Ah _ q)
   | true =>
     rw[if_pos rfl,zeS fun q=>h (Ah _ q),Bz];have hk':k=Ba:=by simpa using hk
     have:(x==m)=false:=by
       cases e:x==m with
       | false=>rfl
       | true=>exact absurd (by rw[hk',show x=m by simpa using e];exact Aj) h
     rw[this]
theorem zit:∀ {names:List (Str×NameKind)} {n:Nat} {acc:List (Str×Addr)} {x:Str} {c:Addr},(x,Ba)∈names->(cellsFrom n names acc).lookup x=some c->n<=c
 | [],_,_,_,_,h,_=>absurd h (by simp)
 | (m,k)::r,n,acc,x,c,h,e=>by
   unfold cellsFrom at e
   cases hk:k==Ba with
   | false =>
     rw[hk,if_neg (by simp)] at e
     rcases List.mem_cons.mp h with h | h
     . have:k=Ba:=(Du h).2.symm;rw[this] at hk;exact absurd hk (by decide)
     . exact zit h e
   | true =>
     rw[hk,if_pos rfl] at e
     by_cases hr:(x,Ba)∈r
     . exact Cm (zit hr e)
     . rw[zeS hr] at e
       rcases List.mem_cons.mp h with h | h
       . have hx:x=m:=(Du h).1;subst hx;rw[List.lookup_cons_self] at e;exact Nat.le_of_eq (Ay e)
       . exact absurd h hr
theorem zeN:∀ {names:List (Str×NameKind)} {h:Heap} {acc:List (Str×Addr)} {p:Str×Addr},p∈cellsFrom h.objs.size names acc->p∈acc\/(pushCells h names).IsCell p.2 none
 | [],_,_,_,h=>.inl h
 | (x,k)::r,h,acc,p,e=>by
   unfold cellsFrom at e;unfold pushCells
   split at e
   . rename_i hk;rw[if_pos hk];have sz:(h.push { cls:=.type "cell",data:=.cell none }).objs.size=h.objs.size+1:=A4 ..;rw[<-sz] at e
     rcases zeN e with q | q
     . rcases List.mem_cons.mp q with q | q
       . subst q;exact .inr ⟨_,DM _ _ _ _ (Al _ rfl),rfl⟩
       . exact .inl q
     . exact .inr q
   . rename_i hk;rw[if_neg hk];exact zeN e
noncomputable def zdg(X:Cx)(scope:Scope)(N':List Str)(cells:List (Str×Addr))(C:Addr)(s0:Shared)(H0:Hp)(ex:List Addr):Cx :=
 { X with N:=N',s₀:=s0,H₀:=H0,env:=compEnvC scope cells C X.env,outer:=X.stack,ex:=ex,fn:=fun x=>scope.names.any fun p=>p.1==x&&p.2==.cell,pn:=[],xe:=fun _ _=>False }
structure CompS(X:Cx)(scope:Scope)(N':List Str)(nt:Nat)(fr:List Nat):Prop where
 kind:scope.kind=.function
 nd:(scope.names.map (·.1)).Nodup
 len:N'.length=nt+fr.length
 cap:∀ (i j:Nat) (x:Str),fr[i]?=some j->N'[nt+i]?=some x->X.N[j]?=some x/\(x,AU)∈scope.names
 out:∀ x,(x,AU)∈scope.names->X.env.kindOf x=some .cell\/X.env.kindOf x=some .free
theorem lookup_mem:∀ {l:List (Str×NameKind)} {x:Str} {k:NameKind},(l.map (·.1)).Nodup->(x,k)∈l->l.lookup x=some k
 | [],_,_,_,h=>absurd h (by simp)
 | (n,j)::r,x,k,nd,h=>by
   rw[Ar,GX] at nd;rw[Bz]
   rcases List.mem_cons.mp h with h | h
   . cases h;simp
   . have:x≠n:=fun e=>nd.1 (by rw[<-e];exact List.mem_map.mpr ⟨_,h,rfl⟩);have:(x==n)=false:=by simpa using this
     rw[this];exact lookup_mem nd.2 h
theorem zcd{env:Env}:∀ {l:List (Str×NameKind)} {x:Str} {k:NameKind},(l.map fun (n,k)=>if (k==AU&&env.scope.kind==.function&&env.kindOf n==some .cell) then (n,Ba) else (n,k)).lookup x=some k ->
   ∃ k',l.lookup x=some k'/\(k'=k\/k'=.free)
 | [],_,_,h=>by simp at h
 | (n,j)::r,x,k,h=>by
   rw[Ar] at h;dsimp only at h
   by_cases hc:(j==AU&&env.scope.kind==.function&&env.kindOf n==some .cell)=true
   . rw[if_pos hc,Bz] at h;rw[Bz]
     cases hx:x==n with
     | true =>
       have:j=.free:=by
         rw[An,An] at hc;simpa using hc.1.1
       exact⟨j,rfl,.inr this⟩
     | false=>rw[hx] at h;exact zcd h
   . rw[if_neg hc,Bz] at h;rw[Bz]
     cases hx:x==n with
     | true=>rw[hx] at h;cases h;exact⟨j,rfl,.inl rfl⟩
     | false=>rw[hx] at h;exact zcd h
theorem zc1{env:Env}:∀ {l:List (Str×NameKind)} {x:Str},l.lookup x=some .free ->
   (l.map fun (n,k)=>if (k==AU&&env.scope.kind==.function&&env.kindOf n==some .cell) then (n,Ba) else (n,k)).lookup x=some .cell \/
   (l.map fun (n,k)=>if (k==AU&&env.scope.kind==.function&&env.kindOf n==some .cell) then (n,Ba) else (n,k)).lookup x=some .free
 | [],_,h=>by simp at h
 | (n,j)::r,x,h=>by
   rw[Ar];dsimp only;rw[Bz] at h
   by_cases hc:(j==AU&&env.scope.kind==.function&&env.kindOf n==some .cell)=true
   . rw[if_pos hc,Bz]
     cases hx:x==n with
     | true=>exact .inl rfl
     | false=>rw[hx] at h;exact zc1 h
   . rw[if_neg hc,Bz]
     cases hx:x==n with
     | true=>rw[hx] at h;cases h;exact .inr rfl
     | false=>rw[hx] at h;exact zc1 h
section
variable {X:Cx} {scope:Scope} {N':List Str} {nt:Nat} {fr:List Nat} {pins:List (Addr×Obj)} {σ:L2.St} {H:Hp} {s:Shared}
noncomputable abbrev clX (X:Cx) (scope:Scope):List (Str×Addr):=clOf X.env.cells scope.names []
noncomputable abbrev zdh (X:Cx) (scope:Scope) (C:Nat):List (Str×Addr):=cellsFrom (C+1) scope.names (clX X scope)
theorem zjf(Z:CompS X scope N' nt fr)(ok:X.Ok){p:Str×Addr}(h:p∈clX X scope):(p.1,AU)∈scope.names/\X.env.cells.lookup p.1=some p.2:=by
 rcases zgp h with h | ⟨h1,h2⟩
 . exact absurd h (by simp)
 . obtain⟨c,hc⟩:=ok.has p.1 (Z.out p.1 h1);rw[hc,EE] at h2;exact⟨h1,by rw[hc,h2]⟩
theorem zkw(Z:CompS X scope N' nt fr)(ok:X.Ok){x:Str}(h:(x,AU)∈scope.names):∃ c,X.env.cells.lookup x=some c/\∀ C,(zdh X scope C).lookup x=some c:=by
 obtain⟨c,hc⟩:=ok.has x (Z.out x h);refine⟨c,hc,fun C=>?_⟩;have no:(x,Ba) ∉ scope.names:=fun q=>by
   have a:=lookup_mem Z.nd h;have b:=lookup_mem Z.nd q;rw[a] at b;cases b
 rw[zeS no];have q:=ze8 (cells:=X.env.cells) (acc:=[]) (.inl h);obtain⟨c',e⟩:=Option.isSome_iff_exists.mp q;have:=(zjf Z ok (A9 e)).2;have this:X.env.cells.lookup x=some c':=this;rw[hc] at this;rw[e,this]
theorem zm2(Z:CompS X scope N' nt fr)(ok:X.Ok):(clX X scope).Pairwise fun x y=>x.2≠y.2:=by
 have gen:∀ (names:List (Str×NameKind)) (acc:List (Str×Addr)),(∀ n,(n,AU)∈names->∃ c,X.env.cells.lookup n=some c)->(names.map (·.1)).Nodup->(∀ p∈acc,p.1 ∉ names.map (·.1)/\X.env.cells.lookup p.1=some p.2)->(acc.Pairwise fun x y=>x.2≠y.2) ->
     (clOf X.env.cells names acc).Pairwise fun x y=>x.2≠y.2:=by
   intro names
   induction names with
   | nil=>intro acc _ _ _ h;exact h
   | cons p r ih =>
     intro acc hf nd ha hp;obtain⟨n,k⟩:=p;rw[Ar,GX] at nd;unfold clOf
     cases hk:k==AU with
     | false =>
       rw[if_neg (by simp)];exact ih acc (fun m hm=>hf m (Ah _ hm)) nd.2 (fun q hq=>⟨fun z=>(ha q hq).1 (by rw[Ar];exact Ah _ z),(ha q hq).2⟩) hp
     | true =>
       rw[if_pos rfl];have hk':k=AU:=by simpa using hk
       obtain⟨c,hc⟩:=hf n (by rw[hk'];exact Aj);refine ih _ (fun m hm=>hf m (Ah _ hm)) nd.2 (fun q hq=>?_) (List.pairwise_cons.mpr ⟨fun y hy e=>?_,hp⟩)
       . rcases List.mem_cons.mp hq with rfl | hq
         . exact⟨nd.1,by rw[hc];rfl⟩
         . exact⟨fun z=>(ha q hq).1 (by rw[Ar];exact Ah _ z),(ha q hq).2⟩
       . have e1:(X.env.cells.lookup n).getD 0=y.2:=e;rw[hc,EE] at e1;have e2:=(ha y hy).2;rw[<-e1] at e2;have:=ok.inj _ _ _ e2 hc;exact (ha y hy).1 (by rw[this,Ar];exact Aj)
 exact gen scope.names [] (fun n hn=>ok.has n (Z.out n hn)) Z.nd (fun p hp=>absurd hp (by simp)) Dp
theorem zm0{M:Model}{A:Around}{E:Value->Shared->Prop}{env:Env}{cl:List (Str×Addr)}{Q:Env->Shared->Prop}
   (h:Q { scope:=scope,locals:=s.heap.objs.size,globals:=env.globals,cells:=cellsFrom (s.heap.objs.size+1) scope.names cl,qual:=env.qual,func:=none,code:=env.code,frame:=env.frame,builtins:=env.builtins }
     { s with heap:=pushCells (s.heap.push { cls:=.type "dict",data:=.dict #[] }) scope.names }) :
   wpAny M A (newFunctionEnv scope env.globals cl [] env.qual none .none (some env)) Q E s:=by
 simp only[newFunctionEnv,F8,if_true];refine Aa (wpAny_alloc ?_);refine Aa (wpAny_layCells _ (fun name kind cells=>by cases hkc:kind==Ba <;> simp[hkc]) _ _ _ _ ?_);rw[show ({ s with heap:=s.heap.push { cls:=.type "dict",data:=.dict #[] } }:Shared).heap.objs.size=s.heap.objs.size+1 from A4 ..];rw[Dj];exact Aa (Ab (Ab h))
noncomputable def zkv(σ:L2.St)(nt:Nat)(fr:List Nat):L2.St:=Cp nt none++fr.map fun (j:Nat)=>(σ[j]?).join
theorem zmD{fp:List Addr}(Z:CompS X scope N' nt fr)(I:Inv X pins σ H s)(hf:∀ b∈fp,FpOk X pins H b)(hlt:∀ b∈fp,b < s.heap.objs.size) :
   Inv (zdg X scope N' (zdh X scope s.heap.objs.size) s.heap.objs.size s H fp) [] (zkv σ nt fr) H { s with heap:=pushCells (s.heap.push { cls:=.type "dict",data:=.dict #[] }) scope.names }:=by
 have ok:=I.ok;have kp:∀ b o,s.heap.get? b=some o->(pushCells (s.heap.push { cls:=.type "dict",data:=.dict #[] }) scope.names).get? b=some o:=fun b o e=>DM _ _ b o (Ad _ e);have clt:∀ p∈clX X scope,p.2 < s.heap.objs.size:=fun p hp=>by
   obtain⟨_,e⟩:=zjf Z ok hp;obtain⟨v,q⟩:=I.cell p.1 p.2 e;exact q.lt
 have sz:(s.heap.push { cls:=.type "dict",data:=.dict #[] }).objs.size=s.heap.objs.size+1:=A4 ..;have cells:∀ x c,(zdh X scope s.heap.objs.size).lookup x=some c->(X.env.cells.lookup x=some c)\/(s.heap.objs.size+1<=c/\(pushCells (s.heap.push { cls:=.type "dict",data:=.dict #[] }) scope.names).IsCell c none):=fun x c e=>by
   have m:=A9 e
   rcases zeT m with h | h
   . exact .inl (zjf Z ok h).2
   . refine .inr ⟨h,?_⟩;have m':(x,c)∈cellsFrom (s.heap.push { cls:=.type "dict",data:=.dict #[] }).objs.size scope.names (clX X scope):=by rw[sz];exact m
     rcases zeN m' with q | q
     . have l:=clt _ q;exact absurd (As l (Cm h)) (AY _)
     . exact q
 refine⟨⟨ok.mod,Z.kind,ok.glob,ok.blt,Af _,fun x y c h1 h2=>?_,fun x hx=>?_,fun x c h1 h2=>?_,ok.hd,ok.frames,.inl rfl,fun b hb=>?_,I.bs,AR ok.bsz I.sz,fun b o e hb=>?_,fun b hb=>?_,I.stack,I.stkFree⟩,
   rfl,I.bare,Un.kept kp,⟨fun _=>none,?_,fun i x v h1 h2 h3=>?_⟩,fun x c e=>?_,I.hok.fresh (Af _),fun x c e=>?_,fun p hp=>absurd hp (by simp[zdg]),I.hok.kept kp,?_⟩
 . exact name_of_addr (zds (zm2 Z ok) fun p hp=>BY (clt p hp)) (A9 h1) (A9 h2)
 . have hx:(relabel scope X.env).names.lookup x=some .cell\/(relabel scope X.env).names.lookup x=some .free:=hx;have q:(x,Ba)∈scope.names\/(x,AU)∈scope.names:=by
     rcases hx with hx | hx
     . obtain⟨k',e,z | z⟩:=zcd hx
       . subst z;exact .inl (A9 e)
       . subst z;exact .inr (A9 e)
     . obtain⟨k',e,z | z⟩:=zcd hx
       . subst z;exact .inr (A9 e)
       . subst z;exact .inr (A9 e)
   refine Option.isSome_iff_exists.mp (zis (n:=s.heap.objs.size+1) (acc:=clX X scope) ?_)
   rcases q with q | q
   . exact .inl q
   . exact .inr (ze8 (.inl q))
 . have h1:(scope.names.any fun p=>p.1==x&&p.2==Ba)=true:=h1;obtain⟨p,hp,e⟩:=List.any_eq_true.mp h1;rw[An] at e;have e1:p.1=x:=by simpa using e.1
   have e2:p.2=Ba:=by simpa using e.2
   have hm:(x,Ba)∈scope.names:=by rw[<-e1,<-e2];exact hp
   exact Cm (zit hm h2)
 . refine⟨AB (hlt b hb),fun x c e z=>?_⟩
   rcases cells x c e with q | ⟨q,_⟩
   . exact (hf b hb).2.2.2.2.1 x c q z
   . have l:=hlt b hb;rw[<-z] at l;exact absurd (As l (Cm q)) (AY _)
 . rcases (hf b hb).2.2.2.1 with z | z
   . exact ok.noex b o e z
   . exact absurd (As (Ak e) (AR ok.bsz z)) (AY _)
 . intro hs
   rcases List.mem_cons.mp (I.stkSub b hs) with e | e
   . exact (hf b hb).2.1 e
   . exact (hf b hb).2.2.1 e
 . exact (Heap.Ns.new s.heap (.type "dict")).keeps (DM _ _)
 . -- a captured name
   have hi:nt<=i:=by
     by_cases hi:i < nt
     . unfold zkv at h2;rw[AK (by simpa using hi),Cz,if_pos hi] at h2;cases h2
     . omega
   obtain⟨i',rfl⟩:∃ i',i=nt+i':=⟨i - nt,by omega⟩
   unfold zkv at h2;rw[Be (by simp),CN,Nat.add_sub_cancel_left,AA] at h2
   cases ej:fr[i']? with
   | none=>rw[ej] at h2;cases h2
   | some j =>
     rw[ej] at h2;have h2:(σ[j]?).join=some v:=Ay h2;have h2:σ[j]?=some (some v):=by
       cases q:σ[j]? with
       | none=>rw[q] at h2;cases h2
       | some w=>rw[q] at h2;cases w with
         | none=>cases h2
         | some w=>cases h2;rfl
     obtain⟨hN,hfree⟩:=Z.cap i' j x ej h1;obtain⟨c,hc,hcc⟩:=zkw Z ok hfree;have ho:=Z.out x hfree;obtain⟨m,hn,hl⟩:=I.loc;obtain⟨u,r,l⟩:=hl j x v hN h2 (ho.elim (fun z=>.inr (.inl z)) fun z=>.inr (.inr z));refine⟨u,r,.inr ⟨?_,c,hcc _,?_⟩⟩
     . exact zc1 (lookup_mem Z.nd hfree)
     . rcases l with ⟨k,_⟩ | ⟨_,c',e',z⟩
       . rcases ho with q | q
         . rw[k] at q;cases q
         . rw[k] at q;cases q
       . rw[hc] at e';cases e';exact z.keeps kp
 . rcases cells x c e with q | ⟨_,q⟩
   . obtain⟨v,z⟩:=I.cell x c q;exact⟨v,z.keeps kp⟩
   . exact⟨none,q⟩
 . rcases cells x c e with q | ⟨q,_⟩
   . exact I.freeC x c q
   . exact I.hok.fresh (Cm q)
 . show _=N'.length;unfold zkv;rw[Z.len,AE,CN,Ag]
end
noncomputable abbrev FF:Value->Shared->Prop:=fun _ _=>False
theorem zhB{prog:Program}{w:World}{A:Around}{R:Result->Shared->Prop}{s:Shared}{elt target iter:Expr}{ifs:List Expr}{scope:Scope}{pos:Pos}{it acc:Value}{env:Env}(I:Nat->Shared->Prop)
   (turn:∀ n s,I n s->wpAny (model prog w) A (pyNext it) (fun r s1=>match r with
     | none=>R (.ok .next) s1
     | some v=>wpAny (model prog w) A (letOwnedTupleGo target it v) (fun _ s1=>wpAny (model prog w) A (assign target env v) (fun _ s2 =>
         wpAny (model prog w) A (forIn ifs true fun c r=>if r=true then do let ok <-isTrue c env (eval c env);pure (DN ok) else pure (DN r)) (fun ok s3 =>
           if ok=true then wpAny (model prog w) A (eval elt env) (fun x s4 =>
             wpAny (model prog w) A (call (.builtin "list.append") [acc,x]) (fun _ s5=>∃ m,m < n/\I m s5) FF s4) FF s3
           else ∃ m,m < n/\I m s3) FF s2) FF s1) FF s1) FF s)
   (n:Nat) (h:I n s) :
   codeAny (model prog w) A (.compLoop (.ListComp elt [⟨target,iter,ifs,0⟩] scope pos) 0 it acc env) R s:=by
 refine codeAny_loop rfl I (fun n s hI=>?_) n h;show wpAny _ A ((compTurn (.ListComp elt [⟨target,iter,ifs,0⟩] scope pos) 0 it acc env).onRaise (fun x=>do noteFrame x env;theTreesLotGoes x)) _ _ s;refine wpAny_noted ?_;rw[compTurn_list];refine Aa (Dy (Aa (BH (turn n s hI) (fun r s₁ h₁=>?_) fun _ _ h'=>False.elim h')))
 cases r with
 | none=>exact Ab h₁
 | some v =>
   refine Aa (BH h₁ (fun _ s₂ h₂=>?_) fun _ _ h'=>False.elim h');refine Aa (BH h₂ (fun _ s₂ h₂=>Aa (BH h₂ (fun ok s₃ h₃=>?_) fun _ _ h'=>False.elim h')) fun _ _ h'=>False.elim h')
   cases ok with
   | false=>exact Ab ⟨rfl,h₃⟩
   | true =>
     exact Aa (Aa (BH h₃ (fun x s₄ h₄=>Aa (BH h₄ (fun _ s₅ h₅=>Ab (Ab ⟨rfl,h₅⟩)) fun _ _ h'=>False.elim h')) fun _ _ h'=>False.elim h'))
noncomputable def mCI(W:Wk)(g:MG)(c:MT)(m:ME):List D->Rho->Sto->Option (List D×Sto)
 | [],ρ,st=>if walked W st=true then some ([],st) else none
 | d::ds,ρ,st=>if walked W st=true then (g d ρ st).bind fun (ρ1,s1)=>(c ρ1 s1).bind fun (b,s2) =>
     if b=true then (m ρ1 s2).bind fun (x,s3)=>(mCI W g c m ds ρ1 s3).map fun (xs,s4)=>(x::xs,s4) else mCI W g c m ds ρ1 s2 else none
noncomputable def rho0(ρ:Rho)(nt:Nat)(fr:List Nat):Rho:=Cp nt none++fr.map fun (j:Nat)=>(ρ[j]?).join
noncomputable def ze4(mi:MI)(nt:Nat)(fr:List Nat)(g:MG)(c:MT)(m:ME):ME:=fun ρ st=>(mi ρ st).bind fun (W,s1)=>(mCI W g c m W.ds (rho0 ρ nt fr) s1).bind fun (xs,s2) =>
 if fits xs.length=true then some (.ref s2.length,s2++[.lst xs]) else none
noncomputable def zc6:MT:=fun _ st=>some (true,st)
def SC(X:Cx)(ifs:List Expr)(m:MT):Prop:=∀ (pins:List (Addr×Obj)) (s:Shared) (σ:L2.St) (H:Hp) (Q:Bool->Hp->Prop),Inv X pins σ H s->tT X.K m σ H Q ->
 wpAny (model X.prog X.w) X.A (forIn ifs true fun c r=>if r=true then do let ok <-isTrue c X.env (eval c X.env);pure (DN ok) else pure (DN r)) (TP X pins σ Q) X.xe s
theorem zfm{X:Cx}:SC X [] zc6:=by
 rintro pins s σ H Q I ⟨ρ,st,io,b,st',E,S,e,k⟩;cases e;rw[Dj];exact Ab ⟨H,I,k H [] Ext.refl S.nil⟩
section
variable {K:Ae} {H H1:Hp} {io ka:List Addr} {st:Sto} {σ:L2.St} {ρ:Rho}
theorem zmT{nt:Nat}{fr:List Nat}(h:EnvR K H io σ ρ):EnvR K H io (zkv σ nt fr) (rho0 ρ nt fr):=by
 refine⟨by unfold zkv rho0;simp,fun i d e=>?_⟩;unfold rho0 at e;unfold zkv
 by_cases hi:i < nt
 . rw[AK (by simpa using hi),Cz,if_pos hi] at e;cases e
 . rw[Be (by simpa using hi),CN,AA] at e ⊢
   cases ej:fr[i - nt]? with
   | none=>rw[ej] at e;cases e
   | some j =>
     rw[ej] at e;have e:(ρ[j]?).join=some d:=Ay e;have e:ρ[j]?=some (some d):=by
       cases q:ρ[j]? with
       | none=>rw[q] at e;cases e
       | some w=>rw[q] at e;cases w with
         | none=>cases e
         | some w=>cases e;rfl
     obtain⟨v,hv,r⟩:=h.at_ j d e;exact⟨v,by simp[hv],r⟩
theorem adopt{p:Addr}{xs:List V}{ds:List D}(S:StR K H io st)(hp:H p=some (.lst xs))(np:p ∉ io)(R:Reps K H io xs ds):StR K H (io++[p]) (st++[.lst ds]):=by
 refine⟨by simp[S.len],?_,fun n a ob h1 h2=>?_⟩
 . rw[Er];refine⟨S.nd,by simp,fun a ha b hb=>?_⟩;rw[List.mem_singleton.mp hb];rintro rfl;exact np ha
 . by_cases hn:n < io.length
   . rw[AK hn] at h1;rw[AK (by rw[<-S.len];exact hn)] at h2;exact OR.mono ⟨fun _ _ h=>h,fun _ _ _ h=>h⟩ rfl (S.ob n a ob h1 h2)
   . have hl:n < (io++[p]).length:=(List.getElem?_eq_some_iff.mp h1).1;rw[AE,CO] at hl;have e:n=io.length:=by omega
     subst e;rw[Be (Af _),C8] at h1;rw[S.len,Be (Af _),C8] at h2
     cases (Ay h1)
     cases (Ay h2)
     exact⟨xs,hp,Reps.mono ⟨fun _ _ h=>h,fun _ _ _ h=>h⟩ R⟩
end
section
variable {X:Cx} {scope:Scope} {N':List Str} {nt:Nat} {fr:List Nat} {elt tg iter:Expr} {ifs:List Expr} {pos:Pos} {mi:MI} {g:MG} {c:MT} {m:ME}
structure CompEnd(X:Cx)(pins:List (Addr×Obj))(σ:L2.St)(H:Hp)(io:List Addr)(d:D)(st':Sto)(Dd C:Addr)(H5:Hp)(s6:Shared):Prop where
 inv:Inv X pins σ H5 s6
 ns:∃ m,s6.heap.Ns C m
 free:H5 C=none
 ne:C≠X.env.locals
 young:X.s₀.heap.objs.size<=C
 cells:∀ x c,X.env.cells.lookup x=some c->c≠C
 pin:∀ p∈X.pn++pins,p.1≠C
 val:∃ ka,Ext io ka H H5/\StR X.K H5 (io++ka) st'/\Rep X.K H5 (io++ka) (.ref Dd) d
inductive CompI (X Y:Cx) (W:Wk) (tn:Nat->Heap->Prop) (fp io:List Addr) (H1:Hp) (Dd:Addr) (g:MG) (c:MT) (m:ME) (t2:Sto) (xs:List D) (n:Nat) (s5:Shared):Prop
 | mk (i:Nat) (σ5:L2.St) (H5:Hp) (ρ5:Rho) (st5:Sto) (k5:List Addr) (ac rs:List D) (h0:n=W.ds.length - i) (h1:Inv Y [] σ5 H5 s5) (h2:tn i s5.heap) (h3:∀ b∈fp,H5 b=none) (h4:Ext io k5 H1 H5) (h5:Dd ∉ k5) (h6:StR X.K H5 (io++k5) st5) (h7:EnvR X.K H5 (io++k5) σ5 ρ5) (h8:∃ vs,H5 Dd=some (.lst vs)/\Reps X.K H5 (io++k5) vs ac) (h9:mCI W g c m (W.ds.drop i) ρ5 st5=some (rs,t2)) (h10:xs=ac++rs)
theorem zjc(hx:X.xe=FF)(hc:X.calm=true)(Z:CompS X scope N' nt fr)(hi:SI X tg iter mi)
   (hg:∀ C s0 H0 fp,SG (zdg X scope N' (zdh X scope C) C s0 H0 fp) tg g) (ht:∀ C s0 H0 fp,SC (zdg X scope N' (zdh X scope C) C s0 H0 fp) ifs c) (he:∀ C s0 H0 fp,SE (zdg X scope N' (zdh X scope C) C s0 H0 fp) elt m)
   (hs:∀ x,foldedSetIterable iter X.env x=pure x) {pins:List (Addr×Obj)} {s:Shared} {σ:L2.St} {H:Hp} {ρ:Rho} {st st':Sto} {io:List Addr} {d:D} {use:Option (Value->Sem Unit)} {Qf:Value->Shared->Prop} {ps:Pos}
   (I:Inv X pins σ H s) (E:EnvR X.K H io σ ρ) (S:StR X.K H io st) (e:ze4 mi nt fr g c m ρ st=some (d,st'))
   (kf:∀ Dd C H5 s6,CompEnd X pins σ H io d st' Dd C H5 s6->compPost (model X.prog X.w) X.A X.xe use Qf (.ref Dd) C (.ok .next) s6) :
   wpAny (model X.prog X.w) X.A (comprehension (.ListComp elt [⟨tg,iter,ifs,0⟩] scope pos) scope X.env ps (newList []) false (eval iter X.env) use) Qf X.xe s:=by
 obtain⟨⟨W,t1⟩,e1,e⟩:=zag e;obtain⟨⟨xs,t2⟩,e2,e⟩:=zag e;obtain⟨hfit,e⟩:=zav e;cases e;refine wpAny_comprehension_free (use:=use) rfl hs (zje fun n hn=>I.ok.has n (Z.out n hn)) Z.kind (fun x hx hl=>by
   obtain⟨n,k⟩:=x
   cases (show k=.local from hl)
   exact lookup_mem Z.nd hx) ?_
 refine thn (hi pins s σ H (fun J H1=>∃ ka,Ext io ka H H1/\StR X.K H1 (io++ka) t1/\ItOk X.K H1 (io++ka) W J) I ⟨ρ,st,io,W,t1,E,S,e1,fun J H' ka X' S' O'=>⟨ka,X',S',O'⟩⟩) fun v sa ha=>?_;refine thn ha ?_;rintro itv s2 ⟨it,fp,tn,J,H1,eit,I1,T,tn0,fpok,k1,X1,S1,IO⟩;subst eit;refine Aw ?_
 -- the new list
 have hD:H1 s2.heap.objs.size=none:=I1.hok.fresh (Af _);have I3:Inv X pins σ (upd H1 s2.heap.objs.size (.lst [])) { s2 with heap:=s2.heap.push { cls:=.type "list",data:=.seq ([]:List Value).toArray },toks:=s2.toks }:=I1.lnew .nil (AZ _);obtain⟨X2,S2a⟩:=zej (o:=.lst []) S1 hD;rw[Ap] at S2a;have S2:StR X.K (upd H1 s2.heap.objs.size (.lst [])) (io++k1) t1:=S2a;clear S2a;generalize hH3:upd H1 s2.heap.objs.size (.lst [])=H3 at I3 X2 S2;have H3D:H3 s2.heap.objs.size=some (.lst []):=by rw[<-hH3];exact zbv
 generalize hD':s2.heap.objs.size=Dd at hD I3 X2 S2 hH3 H3D ⊢;generalize hs3:({ s2 with heap:=s2.heap.push { cls:=.type "list",data:=.seq ([]:List Value).toArray },toks:=s2.toks }:Shared)=s3 at I3;have fplt:∀ b∈fp,b < s3.heap.objs.size:=fun b hb=>by
   obtain⟨o,ho,_⟩:=T.obj 0 _ tn0 b hb;rw[<-hs3];exact As (Ak ho) (by show _<=(s2.heap.push _).objs.size;rw[A4];exact BE _)
 have fpD:∀ b∈fp,b≠Dd:=fun b hb z=>by
   obtain⟨o,ho,_⟩:=T.obj 0 _ tn0 b hb;have:=Ak ho;rw[z,<-hD'] at this;exact AY _ this
 have fp3:∀ b∈fp,FpOk X pins H3 b:=fun b hb=>⟨by rw[<-hH3,zaO (fpD b hb)];exact (fpok b hb).1,(fpok b hb).2⟩
 have tn3:tn 0 s3.heap:=T.keep 0 _ _ tn0 fun b _ o ho=>by rw[<-hs3];exact Ad _ ho
 refine zm0 ?_;have I4:=zmD (fp:=fp) Z I3 fp3 fplt;have tn4:tn 0 (pushCells (s3.heap.push { cls:=.type "dict",data:=.dict #[] }) scope.names):=T.keep 0 _ _ tn3 fun b _ o ho=>DM _ _ _ _ (Ad _ ho);generalize hs4:({ s3 with heap:=pushCells (s3.heap.push { cls:=.type "dict",data:=.dict #[] }) scope.names }:Shared)=s4 at I4;have tn4:tn 0 s4.heap:=by rw[<-hs4];exact tn4
 show codeAny (model X.prog X.w) X.A (.compStart (.ListComp elt [⟨tg,iter,ifs,0⟩] scope pos) 0 (.ref it) (.ref Dd) (zdg X scope N' (zdh X scope s3.heap.objs.size) s3.heap.objs.size s3 H3 fp).env) _ _;generalize hY:zdg X scope N' (zdh X scope s3.heap.objs.size) s3.heap.objs.size s3 H3 fp=Y at I4;have yP:Y.prog=X.prog:=by rw[<-hY];rfl
 have yW:Y.w=X.w:=by rw[<-hY];rfl
 have yK:Y.K=X.K:=by rw[<-hY];rfl
 have yC:Y.calm=true:=by rw[<-hY];exact hc
 have yA:Y.A=X.A:=by rw[<-hY];rfl
 have yx:Y.xe=FF:=by rw[<-hY];rfl
 have hg:=hg s3.heap.objs.size s3 H3 fp;have ht:=ht s3.heap.objs.size s3 H3 fp;have he:=he s3.heap.objs.size s3 H3 fp;rw[hY] at hg ht he;have yex:Y.ex=fp:=by rw[<-hY];rfl
 have yfs:∀ b∈fp,b ∉ Y.fs:=fun b hb hs=>by
   rw[<-hY] at hs;have hs:b∈frs X.stack:=hs
   rcases List.mem_cons.mp (I3.stkSub b hs) with z | z
   . exact (fp3 b hb).2.1 z
   . exact (fp3 b hb).2.2.1 z
 have yL:Y.env.locals=s3.heap.objs.size:=by rw[<-hY];rfl
 -- the loop
 have hio:Dd ∉ io++k1:=fun hm=>by
   obtain⟨u,hu,_⟩:=S1.mem hm;rw[hD] at hu;cases hu
 have start:∀ {H':Hp} {sx:Shared} {σ':L2.St},Inv Y [] σ' H' sx->(∀ b∈fp,H' b=none)->∀ b∈fp,FpOk Y [] H' b:=fun {H' sx σ'} I' hn b hb=>by
   refine⟨hn b hb,fun z=>?_,yfs b hb,.inl (by rw[yex];exact hb),fun x cc e z=>?_,fun p hp=>absurd hp (by rw[<-hY];simp[zdg])⟩
   . rw[yL] at z;exact absurd (fplt b hb) (by rw[z];exact AY _)
   . exact (I'.ok.exf b (by rw[yex];exact hb)).2 x cc e z
 have loop:∀ sx:Shared,Inv Y [] (zkv σ nt fr) H3 sx->tn 0 sx.heap->codeAny (model X.prog X.w) X.A (.compLoop (.ListComp elt [⟨tg,iter,ifs,0⟩] scope pos) 0 (.ref it) (.ref Dd) Y.env) (compPost (model X.prog X.w) X.A X.xe use Qf (.ref Dd) s3.heap.objs.size) sx:=by
   intro sx Ix tnx;refine zhB (CompI X Y W tn fp (io++k1) H1 Dd g c m t2 xs) ?_ (W.ds.length - 0)
     ⟨0,zkv σ nt fr,H3,rho0 ρ nt fr,t1,[],[],xs,rfl,Ix,tnx,fun b hb=>(fp3 b hb).1,X2,by simp,S2.nil,by rw[Ap];exact zmT (by have:=(E.ext S X1).ext S1 X2;rw[Ap] at this;exact this),⟨[],H3D,rfl⟩,by rw[Fu];exact e2,rfl⟩
   rintro n s5 ⟨i,σ5,H5,ρ5,st5,k5,ac,rs,rfl,I5,tn5,fr5,X25,nk5,S5,E5,⟨vs,hvs,Rvs⟩,e5,exs⟩;have nD:∀ {kk:List Addr},Dd ∉ kk->Dd ∉ (io++k1)++kk:=fun {kk} hk hm=>(List.mem_append.mp hm).elim hio hk;have nF:∀ {kk jj:List Addr} {Ha Hb:Hp} {vv:List V},Ext jj kk Ha Hb->Ha Dd=some (.lst vv)->Dd ∉ kk:=fun {kk jj Ha Hb vv} Xx hv hm=>by
     have q:=Xx.fresh Dd hm;rw[hv] at q;cases q
   cases hd:W.ds[i]? with
   | none =>
     have hl:W.ds.length<=i:=List.getElem?_eq_none_iff.mp hd;rw[Fk hl] at e5;obtain⟨hw,e5⟩:=zav e5;cases e5;have:=T.done Y yP yW yK yC i [] s5 σ5 H5 FF I5 (start I5 fr5) tn5 (IO.stop' H5 k5 _ i hl X25 S5 (zc8 hw));rw[yA] at this;refine thn this ?_;rintro r s6 ⟨hr,I6⟩;subst hr;obtain⟨mm,hn,_⟩:=id I6.loc;rw[yL] at hn
     -- back in the frame
     have base:Un (frs X.stack) fp H3 H5 s3.heap s6.heap:=by
       have b:=I6.base;rw[<-hY] at b;exact b
     have os:s6.os=s3.os:=by
       have b:=I6.os;rw[<-hY] at b;exact b
     have free:H5 s3.heap.objs.size=none:=by
       have b:=I6.free;rw[yL] at b;exact b
     have hok:HOk X.prog X.w H5 s6.heap:=by
       have b:=I6.hok;rw[yP,yW] at b;exact b
     have I7:Inv X pins σ H5 s6:=Inv.call' (s':=s6) (ch:=fp) I3 os base hok I6.bare fun b hb=>⟨(fp3 b hb).2.2.2.1,(fp3 b hb).2.1,(fp3 b hb).2.2.2.2.1,(fp3 b hb).2.2.2.2.2⟩
     have np:Dd ∉ (io++k1)++k5:=nD nk5;rw[Ap] at exs;subst exs;have SA:=adopt S5 hvs np Rvs;have X6:Ext io (k1++k5) H H5:=X1.trans S1 X25;have lt3:X.env.locals < s3.heap.objs.size:=I3.lt;refine kf Dd s3.heap.objs.size H5 s6 ⟨I7,⟨mm,hn⟩,free,AQ lt3,I3.sz,fun x cc e z=>?_,fun p hp z=>?_,?_⟩
     . obtain⟨vv,q⟩:=I3.cell x cc e;have:=q.lt;rw[z] at this;exact AY _ this
     . have:=Ak (I3.pin p hp).1;rw[z] at this;exact AY _ this
     refine⟨(k1++k5)++[Dd],⟨fun b o hb nb=>X6.keep b o hb nb,fun b hb=>?_,X6.frz⟩,(by simpa using SA),⟨Dd,rfl,?_⟩⟩
     . rcases List.mem_append.mp hb with hb | hb
       . exact X6.fresh b hb
       . rw[List.mem_singleton.mp hb]
         cases q:H Dd with
         | none=>rfl
         | some o =>
           by_cases hb:Dd∈io
           . exact absurd (Bx _ hb) hio
           . have:=X1.keep Dd o q hb;rw[hD] at this;cases this
     . have:=getElem?_len ((io++k1)++k5) Dd;rw[<-S5.len];simpa using this
   | some dd =>
     have hl:i < W.ds.length:=(List.getElem?_eq_some_iff.mp hd).1;have hdr:W.ds.drop i=dd::W.ds.drop (i+1):=by
       rw[Ey hl,(List.getElem?_eq_some_iff.mp hd).2]
     rw[hdr] at e5;obtain⟨hw,e5⟩:=zav e5;obtain⟨⟨ρ6,t6⟩,e6,e5⟩:=zag e5;obtain⟨⟨b7,t7⟩,e7,e5⟩:=zag e5;obtain⟨go,yl⟩:=IO.go i dd H5 k5 st5 hd X25 S5 (zc8 hw);have hit:=T.item Y yP yW yK yC i [] s5 σ5 H5 FF I5 (start I5 fr5) tn5 go;rw[yA] at hit;refine thn hit ?_;rintro r s6 ⟨u,hr,h6⟩;subst hr;refine thn h6 ?_;rintro _ s7 ⟨x,H7,I7,r7,y7,tn7,fr7⟩;obtain⟨X7,S7,R7⟩:=yl x H7 y7;have X57:Ext (io++k1) k5 H1 H7:=(X25.trans S5 X7).app;have hv7:H7 Dd=some (.lst vs):=X7.keep _ _ hvs (nD nk5);have E7:EnvR X.K H7 ((io++k1)++k5) σ5 ρ5:=by
       have:=E5.ext S5 X7;rw[Ap] at this;exact this
     have R7v:Reps X.K H7 ((io++k1)++k5) vs ac:=by
       have:=Rvs.ext S5 X7;rw[Ap] at this;exact this
     have I7p:=I7.pinned (start I7 fr7) (T.obj _ _ tn7);rw[<-yA,<-yP,<-yW];rw[<-yx];refine thn (hg _ s7 σ5 H7 x u (fun σ8 H8=>∃ k8,Ext ((io++k1)++k5) k8 H7 H8/\StR X.K H8 (((io++k1)++k5)++k8) t6/\EnvR X.K H8 (((io++k1)++k5)++k8) σ8 ρ6) I7p r7 (by rw[yK];exact⟨dd,ρ5,st5,(io++k1)++k5,ρ6,t6,R7,E7,S7,e6,fun σ8 H8 k8 X8 S8 E8=>⟨k8,X8,S8,E8⟩⟩)) ?_;rintro _ s8 ⟨σ8,H8,I8,k8,X8,S8,E8⟩;have S8':StR X.K H8 ((io++k1)++(k5++k8)) t6:=by rw[<-Av];exact S8
     have E8':EnvR X.K H8 ((io++k1)++(k5++k8)) σ8 ρ6:=by rw[<-Av];exact E8
     have X38:Ext (io++k1) (k5++k8) H1 H8:=X57.trans S7 X8;have nk8:Dd ∉ k5++k8:=fun hm=>(List.mem_append.mp hm).elim nk5 (nF X8 hv7);refine thn (ht _ s8 σ8 H8 (fun b H9=>b=b7/\∃ k9,Ext ((io++k1)++(k5++k8)) k9 H8 H9/\StR X.K H9 (((io++k1)++(k5++k8))++k9) t7) I8 (by rw[yK];exact⟨ρ6,t6,(io++k1)++(k5++k8),b7,t7,E8',S8',e7,fun H9 k9 X9 S9=>⟨rfl,k9,X9,S9⟩⟩)) ?_;rintro ok s9 ⟨H9,I9,eb,k9,X9,S9⟩;subst eb;have X39:Ext (io++k1) ((k5++k8)++k9) H1 H9:=X38.trans S8' X9;have S9':StR X.K H9 ((io++k1)++((k5++k8)++k9)) t7:=by rw[<-Av];exact S9
     have E9:EnvR X.K H9 ((io++k1)++((k5++k8)++k9)) σ8 ρ6:=by
       have:=E8'.ext S8' X9;rw[Av] at this;exact this
     have hv8:H8 Dd=some (.lst vs):=X8.keep _ _ hv7 (nD nk5);have hv9:H9 Dd=some (.lst vs):=X9.keep _ _ hv8 (nD nk8);have nk9:Dd ∉ (k5++k8)++k9:=fun hm=>(List.mem_append.mp hm).elim nk8 (nF X9 hv8);have R8v:Reps X.K H8 ((io++k1)++(k5++k8)) vs ac:=by
       have:=R7v.ext S7 X8;rw[Av] at this;exact this
     have R9v:Reps X.K H9 ((io++k1)++((k5++k8)++k9)) vs ac:=by
       have:=R8v.ext S8' X9;rw[Av] at this;exact this
     have back:∀ {Hx:Hp} {sx:Shared} {σx:L2.St},Inv Y ([]++ziq fp s7.heap) σx Hx sx->Inv Y [] σx Hx sx/\tn (i+1) sx.heap/\∀ b∈fp,Hx b=none:=fun {Hx sx σx} Ix=>by
       refine⟨Ix.unpinned,T.keep _ _ _ tn7 fun b hb o e=>(Ix.pin (b,o) (A2 _ (A2 _ (zde hb e)))).1,fun b hb=>?_⟩;obtain⟨o,e,dn⟩:=T.obj _ _ tn7 b hb;exact (Ix.pin (b,o) (A2 _ (A2 _ (zde hb e)))).2.1
     cases ok with
     | false =>
       rw[if_neg (by decide)];have e5:mCI W g c m (W.ds.drop (i+1)) ρ6 t7=some (rs,t2):=e5;obtain⟨Ib,tnb,frb⟩:=back I9;exact⟨W.ds.length - (i+1),by omega,i+1,σ8,H9,ρ6,t7,(k5++k8)++k9,ac,rs,rfl,Ib,tnb,frb,X39,nk9,S9',E9,⟨vs,hv9,R9v⟩,e5,exs⟩
     | true =>
       rw[if_pos rfl];have e5:((m ρ6 t7).bind fun (x,s3)=>(mCI W g c m (W.ds.drop (i+1)) ρ6 s3).map fun (xs,s4)=>(x::xs,s4))=some (rs,t2):=e5;obtain⟨⟨x10,t10⟩,e10,e5⟩:=zag e5;obtain⟨⟨rs',t11⟩,e11,e5⟩:=zaj e5;cases e5;refine thn (he _ s9 σ8 H9 (fun v H10=>∃ k10,Ext ((io++k1)++((k5++k8)++k9)) k10 H9 H10/\StR X.K H10 (((io++k1)++((k5++k8)++k9))++k10) t10/\Rep X.K H10 (((io++k1)++((k5++k8)++k9))++k10) v x10) I9
         (by rw[yK];exact⟨ρ6,t7,(io++k1)++((k5++k8)++k9),x10,t10,E9,S9',e10,fun v H10 k10 X10 S10 R10=>⟨k10,X10,S10,R10⟩⟩)) fun u10 s10 ⟨v10,H10,I10,r10,k10,X10,S10,R10⟩=>?_
       have X310:Ext (io++k1) (((k5++k8)++k9)++k10) H1 H10:=X39.trans S9' X10;have nk10:Dd ∉ ((k5++k8)++k9)++k10:=fun hm=>(List.mem_append.mp hm).elim nk9 (nF X10 hv9);have S10':StR X.K H10 ((io++k1)++(((k5++k8)++k9)++k10)) t10:=by rw[<-Av];exact S10
       have hv10:H10 Dd=some (.lst vs):=X10.keep _ _ hv9 (nD nk9);have E10:EnvR X.K H10 ((io++k1)++(((k5++k8)++k9)++k10)) σ8 ρ6:=by
         have:=E9.ext S9' X10;rw[Av] at this;exact this
       have R10v:Reps X.K H10 ((io++k1)++(((k5++k8)++k9)++k10)) (vs++[v10]) (ac++[x10]):=by
         have a:=R9v.ext S9' X10;rw[Av] at a;rw[Av] at R10;exact a.append (Reps.cons R10 Reps.nil)
       have hlen:vs.length < sizeLine:=by
         rw[R9v.length];have:=of_decide_eq_true hfit;rw[exs] at this;simp at this;omega
       refine thn (zgO _ s10 σ8 H10 (.ref Dd) [v10] (.ref Dd) [u10] (fun _ H11=>H11=upd H10 Dd (.lst (vs++[v10]))) I10 rfl (.cons r10 .nil) ⟨Dd,vs,v10,rfl,rfl,hv10,hlen,rfl⟩) ?_;rintro _ s11 ⟨_,H11,I11,_,e11'⟩;subst e11';have nD10:=nD nk10
       -- the new list is written: nothing of the store
       have XU:∀ b o,H10 b=some o->b≠Dd->upd H10 Dd (.lst (vs++[v10])) b=some o:=fun b o hb hn=>by rw[zaO hn];exact hb
       have TU:Kp H10 (upd H10 Dd (.lst (vs++[v10]))):=⟨fun a ys hb=>XU a _ hb (zqx hb hv10 (by simp)),fun a o u hb=>XU a _ hb (zqx hb hv10 (by simp))⟩
       have S11:StR X.K (upd H10 Dd (.lst (vs++[v10]))) ((io++k1)++(((k5++k8)++k9)++k10)) t10:=by
         refine⟨S10'.len,S10'.nd,fun n a ob h1 h2=>?_⟩;have hne:a≠Dd:=fun z=>nD10 (by rw[<-z];exact Bc h1);have:=OR.mono (ka:=[]) TU (zaO hne) (S10'.ob n a ob h1 h2);rw[Ap] at this;exact this
       have mono0:∀ {v:V} {d:D},Rep X.K H10 ((io++k1)++(((k5++k8)++k9)++k10)) v d->Rep X.K (upd H10 Dd (.lst (vs++[v10]))) ((io++k1)++(((k5++k8)++k9)++k10)) v d:=fun {v d} h=>by
         have:=Rep.mono (ka:=[]) TU h;rw[Ap] at this;exact this
       have mono1:∀ {v:List V} {d:List D},Reps X.K H10 ((io++k1)++(((k5++k8)++k9)++k10)) v d->Reps X.K (upd H10 Dd (.lst (vs++[v10]))) ((io++k1)++(((k5++k8)++k9)++k10)) v d:=fun {v d} h=>by
         have:=Reps.mono (ka:=[]) TU h;rw[Ap] at this;exact this
       obtain⟨Ib,tnb,frb⟩:=back I11;refine⟨W.ds.length - (i+1),by omega,i+1,σ8,upd H10 Dd (.lst (vs++[v10])),ρ6,t10,((k5++k8)++k9)++k10,ac++[x10],rs',rfl,Ib,tnb,frb,⟨fun b o hb nb=>XU b o (X310.keep b o hb nb) (fun z=>by rw[z,hD] at hb;cases hb),X310.fresh,fun b o u hb=>XU b _ (X310.frz b o u hb) (fun z=>by rw[z,hD] at hb;cases hb)⟩,nk10,S11,⟨E10.len,fun j dj hj=>?_⟩,⟨_,zbv,mono1 R10v⟩,e11,by rw[exs,Av];rfl⟩;obtain⟨v,q,r⟩:=E10.at_ j dj hj;exact⟨v,q,mono0 r⟩
 have l4:=loop s4 I4 tn4;exact codeAny_compStart_list l4 (T.self _ 0 _ _ _ tn4 l4)
theorem zdT(hx:X.xe=FF)(hc:X.calm=true)(Z:CompS X scope N' nt fr)(hi:SI X tg iter mi)
   (hg:∀ C s0 H0 fp,SG (zdg X scope N' (zdh X scope C) C s0 H0 fp) tg g) (ht:∀ C s0 H0 fp,SC (zdg X scope N' (zdh X scope C) C s0 H0 fp) ifs c) (he:∀ C s0 H0 fp,SE (zdg X scope N' (zdh X scope C) C s0 H0 fp) elt m)
   (hs:∀ x,foldedSetIterable iter X.env x=pure x:=by intro _;rfl):SE X (.ListComp elt [⟨tg,iter,ifs,0⟩] scope pos) (ze4 mi nt fr g c m):=by
 rintro pins s σ H Q I ⟨ρ,st,io,d,st',E,S,e,k⟩;rw[eval_ListComp];refine zjc (use:=none) hx hc Z hi hg ht he hs I E S e fun Dd C H5 s6 R=>?_;obtain⟨m5,hn⟩:=R.ns;refine⟨m5,hn,fun h' hsb=>?_⟩;obtain⟨ka,X5,S5,R5⟩:=R.val;exact⟨.ref Dd,H5,R.inv.turned (t':=s6.toks) (it:=C) (fun b o hb q=>(hsb.2 b hb).trans q) R.free R.ne (.inr R.young) R.cells R.pin,rfl,k _ _ ka X5 S5 R5⟩
theorem zhe{i:Nat}{x:Str}{pos' spos:Pos}(hx:X.xe=FF)(hc:X.calm=true)(Z:CompS X scope N' nt fr)(hi:SI X tg iter mi)
   (hg:∀ C s0 H0 fp,SG (zdg X scope N' (zdh X scope C) C s0 H0 fp) tg g) (ht:∀ C s0 H0 fp,SC (zdg X scope N' (zdh X scope C) C s0 H0 fp) ifs c) (he:∀ C s0 H0 fp,SE (zdg X scope N' (zdh X scope C) C s0 H0 fp) elt m)
   (hN:X.N.Nodup) (hi':X.N[i]?=some x) (hl:X.env.scope.names.lookup x=some .local)
   (hsw:swapsWith (.ListComp elt [⟨tg,iter,ifs,0⟩] scope pos) (some (.Name x pos')) spos.line X.env=pure true:=by rfl)
   (hs:∀ x,foldedSetIterable iter X.env x=pure x:=by intro _;rfl):SS X (.Assign [.Name x pos'] (.ListComp elt [⟨tg,iter,ifs,0⟩] scope pos) spos) (mAsg (ze4 mi nt fr g c m) (gNm i)):=by
 intro pins s σ H N I h;obtain⟨ρ,st,io,f,st',E,S,e,w⟩:=zc9.mp h;obtain⟨⟨d,s1⟩,e1,e⟩:=zag e;obtain⟨⟨ρ',s2⟩,e2,e⟩:=zaj e;cases e;cases e2;rw[exec_Assign_Name_used _ _ _ _ hsw];refine Aa (Dy (Aa ?_));show wpAny _ X.A (do let _ <-comprehension (.ListComp elt [⟨tg,iter,ifs,0⟩] scope pos) scope X.env _ (newList []) false (eval iter X.env) (some (assign (.Name x pos') X.env))) _ _ s;refine Aa (thn (zjc (use:=some (assign (.Name x pos') X.env)) (Qf:=fun _ s'=>SP X pins N .next s') hx hc Z hi hg ht he hs I E S e1 fun Dd C H5 s6 R=>?_) fun _ s' hq=>Ab (Ab hq));obtain⟨m5,hn⟩:=R.ns;obtain⟨ka,X5,S5,R5⟩:=R.val;show wpAny _ _ (assign (.Name x pos') X.env (.ref Dd)) _ _ _;refine Gk (zgA (v:=.ref Dd) R.inv hN hi' (.inl hl) rfl (?_) (.inr hl));rintro s7 I7 ⟨a,sb,ha⟩;have hCa:C≠a:=fun z=>by
   rcases ha with q | q
   . exact R.ne (z.trans q)
   . exact R.cells _ _ q z.symm
 refine⟨m5,hn.sameBut sb hCa,fun h' hsb=>?_⟩;refine⟨_,H5,I7.turned (t':=s7.toks) (it:=C) (fun b o hb q=>(hsb.2 b hb).trans q) R.free R.ne (.inr R.young) R.cells R.pin,?_⟩;exact w _ _ ka X5 S5 ((E.ext S X5).set i R5)
end
section
variable {X:Cx} {e a b c:Expr} {es:List Expr} {pos:Pos} {m ma mb mc:ME} {mm:MA}
variable {K:Ae} {H:Hp} {io ka:List Addr} {st st':Sto}
noncomputable def addD:G2
 | .int i,.int j,st=>some (.int (i+j),st)
 | .str a,.str b,st=>if fits (a.length+b.length)=true then some (.str (a++b),st) else none
 | .tup a,.tup b,st=>if (!a.isEmpty&&fits (a.length+b.length))=true then some (.tup (a++b),st) else none
 | .ref a,.ref b,st=>match st[a]?,st[b]? with
   | some (.lst x),some (.lst y)=>if fits (x.length+y.length)=true then some (.ref st.length,st++[.lst (x++y)]) else none
   | _,_=>none
 | _,_,_=>none
theorem za7:OpM X (binaryOp .Add) addD:=by
 rintro pins s σ H x y v u Q I rx ry ⟨dx,dy,st,io,d,st',Rx,Ry,S,e,k⟩
 cases dx with
 | int i =>
   cases dy with
   | int j=>cases e;exact zqu pins s σ H x y v u Q I rx ry ⟨i,j,Rx,Ry,k.now S rfl⟩
   | _=>cases e
 | str i =>
   cases dy with
   | str j =>
     obtain⟨hf,e⟩:=zav e
     cases e;exact ziw pins s σ H x y v u Q I rx ry ⟨i,j,Rx,Ry,of_decide_eq_true hf,k.now S rfl⟩
   | _=>cases e
 | tup i =>
   cases dy with
   | tup j =>
     obtain⟨hf,e⟩:=zav e;cases e;rw[An] at hf;obtain⟨p,xs,ex,hp,r1⟩:=Rx;obtain⟨q,ys,ey,hq,r2⟩:=Ry;refine zos pins s σ H x y v u Q I rx ry ⟨p,q,xs,ys,ex,ey,SqT.of hp,SqT.of hq,fun z=>?_,by rw[r1.length,r2.length];exact of_decide_eq_true hf.2,fun z=>?_,fun z p hp=>k.tup S (r1.append r2) hp⟩
     . have:=r1.length;rw[z] at this;have:i=[]:=B1 this.symm;rw[this] at hf;exact absurd hf.1 (by decide)
     . have:=r2.length;rw[z] at this;have:j=[]:=B1 this.symm;subst this;rw[Ap] at k;exact k.now S ⟨p,xs,rfl,hp,r1⟩
   | _=>cases e
 | ref i =>
   cases dy with
   | ref j =>
     unfold addD at e;dsimp only at e
     split at e
     . rename_i l1 l2 e1 e2;obtain⟨hf,e⟩:=zav e;cases e;obtain⟨p,ex,hp⟩:=Rx;obtain⟨q,ey,hq⟩:=Ry;obtain⟨xs,h1,r1⟩:=S.ob i p _ hp e1;obtain⟨ys,h2,r2⟩:=S.ob j q _ hq e2;exact zqt pins s σ H x y v u Q I rx ry ⟨p,q,xs,ys,ex,ey,h1,h2,by rw[r1.length,r2.length];exact of_decide_eq_true hf,fun p hp=>k.lst S (r1.append r2) hp⟩
     . cases e
   | _=>cases e
 | _=>cases e
noncomputable def intD(c:Int->Int->Bool)(g:Int->Int->D):G2
 | .int i,.int j,st=>if c i j=true then some (g i j,st) else none
 | _,_,_=>none
theorem zfr{f:Value->Value->Sem Value}{C:Int->Int->Prop}{c:Int->Int->Bool}{g:Int->Int->Int}(h:OpR X f (rI C fun i j=>.int (g i j)))(hc:∀ i j,c i j=true->C i j):OpM X f (intD c fun i j=>.int (g i j)):=by
 rintro pins s σ H x y v u Q I rx ry ⟨dx,dy,st,io,d,st',Rx,Ry,S,e,k⟩
 cases dx with
 | int i =>
   cases dy with
   | int j =>
     obtain⟨hf,e⟩:=zav e
     cases e;exact h pins s σ H x y v u Q I rx ry ⟨i,j,Rx,Ry,hc i j hf,k.now S rfl⟩
   | _=>cases e
 | _=>cases e
noncomputable def tt2:Int->Int->Bool:=fun _ _=>true
noncomputable def subD:G2:=intD tt2 fun i j=>.int (i - j)
theorem zdc:OpM X (binaryOp .Sub) subD:=zfr (C:=fun _ _=>True) (fun pins s σ H x y v u Q I rx ry ⟨i,j,h1,h2,_,q⟩=>zql pins s σ H x y v u Q I rx ry ⟨i,j,h1,h2,q⟩) fun _ _ _=>trivial
noncomputable def in64(i:Int):Bool:=decide (-(2 ^ 64) < i)&&decide (i < 2 ^ 64)
noncomputable def mulD:G2:=intD (fun i j=>in64 i || in64 j) fun i j=>.int (i*j)
theorem zom:OpM X (binaryOp .Mult) mulD:=zfr zqm fun i j h=>by
 rw[C3] at h;unfold in64 at h;rw[An,An] at h
 rcases h with h | h
 . exact .inl ⟨of_decide_eq_true h.1,of_decide_eq_true h.2⟩
 . exact .inr ⟨of_decide_eq_true h.1,of_decide_eq_true h.2⟩
noncomputable def modD:G2:=intD (fun _ j=>decide (0 < j)) fun i j=>.int (i % j)
theorem zfq:OpM X (binaryOp .Mod) modD:=zfr zqn fun i j h=>of_decide_eq_true h
noncomputable def cmpD(g:Int->Int->Bool):G2
 | .int i,.int j,st=>some (.bl (g i j),st)
 | _,_,_=>none
theorem zgM{f:Value->Value->Sem Value}{g:Int->Int->Bool}(h:OpR X f (rI0 fun i j=>.bl (g i j))):OpM X f (cmpD g):=by
 rintro pins s σ H x y v u Q I rx ry ⟨dx,dy,st,io,d,st',Rx,Ry,S,e,k⟩
 cases dx with
 | int i =>
   cases dy with
   | int j=>cases e;exact h pins s σ H x y v u Q I rx ry ⟨i,j,Rx,Ry,k.now S rfl⟩
   | _=>cases e
 | _=>cases e
noncomputable def ltD:G2:=cmpD fun i j=>decide (i < j)
noncomputable def leD:G2:=cmpD fun i j=>decide (i<=j)
noncomputable def gtD:G2:=cmpD fun i j=>decide (j < i)
noncomputable def geD:G2:=cmpD fun i j=>decide (j<=i)
theorem zj8:OpM X (compareOp .Lt) ltD:=zgM zrO
theorem zj9:OpM X (compareOp .LtE) leD:=zgM zrP
theorem ziv:OpM X (compareOp .Gt) gtD:=zgM zrQ
theorem zqr:OpM X (compareOp .GtE) geD:=zgM zrR
noncomputable def zoP:D->Bool
 | .non=>true
 | _=>false
noncomputable def isND:G2:=fun x y st=>match y with
 | .non=>some (.bl (zoP x),st)
 | _=>none
theorem znY{v:V}{d:D}(h:Rep K H io v d):decide (v=.non)=zoP d:=by
 cases d with
 | non=>cases (show v=.non from h);rfl
 | bl b=>cases (show v=.bl b from h);rfl
 | int b=>cases (show v=.int b from h);rfl
 | str b=>cases (show v=.str b from h);rfl
 | tup b=>obtain⟨a,xs,rfl,_⟩:=h;rfl
 | ref b=>obtain⟨a,rfl,_⟩:=h;rfl
 | kl b=>obtain⟨a,xs,rfl,_⟩:=h;rfl
theorem zop:OpM X (compareOp .Is) isND:=by
 rintro pins s σ H x y v u Q I rx ry ⟨dx,dy,st,io,d,st',Rx,Ry,S,e,k⟩
 cases dy with
 | non =>
   cases e;refine zqq pins s σ H x y v u Q I rx ry ⟨Ry,?_⟩;rw[znY Rx];exact k.now S rfl
 | _=>cases e
noncomputable def negD:D->Sto->Option (D×Sto)
 | .int i,st=>some (.int (-i),st)
 | _,_=>none
noncomputable def mNeg(m:ME):ME:=fun ρ st=>(m ρ st).bind fun (x,s)=>negD x s
theorem zdz(ha:SE X a ma):SE X (.UnaryOp .USub a pos) (mNeg ma):=PE.imp (zrJ zpq ha) <| by
 rintro σ H Q ⟨ρ,st,io,d,st',E,S,e,k⟩;obtain⟨⟨x,s1⟩,e1,e⟩:=zag e
 cases x with
 | int i =>
   cases e;exact⟨ρ,st,io,.int i,_,E,S,e1,fun v H1 k1 X1 S1 R1=>⟨i,R1,k _ H1 k1 X1 S1 rfl⟩⟩
 | _=>cases e
noncomputable def idxD:G2
 | .tup ds,.int i,st=>(atI ds i).map fun d=>(d,st)
 | .ref n,.int i,st=>(zca st n).bind fun ds=>(atI ds i).map fun d=>(d,st)
 | .kl ds,.int i,st=>(atI ds i).map fun d=>(d,st)
 | .str z,.int i,st=>if fits z.length=true then (atI z.cps.toList i).map fun c=>(.str ⟨#[c]⟩,st) else none
 | _,_,_=>none
theorem zjo{xs:List V}{ds:List D}{i:Int}{d:D}(r:Reps K H io xs ds)(h:atI ds i=some d):∃ v,atI xs i=some v/\Rep K H io v d:=by
 unfold atI at h ⊢;rw[r.length];obtain⟨j,hj,h⟩:=zag h;obtain⟨v,hv,rv⟩:=r.get h;exact⟨v,by rw[hj];exact hv,rv⟩
theorem ix_M:IxR X (r2M X.K idxD):=by
 rintro value slice pins s σ H x y v u Q I rx ry ⟨dx,dy,st,io,d,st',Rx,Ry,S,e,k⟩ hs
 cases dy with
 | int i =>
   cases dx with
   | tup ds =>
     obtain⟨d',e1,e⟩:=zaj e;cases e;obtain⟨p,xs,ex,hp,r⟩:=Rx;obtain⟨w,hw,rw'⟩:=zjo r e1;exact zb8 value slice pins s σ H x y v u Q I rx ry ⟨p,xs,i,w,ex,Ry,SqT.of hp,hw,k.now S rw'⟩ hs
   | ref n =>
     obtain⟨ds,e0,e⟩:=zag e;obtain⟨d',e1,e⟩:=zaj e;cases e;obtain⟨p,ex,hp⟩:=Rx;obtain⟨xs,hx,r⟩:=zbf S hp e0;obtain⟨w,hw,rw'⟩:=zjo r e1;exact zk7 value slice pins s σ H x y v u Q I rx ry ⟨p,xs,i,w,ex,Ry,hx,hw,k.now S rw'⟩ hs
   | kl ds =>
     obtain⟨d',e1,e⟩:=zaj e;cases e;obtain⟨p,xs,ex,hx,r⟩:=Rx;obtain⟨w,hw,rw'⟩:=zjo r e1;exact zk7 value slice pins s σ H x y v u Q I rx ry ⟨p,xs,i,w,ex,Ry,hx.sq,hw,k.now S rw'⟩ hs
   | str z =>
     obtain⟨hf,e⟩:=zav e;obtain⟨d',e1,e⟩:=zaj e;cases e;exact zkl value slice pins s σ H x y v u Q I rx ry ⟨z,i,d',Rx,Ry,of_decide_eq_true hf,e1,k.now S rfl⟩ hs
   | _=>cases e
 | _=>cases dx <;> cases e
theorem zrD(ha:SE X a ma)(hb:SE X b mb)(hs:zjr b:=by intro _ _;rfl):SE X (.Subscript a b pos) (mBin idxD ma mb):=PE.imp (zrL ix_M ha hb hs) fun _ _ _ h=>zdL h
noncomputable def lenD:GN
 | [.tup ds],st=>some (.int ds.length,st)
 | [.ref n],st=>(zca st n).map fun ds=>(.int ds.length,st)
 | [.kl ds],st=>some (.int ds.length,st)
 | [.str z],st=>if fits z.length=true then some (.int z.length,st) else none
 | _,_=>none
theorem zbC:zd8 X (.builtin "len") lenD:=by
 rintro pins s σ H xs us Q I r ⟨ds,st,io,d,st',R,S,e,k⟩
 cases ds with
 | nil=>cases e
 | cons d0 r0 =>
 cases r0 with
 | cons d1 r1=>cases d0 <;> cases e
 | nil =>
 cases d0 with
 | tup ts =>
   cases e;obtain⟨v,rfl,p,ys,rfl,hp,r1⟩:=R.one;refine zc4 pins s σ H _ us Q I r ⟨p,ys,rfl,.inr (SqT.of hp),?_⟩;rw[r1.length];exact k.now S rfl
 | ref n =>
   obtain⟨ts,e0,e⟩:=zaj e;cases e;obtain⟨v,rfl,p,rfl,hp⟩:=R.one;obtain⟨ys,hx,r1⟩:=zbf S hp e0;refine zc4 pins s σ H _ us Q I r ⟨p,ys,rfl,.inl hx,?_⟩;rw[r1.length];exact k.now S rfl
 | kl ts =>
   cases e;obtain⟨v,rfl,p,ys,rfl,hx,r1⟩:=R.one;refine zc4 pins s σ H _ us Q I r ⟨p,ys,rfl,.inl hx.sq,?_⟩;rw[r1.length];exact k.now S rfl
 | str z =>
   obtain⟨hf,e⟩:=zav e;cases e;obtain⟨v,rfl,rfl⟩:=R.one;exact zgs pins s σ H _ us Q I r ⟨z,rfl,of_decide_eq_true hf,k.now S rfl⟩
 | _=>cases e
noncomputable def intC:GN
 | [.int i],st=>some (.int i,st)
 | [.bl b],st=>some (.int (if b then 1 else 0),st)
 | _,_=>none
theorem zfa:zd8 X (.type "int") intC:=by
 rintro pins s σ H xs us Q I r ⟨ds,st,io,d,st',R,S,e,k⟩
 cases ds with
 | nil=>cases e
 | cons d0 r0 =>
 cases r0 with
 | cons d1 r1=>cases d0 <;> cases e
 | nil =>
 cases d0 with
 | int i =>
   cases e;obtain⟨v,rfl,rfl⟩:=R.one;exact zgY pins s σ H _ us Q I r (.inl ⟨i,rfl,k.now S rfl⟩)
 | bl b =>
   cases e;obtain⟨v,rfl,rfl⟩:=R.one;exact zgY pins s σ H _ us Q I r (.inr ⟨b,rfl,k.now S rfl⟩)
 | _=>cases e
noncomputable def absC:GN
 | [.int i],st=>some (.int (if i < 0 then -i else i),st)
 | _,_=>none
theorem zkG:zd8 X (.builtin "abs") absC:=by
 rintro pins s σ H xs us Q I r ⟨ds,st,io,d,st',R,S,e,k⟩
 cases ds with
 | nil=>cases e
 | cons d0 r0 =>
 cases r0 with
 | cons d1 r1=>cases d0 <;> cases e
 | nil =>
 cases d0 with
 | int i =>
   cases e;obtain⟨v,rfl,rfl⟩:=R.one;exact zm4 pins s σ H _ us Q I r ⟨i,rfl,k.now S rfl⟩
 | _=>cases e
noncomputable def zoD:GN
 | [.int i,.int j],st=>some (.int (if j > i then j else i),st)
 | _,_=>none
noncomputable def zoB:GN
 | [.int i,.int j],st=>some (.int (if j < i then j else i),st)
 | _,_=>none
theorem zkE(hc:X.calm=true):zd8 X (.builtin "max") zoD:=by
 rintro pins s σ H xs us Q I r ⟨ds,st,io,d,st',R,S,e,k⟩;unfold zoD at e
 split at e
 . rename_i i j;cases e;obtain⟨v,u,rfl,rfl,rfl⟩:=R.two;exact zkF hc pins s σ H _ us Q I r ⟨i,j,rfl,k.now S rfl⟩
 . cases e
theorem zkC(hc:X.calm=true):zd8 X (.builtin "min") zoB:=by
 rintro pins s σ H xs us Q I r ⟨ds,st,io,d,st',R,S,e,k⟩;unfold zoB at e
 split at e
 . rename_i i j;cases e;obtain⟨v,u,rfl,rfl,rfl⟩:=R.two;exact zkD hc pins s σ H _ us Q I r ⟨i,j,rfl,k.now S rfl⟩
 . cases e
noncomputable def zqC:GN
 | [.tup ds],st=>if fits ds.length=true then some (.ref st.length,st++[.lst ds]) else none
 | [.ref n],st=>(zca st n).bind fun ds=>if fits ds.length=true then some (.ref st.length,st++[.lst ds]) else none
 | [.kl ds],st=>if fits ds.length=true then some (.ref st.length,st++[.lst ds]) else none
 | _,_=>none
theorem zjk:zd8 X (.type "list") zqC:=by
 rintro pins s σ H xs us Q I r ⟨ds,st,io,d,st',R,S,e,k⟩
 cases ds with
 | nil=>cases e
 | cons d0 r0 =>
 cases r0 with
 | cons d1 r1=>cases d0 <;> cases e
 | nil =>
 cases d0 with
 | tup ts =>
   obtain⟨hf,e⟩:=zav e;cases e;obtain⟨v,rfl,p,ys,rfl,hp,r1⟩:=R.one;exact zc3 pins s σ H _ us Q I r ⟨p,ys,rfl,.inr (SqT.of hp),fun l hl=>k.lst S r1 hl⟩
 | ref n =>
   obtain⟨ts,e0,e⟩:=zag e;obtain⟨hf,e⟩:=zav e;cases e;obtain⟨v,rfl,p,rfl,hp⟩:=R.one;obtain⟨ys,hx,r1⟩:=zbf S hp e0;exact zc3 pins s σ H _ us Q I r ⟨p,ys,rfl,.inl hx,fun l hl=>k.lst S r1 hl⟩
 | kl ts =>
   obtain⟨hf,e⟩:=zav e;cases e;obtain⟨v,rfl,p,ys,rfl,hx,r1⟩:=R.one;exact zc3 pins s σ H _ us Q I r ⟨p,ys,rfl,.inl hx.sq,fun l hl=>k.lst S r1 hl⟩
 | _=>cases e
noncomputable def zeu:GN
 | [.tup ds],st=>some (.tup ds,st)
 | [.ref n],st=>(zca st n).map fun ds=>(.tup ds,st)
 | _,_=>none
theorem zcO:zd8 X (.type "tuple") zeu:=by
 rintro pins s σ H xs us Q I r ⟨ds,st,io,d,st',R,S,e,k⟩
 cases ds with
 | nil=>cases e
 | cons d0 r0 =>
 cases r0 with
 | cons d1 r1=>cases d0 <;> cases e
 | nil =>
 cases d0 with
 | tup ts =>
   cases e;obtain⟨v,rfl,p,ys,rfl,hp,r1⟩:=R.one;exact zdw pins s σ H _ us Q I r ⟨p,ys,rfl,.inr ⟨SqT.of hp,k.now S ⟨p,ys,rfl,hp,r1⟩⟩⟩
 | ref n =>
   obtain⟨ts,e0,e⟩:=zaj e;cases e;obtain⟨v,rfl,p,rfl,hp⟩:=R.one;obtain⟨ys,hx,r1⟩:=zbf S hp e0;exact zdw pins s σ H _ us Q I r ⟨p,ys,rfl,.inl ⟨hx,fun l hl=>k.tup S r1 hl⟩⟩
 | _=>cases e
end
noncomputable def toPs(f:D->Option PyData):List D->Option (List PyData)
 | []=>some []
 | d::ds=>(f d).bind fun p=>(toPs f ds).map fun ps=>p::ps
noncomputable def toP:Nat->Sto->D->Option PyData
 | 0,_,_=>none
 | n+1,st,d=>match d with
   | .non=>some .none
   | .bl b=>some (.bool b)
   | .int i=>some (.int i)
   | .str x=>if Bi x=true then some (.str x) else none
   | .tup ds=>(toPs (toP n st) ds).map .tuple
   | .ref k=>(zca st k).bind fun ds=>(toPs (toP n st) ds).map .list
   | .kl _=>none
theorem zdr{n:Nat}:∀ {ps:List PyData},(∀ p∈ps,p.depth<=n)->E3 ps<=n
 | [],_=>by rw[E3];exact AZ _
 | p::ps,h=>by
   rw[E3];exact Nat.max_le.mpr ⟨h p Aj,zdr fun q hq=>h q (Ah _ hq)⟩
theorem zd3{ps:List PyData}:(∀ p∈ps,p.canLay0=true)->CL ps=true:=by
 induction ps with
 | nil=>intro _;simp only[CL]
 | cons p ps ih =>
   intro h;simp only[CL];rw[h p Aj,ih fun q hq=>h q (Ah _ hq)];rfl
theorem zfV{f:D->Option PyData}:∀ {ds:List D} {ps:List PyData},toPs f ds=some ps->∀ p∈ps,∃ d,f d=some p
 | [],ps,h,p,hp=>by cases h;exact absurd hp (by simp)
 | d::ds,ps,h,p,hp=>by
   obtain⟨q,e1,h⟩:=zag h;obtain⟨qs,e2,h⟩:=zaj h;subst h
   rcases List.mem_cons.mp hp with rfl | hp
   . exact⟨d,e1⟩
   . exact zfV e2 p hp
theorem zfe:∀ {n:Nat} {st:Sto} {d:D} {p:PyData},toP n st d=some p->p.canLay0=true/\p.depth<=n
 | 0,_,_,_,h=>by cases h
 | n+1,st,d,p,h=>by
   cases d with
   | non=>cases h;exact⟨by simp only[B7],by simp only[C9];exact AZ _⟩
   | bl b=>cases h;exact⟨by simp only[B7],by simp only[C9];exact AZ _⟩
   | int b=>cases h;exact⟨by simp only[B7],by simp only[C9];exact AZ _⟩
   | str b =>
     obtain⟨hs,h⟩:=zav h
     cases h;exact⟨by simp only[B7];exact hs,by simp only[C9];exact AZ _⟩
   | tup ds =>
     obtain⟨ps,e,h⟩:=zaj h;subst h;have q:∀ p∈ps,p.canLay0=true/\p.depth<=n:=fun p hp=>let ⟨d,hd⟩:=zfV e p hp;zfe hd
     exact⟨by simp only[B7];exact zd3 fun p hp=>(q p hp).1,by simp only[C9];exact DF (zdr fun p hp=>(q p hp).2)⟩
   | kl ds=>cases h
   | ref k =>
     obtain⟨ds,e0,h⟩:=zag h;obtain⟨ps,e,h⟩:=zaj h;subst h;have q:∀ p∈ps,p.canLay0=true/\p.depth<=n:=fun p hp=>let ⟨d,hd⟩:=zfV e p hp;zfe hd
     exact⟨by simp only[B7];exact zd3 fun p hp=>(q p hp).1,by simp only[C9];exact DF (zdr fun p hp=>(q p hp).2)⟩
section
variable {X:Cx} {a b:Expr} {pos:Pos} {ma mb:ME} {pins:List (Addr×Obj)} {σ:L2.St} {H:Hp} {s:Shared} {io:List Addr} {st:Sto}
theorem zdm{f:D->Option PyData}(hf:∀ {v:V} {u:Value} {d:D} {p:PyData},Rep X.K H io v d->RelV v u->f d=some p->∃ as,Reads s.heap u p as) :
   ∀ {xs:List V} {us:List Value} {ds:List D} {ps:List PyData},Reps X.K H io xs ds->Vals xs us->toPs f ds=some ps->∃ as,ReadsAll s.heap us ps as
 | _,_,[],ps,h,r,e=>by
   cases (show _=[] from h)
   cases r;cases e;exact⟨_,.nil⟩
 | _,_,d::ds,ps,h,r,e=>by
   obtain⟨y,ys,rfl,h1,h2⟩:=h
   cases r with
   | cons r1 r2 =>
     obtain⟨q,e1,e⟩:=zag e;obtain⟨qs,e2,e⟩:=zaj e;subst e;obtain⟨as,ra⟩:=hf h1 r1 e1;obtain⟨bs,rb⟩:=zdm hf h2 r2 e2;exact⟨_,.cons ra rb⟩
theorem zcH(I:Inv X pins σ H s)(S:StR X.K H io st):∀ {n:Nat} {v:V} {u:Value} {d:D} {p:PyData},Rep X.K H io v d->RelV v u->toP n st d=some p->∃ as,Reads s.heap u p as
 | 0,_,_,_,_,_,_,h=>by cases h
 | n+1,v,u,d,p,h,r,e=>by
   cases d with
   | non=>cases e;cases (show v=.non from h);cases r;exact⟨_,.none⟩
   | bl b=>cases e;cases (show v=.bl b from h);cases r;exact⟨_,.bool _⟩
   | int b=>cases e;cases (show v=.int b from h);obtain⟨t,rfl⟩:=r;exact⟨_,.int _ _⟩
   | str b =>
     obtain⟨hs,e⟩:=zav e
     cases e;cases (show v=.str b from h);obtain⟨t,rfl⟩:=r;exact⟨_,.str _ _⟩
   | tup ds =>
     obtain⟨ps,e',q⟩:=zaj e;subst q;obtain⟨a,xs,rfl,ha,rs⟩:=h;cases r;obtain⟨its,rv,⟨o,ho,hc,k,hd⟩,hz⟩:=I.tuple (SqT.of ha);obtain⟨as,ra⟩:=zdm (f:=toP n st) (fun h r e=>zcH I S h r e) rs rv e';exact⟨_,.tuple ho hc hd (by simpa using ra)⟩
   | kl ds=>cases e
   | ref k =>
     obtain⟨ds,e0,e⟩:=zag e;obtain⟨ps,e',q⟩:=zaj e;subst q;obtain⟨a,rfl,ha⟩:=h;cases r;obtain⟨xs,hx,rs⟩:=zbf S ha e0;obtain⟨its,rv,⟨o,k,ho,hc,_,hd⟩,hz⟩:=I.list hx;obtain⟨as,ra⟩:=zdm (f:=toP n st) (fun h r e=>zcH I S h r e) rs rv e';exact⟨_,.list ho hc hd (by simpa using ra)⟩
noncomputable def eqD:G2:=fun x y st=>(toP 100 st x).bind fun p=>(toP 100 st y).map fun q=>(.bl (BM p q),st)
noncomputable def neD:G2:=fun x y st=>(toP 100 st x).bind fun p=>(toP 100 st y).map fun q=>(.bl !PyData.eqv p q,st)
theorem zea(hu:X.A.units+100 < cLine):OpM X (compareOp .Eq) eqD:=by
 rintro pins s σ H x y v u Q I rx ry ⟨dx,dy,st,io,d,st',Rx,Ry,S,e,k⟩;obtain⟨p,e1,e⟩:=zag e;obtain⟨q,e2,e⟩:=zaj e;cases e;obtain⟨as,ra⟩:=zcH I S Rx rx e1;obtain⟨bs,rb⟩:=zcH I S Ry ry e2;have h1:=zfe e1;have h2:=zfe e2;exact PySem.SeqAt.compareEq_reads ra rb h1.1 h2.1 (Cd (DY (AR (GY _ _) h1.2) _) hu) ⟨.bl _,H,I,rfl,k.now S rfl⟩
theorem ziu(hu:X.A.units+100 < cLine):OpM X (compareOp .NotEq) neD:=by
 rintro pins s σ H x y v u Q I rx ry ⟨dx,dy,st,io,d,st',Rx,Ry,S,e,k⟩;obtain⟨p,e1,e⟩:=zag e;obtain⟨q,e2,e⟩:=zaj e;cases e;obtain⟨as,ra⟩:=zcH I S Rx rx e1;obtain⟨bs,rb⟩:=zcH I S Ry ry e2;have h1:=zfe e1;have h2:=zfe e2;exact PySem.SeqAt.compareNe_reads ra rb h1.1 h2.1 (Cd (DY (AR (GY _ _) h1.2) _) hu) ⟨.bl _,H,I,rfl,k.now S rfl⟩
theorem zbG{k:Nat}{A:Around}(hr:Room k A):A.units+100 < cLine:=by have:=hr.un;omega
end
section
variable {X:Cx} {pins:List (Addr×Obj)} {σ:L2.St} {H:Hp} {s:Shared} {h':Heap}
theorem Inv.turnNew{t':Nat}{fp:List Addr}{p:Addr}{o:HO}(I:Inv X pins σ H s)(hf:∀ b∈fp,FpOk X pins H b)(k:∀ b ob,b ∉ fp->s.heap.get? b=some ob->h'.get? b=some ob)(hp:s.heap.objs.size<=p)
   (hfp:∀ b∈fp,∀ ob,s.heap.get? b=some ob->∃ ob',h'.get? b=some ob') (new:zdi X.prog X.w (upd H p o) h' p o):Inv X pins σ (upd H p o) { s with heap:=h',toks:=t' }:=by
 have hpn:=I.hok.fresh hp;have nlt:∀ b ob,s.heap.get? b=some ob->b≠p:=fun b ob e=>AB (As (Ak e) hp);refine Inv.step (ch:=fp) (g':=s.gens) (d':=s.drawn) I (fun b hb=>⟨(hf b hb).2.2.2.1,(hf b hb).2.1,(hf b hb).2.2.2.2.1,(hf b hb).2.2.2.2.2⟩) (fun b ob _ _ hc e _=>k b ob hc e) (fun b ob _ _ hc e _=>⟨ob.slots,k b ob hc e⟩)
   (fun b ob hc e n=>by rw[zaO (nlt b ob e)];exact n) (fun b ob hc e=>⟨ob,k b ob hc e⟩) (fun b xs e=>by rw[zaO (zaF e hpn)];exact e) (fun b ob u e=>by rw[zaO (zaF e hpn)];exact e)
   (fun b ps e=>⟨#[],by rw[zaO (zaF e hpn),e];simp⟩) (fun m hm=>?_) (fun b u e=>?_) I.bare
 . obtain⟨ob,es,ep,ho,r⟩:=hm;exact⟨ob,es,ep,k _ ob (fun z=>(hf _ z).2.1 rfl) ho,r⟩
 . by_cases hb:b=p
   . subst hb;rw[zbv] at e;cases e;exact new
   . rw[zaO hb] at e;refine (I.hok b u e).stay (fun c v hc q=>k c v (fun z=>?_) q) (fun c q=>by rw[zaO (zaF q hpn)];exact q) fun c xs q=>by rw[zaO (zaF q hpn)];exact q
     have hz:=(hf c z).1
     rcases hc with rfl | hc
     . rw[hz] at e;cases e
     . rw[hz] at hc;cases hc
theorem Inv.turnAll{t':Nat}{fp:List Addr}(I:Inv X pins σ H s)(hf:∀ b∈fp,FpOk X pins H b)(k:∀ b ob,b ∉ fp->s.heap.get? b=some ob->h'.get? b=some ob):Inv X pins σ H { s with heap:=h',toks:=t' }:=by
 refine Inv.step (ch:=fp) (g':=s.gens) (d':=s.drawn) I (fun b hb=>⟨(hf b hb).2.2.2.1,(hf b hb).2.1,(hf b hb).2.2.2.2.1,(hf b hb).2.2.2.2.2⟩) (fun b ob _ _ hc e _=>k b ob hc e) (fun b ob _ _ hc e _=>⟨ob.slots,k b ob hc e⟩)
   (fun b ob hc e n=>n) (fun b ob hc e=>⟨ob,k b ob hc e⟩) (fun b xs e=>e) (fun b ob u e=>e)
   (fun b ps e=>⟨#[],by rw[e];simp⟩) (fun m hm=>?_) (fun b u e=>?_) I.bare
 . obtain⟨ob,es,ep,ho,r⟩:=hm;exact⟨ob,es,ep,k _ ob (fun z=>(hf _ z).2.1 rfl) ho,r⟩
 . refine (I.hok b u e).stay (fun c v hc q=>k c v (fun z=>?_) q) (fun c q=>q) fun c xs q=>q;have hz:=(hf c z).1
   rcases hc with rfl | hc
   . rw[hz] at e;cases e
   . rw[hz] at hc;cases hc
end
section
variable {κ:Type} [DecidableEq κ] {K:Ae} {H:Hp} {io:List Addr}
noncomputable def valD(kvs:List (κ×D))(k:κ):Option D:=(kvs.find? fun kv=>decide (kv.1=k)).map (·.2)
noncomputable def putD(kvs:List (κ×D))(k:κ)(d:D):List (κ×D) :=
 if (kvs.any fun kv=>decide (kv.1=k))=true then kvs.map (fun kv=>if kv.1=k then (kv.1,d) else kv) else kvs++[(k,d)]
theorem KR.any{ps:List (κ×V)}{kvs:List (κ×D)}(r:KR κ K H io ps kvs)(k:κ):(ps.any fun kv=>decide (kv.1=k))=(kvs.any fun kv=>decide (kv.1=k)):=by
 induction r with
 | nil=>rfl
 | cons z t ih=>rw[CV,CV,ih,z.1]
theorem KR.length{ps:List (κ×V)}{kvs:List (κ×D)}(r:KR κ K H io ps kvs):ps.length=kvs.length:=BR r
theorem KR.val{ps:List (κ×V)}{kvs:List (κ×D)}(r:KR κ K H io ps kvs)(k:κ):(valD kvs k=none/\valV ps k=none)\/∃ d v,valD kvs k=some d/\valV ps k=some v/\Rep K H io v d:=by
 induction r with
 | nil=>exact .inl ⟨rfl,rfl⟩
 | @cons p q l1 l2 z t ih =>
   unfold valD valV at *;rw[BV,BV,z.1]
   by_cases e:q.1=k
   . rw[decide_eq_true e];exact .inr ⟨q.2,p.2,rfl,rfl,z.2⟩
   . rw[decide_eq_false e];exact ih
theorem KR.append{ps qs:List (κ×V)}{kvs lvs:List (κ×D)}(r:KR κ K H io ps kvs)(r':KR κ K H io qs lvs):KR κ K H io (ps++qs) (kvs++lvs):=by
 induction r with
 | nil=>exact r'
 | cons z t ih=>exact .cons z ih
theorem KR.put{ps:List (κ×V)}{kvs:List (κ×D)}(r:KR κ K H io ps kvs)(k:κ){v:V}{d:D}(rv:Rep K H io v d):KR κ K H io (putK ps k v) (putD kvs k d):=by
 unfold putK putD;rw[KR.any r k]
 by_cases e:(kvs.any fun kv=>decide (kv.1=k))=true
 . rw[if_pos e,if_pos e]
   induction r with
   | nil=>exact .nil
   | @cons p q l1 l2 z t ih =>
     rw[Ar,Ar];have hrest:KR κ K H io (l1.map fun kv=>if kv.1=k then (kv.1,v) else kv) (l2.map fun kv=>if kv.1=k then (kv.1,d) else kv):=by
       clear ih e
       induction t with
       | nil=>exact .nil
       | @cons p q l1 l2 z t ih =>
         rw[Ar,Ar];refine .cons ?_ ih;rw[z.1]
         by_cases e:q.1=k
         . rw[if_pos e,if_pos e];exact⟨rfl,rv⟩
         . rw[if_neg e,if_neg e];exact z
     refine .cons ?_ hrest;rw[z.1]
     by_cases e:q.1=k
     . rw[if_pos e,if_pos e];exact⟨rfl,rv⟩
     . rw[if_neg e,if_neg e];exact z
 . rw[if_neg e,if_neg e];exact KR.append r (.cons ⟨rfl,rv⟩ .nil)
end
noncomputable def keyOf:D->Option Key
 | .int i=>some (.inl i)
 | .str x=>some (.inr x)
 | _=>none
noncomputable def keysOf:List D->Option (List Key)
 | []=>some []
 | d::ds=>(keyOf d).bind fun k=>(keysOf ds).map fun ks=>k::ks
section
variable {X:Cx} {K:Ae} {H:Hp} {io:List Addr} {st st':Sto} {a b e:Expr} {es:List Expr} {ma mb m:ME} {mm:MA} {pos:Pos}
theorem ze7{v:V}{d:D}{k:Key}(h:Rep K H io v d)(e:keyOf d=some k):v=kV k:=by
 cases d with
 | int i=>cases e;exact h
 | str i=>cases e;exact h
 | _=>cases e
theorem zdZ:∀ {xs:List V} {ds:List D} {ks:List Key},Reps K H io xs ds->keysOf ds=some ks->xs=ks.map kV
 | _,[],ks,h,e=>by cases e;exact h
 | _,d::ds,ks,h,e=>by
   obtain⟨y,ys,rfl,h1,h2⟩:=h;obtain⟨k,e1,e⟩:=zag e;obtain⟨ks',e2,e⟩:=zaj e;subst e;rw[ze7 h1 e1,zdZ h2 e2];rfl
noncomputable def look(st:Sto)(n:Nat)(k:D):Option (Option D):=match st[n]? with
 | some (.dk kvs)=>(keyOf k).map fun q=>valD kvs q
 | some (.dt kvs)=>match k with
   | .tup ds=>(keysOf ds).map fun q=>valD kvs q
   | _=>none
 | _=>none
theorem ziM{n:Nat}{p:Addr}{k:D}{y:V}{r:Option D}(S:StR K H io st)(hp:io[n]?=some p)(ry:Rep K H io y k)(h:look st n k=some r):∃ o,DGet H p y o/\((r=none/\o=none)\/∃ d v,r=some d/\o=some v/\Rep K H io v d):=by
 unfold look at h
 split at h
 . rename_i kvs e;obtain⟨q,e1,h⟩:=zaj h;subst h;obtain⟨ps,hH,r⟩:=S.ob n p _ hp e;have ey:=ze7 ry e1;subst ey;refine⟨_,DGet.k hH,?_⟩
   rcases KR.val r q with ⟨h1,h2⟩ | ⟨d,v,h1,h2,h3⟩
   . exact .inl ⟨h1,h2⟩
   . exact .inr ⟨d,v,h1,h2,h3⟩
 . rename_i kvs e
   split at h
   . rename_i ds;obtain⟨q,e1,h⟩:=zaj h;subst h;obtain⟨ps,hH,r⟩:=S.ob n p _ hp e;obtain⟨b,xs,rfl,hb,rs⟩:=ry;have ex:=zdZ rs e1;subst ex;refine⟨_,DGet.t hH hb,?_⟩
     rcases KR.val r q with ⟨h1,h2⟩ | ⟨d,v,h1,h2,h3⟩
     . exact .inl ⟨h1,h2⟩
     . exact .inr ⟨d,v,h1,h2,h3⟩
   . cases h
 . cases h
noncomputable def zrd(md mk:ME):ME:=fun ρ st=>(md ρ st).bind fun (d,s1)=>(mk ρ s1).bind fun (k,s2)=>match d with
 | .ref n=>(look s2 n k).bind fun r=>r.map fun v=>(v,s2)
 | _=>none
theorem znT{o i:Expr}{md mk:ME}(hu:X.A.units+1 < cLine)(ho:SE X o md)(hi:SE X i mk)(hs:NoSl i:=by intro _ _;rfl):SE X (.Subscript o i pos) (zrd md mk):=PE.imp (zog hu ho hi hs) <| by
 rintro σ H Q ⟨ρ,st,io,d,st',E,S,e,k⟩;obtain⟨⟨x,s1⟩,e1,e⟩:=zag e;obtain⟨⟨y,s2⟩,e2,e⟩:=zag e
 cases x with
 | ref n =>
   obtain⟨r,e3,e⟩:=zag e;obtain⟨w,e4,e⟩:=zaj e;cases e;subst e4;refine⟨ρ,st,io,_,s1,E,S,e1,fun v1 H1 k1 X1 S1 R1=>⟨ρ,s1,io++k1,y,_,E.ext S X1,S1,e2,fun v2 H2 k2 X2 S2 R2=>?_⟩⟩;obtain⟨p,rfl,hp⟩:=R1;obtain⟨o,g,⟨z,_⟩ | ⟨d',v,hd,hv,rv⟩⟩:=ziM S2 (zch hp) R2 e3
   . cases z
   . cases hd;subst hv;exact⟨p,v,rfl,g,((k.on S1 X1).on S2 X2).now S2 rv⟩
 | _=>cases e
noncomputable def mDIn(neg:Bool)(mk md:ME):ME:=fun ρ st=>(mk ρ st).bind fun (k,s1)=>(md ρ s1).bind fun (d,s2)=>match d with
 | .ref n=>(look s2 n k).map fun r=>(.bl (if neg then !r.isSome else r.isSome),s2)
 | _=>none
theorem zks{neg:Bool}{mk md:ME}{σ:L2.St}{Q:VK}(h:tE K (mDIn neg mk md) σ H Q):tE K mk σ H fun y H1=>tE K md σ H1 fun x H2=>∃ a o,x=.ref a/\DGet H2 a y o/\Q (.bl (if neg then !o.isSome else o.isSome)) H2:=by
 obtain⟨ρ,st,io,d,st',E,S,e,k⟩:=h;obtain⟨⟨y,s1⟩,e1,e⟩:=zag e;obtain⟨⟨x,s2⟩,e2,e⟩:=zag e
 cases x with
 | ref n =>
   obtain⟨r,e3,e⟩:=zaj e;cases e;refine⟨ρ,st,io,y,s1,E,S,e1,fun v1 H1 k1 X1 S1 R1=>⟨ρ,s1,io++k1,_,_,E.ext S X1,S1,e2,fun v2 H2 k2 X2 S2 R2=>?_⟩⟩;obtain⟨p,rfl,hp⟩:=R2;obtain⟨o,g,z⟩:=ziM S2 hp (R1.ext S1 X2) e3;have:o.isSome=r.isSome:=by
     rcases z with ⟨a,b⟩ | ⟨d',v,a,b,_⟩
     . rw[a,b];rfl
     . rw[a,b];rfl
   exact⟨p,o,rfl,g,by rw[this];exact ((k.on S1 X1).on S2 X2).now S2 rfl⟩
 | _=>cases e
end
section
variable {X:Cx} {K:Ae} {H:Hp} {io:List Addr} {st st':Sto} {a b c e:Expr} {es:List Expr} {ma mb mc m:ME} {mm:MA} {pos:Pos}
theorem zjW{o i:Expr}{md mk:ME}(hu:X.A.units+1 < cLine)(hi:SE X i mk)(ho:SE X o md)(hm:behindInMarks .NotIn o=false:=by rfl):SB X (.Compare i [.NotIn] [o] pos) (mTst (mDIn true mk md)) :=
 PT.imp (zpV (zj5 hu hi ho) hm) fun σ H Q h=>zks (zew h)
noncomputable def dput(st:Sto)(n:Nat)(k d:D):Option Sto:=match st[n]? with
 | some (.dk kvs)=>(keyOf k).bind fun q=>if decide (kvs.length < sizeLine)=true then some (st.set n (.dk (putD kvs q d))) else none
 | some (.dt kvs)=>match k with
   | .tup ds=>(keysOf ds).bind fun q=>if decide (kvs.length < sizeLine)=true then some (st.set n (.dt (putD kvs q d))) else none
   | _=>none
 | _=>none
theorem zmW{n:Nat}{p:Addr}{k d:D}{y v:V}(S:StR K H io st)(hp:io[n]?=some p)(ry:Rep K H io y k)(rv:Rep K H io v d)(h:dput st n k d=some st'):∃ H',DPut H p y v H'/\Ext io [] H H'/\StR K H' (io++[]) st':=by
 unfold dput at h
 split at h
 . rename_i kvs e;obtain⟨q,e1,h⟩:=zag h;obtain⟨hl,h⟩:=zav h;cases h;obtain⟨ps,hH,r⟩:=S.ob n p _ hp e;have ey:=ze7 ry e1;subst ey;have:=KR.length r;refine⟨_,DPut.k hH (by rw[this];exact of_decide_eq_true hl),?_⟩;exact zim S hp e (fun o u z=>by rw[hH] at z;cases z) fun H' T e'=>⟨_,e',KR.put (KR.mono T r) q (Rep.mono T rv)⟩
 . rename_i kvs e
   split at h
   . rename_i ds;obtain⟨q,e1,h⟩:=zag h;obtain⟨hl,h⟩:=zav h;cases h;obtain⟨ps,hH,r⟩:=S.ob n p _ hp e;obtain⟨b,xs,rfl,hb,rs⟩:=ry;have ex:=zdZ rs e1;subst ex;have:=KR.length r;refine⟨_,DPut.t hH hb (by rw[this];exact of_decide_eq_true hl),?_⟩;exact zim S hp e (fun o u z=>by rw[hH] at z;cases z) fun H' T e'=>⟨_,e',KR.put (KR.mono T r) q (Rep.mono T rv)⟩
   . cases h
 . cases h
noncomputable def zpl(md mk mv:ME):MS:=fun ρ st=>(mv ρ st).bind fun (v,s1)=>(md ρ s1).bind fun (d,s2)=>(mk ρ s2).bind fun (k,s3)=>match d with
 | .ref n=>(dput s3 n k v).map fun s4=>(.nx ρ,s4)
 | _=>none
theorem znB{o i value:Expr}{md mk mv:ME}{pos':Pos}(hu:X.A.units+1 < cLine)(ho:SE X o md)(hi:SE X i mk)(hv:SE X value mv)(hs:swapsWith value (some (.Subscript o i pos')) pos.line X.env=pure false:=by rfl) :
   SS X (.Assign [.Subscript o i pos'] value pos) (zpl md mk mv):=PS.imp (zn7 hu ho hi hv hs) fun N σ H h=>by
 obtain⟨ρ,st,io,f,st',E,S,e,w⟩:=zc9.mp h;obtain⟨⟨v,s1⟩,e1,e⟩:=zag e;obtain⟨⟨d,s2⟩,e2,e⟩:=zag e;obtain⟨⟨k,s3⟩,e3,e⟩:=zag e
 cases d with
 | ref n =>
   obtain⟨s4,e4,e⟩:=zaj e;cases e;refine⟨ρ,st,io,v,s1,E,S,e1,fun v1 H1 k1 X1 S1 R1=>⟨ρ,s1,io++k1,_,s2,E.ext S X1,S1,e2,fun v2 H2 k2 X2 S2 R2=>⟨ρ,s2,(io++k1)++k2,k,s3,(E.ext S X1).ext S1 X2,S2,e3,fun v3 H3 k3 X3 S3 R3=>?_⟩⟩⟩;obtain⟨p,rfl,hp⟩:=R2;obtain⟨H4,g,X4,S4⟩:=zmW S3 (zch hp) R3 ((R1.ext S1 X2).ext S2 X3) e4;refine⟨p,H4,rfl,g,?_⟩;have w3:∀ σ' H' kb,Ext (((io++k1)++k2)++k3) kb H3 H'->_:=zft (zft (zft w X1 S1) X2 S2) X3 S3;exact w3 σ H4 [] X4 S4 ((((E.ext S X1).ext S1 X2).ext S2 X3).ext S3 X4)
 | _=>cases e
noncomputable def zhJ(t:Bool):ME:=fun _ st=>some (.ref st.length,st++[if t then .dt [] else .dk []])
theorem zie:SE X (.Dict [] [] pos) (zhJ false):=PE.imp zmd <| by
 rintro σ H Q ⟨ρ,st,io,d,st',E,S,e,k⟩;cases e;intro p hp;obtain⟨E',S'⟩:=zmk (o:=.dK []) (ob:=.dk []) S hp fun H' T e=>⟨[],e,.nil⟩
 exact k _ _ [p] E' S' ⟨p,rfl,by rw[<-S.len];exact getElem?_len io p⟩
theorem zlT:SE X (.Dict [] [] pos) (zhJ true):=PE.imp zmc <| by
 rintro σ H Q ⟨ρ,st,io,d,st',E,S,e,k⟩;cases e;intro p hp;obtain⟨E',S'⟩:=zmk (o:=.dT []) (ob:=.dt []) S hp fun H' T e=>⟨[],e,.nil⟩
 exact k _ _ [p] E' S' ⟨p,rfl,by rw[<-S.len];exact getElem?_len io p⟩
inductive mtM (K:Ae) (g:D->List D->Sto->Option (D×Sto)) (x:V) (xs:List V) (H:Hp) (Q:VK):Prop
 | mk (dx:D) (ds:List D) (st:Sto) (io:List Addr) (d:D) (st':Sto) (h0:Rep K H io x dx) (h1:Reps K H io xs ds) (h2:StR K H io st) (h3:g dx ds st=some (d,st')) (h4:Bh K io H st' d Q)
noncomputable def zcW:D->List D->Sto->Option (D×Sto):=fun x xs st=>match x,xs with
 | .ref n,[d]=>match st[n]? with
   | some (.lst ds)=>if decide (ds.length < sizeLine)=true then some (.non,st.set n (.lst (ds++[d]))) else none
   | _=>none
 | _,_=>none
theorem append_in{n:Nat}{d:D}{ds:List D}{xs:List D}(h:zcW (.ref n) xs st=some (d,st')):∃ ds x,st[n]?=some (.lst ds)/\xs=[x]/\ds.length < sizeLine/\d=.non/\st'=st.set n (.lst (ds++[x])):=by
 unfold zcW at h
 match xs,h with
 | [x],h =>
   dsimp only at h
   split at h
   . rename_i ds e;obtain⟨hl,h⟩:=zav h;cases h;exact⟨ds,x,e,rfl,of_decide_eq_true hl,rfl,rfl⟩
   . cases h
 | [],h=>cases h
 | _::_::_,h=>cases h
theorem ziG:MtR X "list.append" (mtM X.K zcW):=by
 rintro pins s σ H x xs v us Q I rx rs ⟨dx,ds,st,io,d,st',Rx,Rs,S,e,k⟩
 cases dx with
 | ref n =>
   obtain⟨l,y,e1,rfl,hl,rfl,rfl⟩:=append_in (ds:=[]) e;obtain⟨p,rfl,hp⟩:=Rx;obtain⟨w,rfl,Rw⟩:=Rs.one;obtain⟨ys,hH,r⟩:=S.ob n p _ hp e1;refine zgO pins s σ H _ _ v us Q I rx rs ⟨p,ys,w,rfl,rfl,hH,by rw[r.length];exact hl,?_⟩;obtain⟨E',S'⟩:=zim (o:=.lst (ys++[w])) (ob:=.lst (l++[y])) S hp e1 (fun o u z=>by rw[hH] at z;cases z) fun H' T e'=>⟨_,e',(Reps.mono T r).append (Reps.cons (Rep.mono T Rw) Reps.nil)⟩
   exact k _ _ [] E' S' rfl
 | _=>unfold zcW at e;cases ds <;> cases e
theorem zls{n:Nat}{v:V}{l:List D}(R:Rep K H io v (.ref n))(S:StR K H io st)(h:zca st n=some l):tyV K "list" v H:=by
 obtain⟨p,rfl,hp⟩:=R;obtain⟨xs,hx,_⟩:=zbf S hp h;exact .inl ⟨rfl,xs,hx⟩
noncomputable def mApp(m:ME)(mm:MA):ME:=fun ρ st=>(m ρ st).bind fun (x,s1)=>match x with
 | .ref n=>(zca s1 n).bind fun _=>(mm ρ s1).bind fun (xs,s2)=>zcW x xs s2
 | _=>none
theorem zeE{o:Expr}{apos cpos:Pos}(ho:SE X o m)(ha:SA X (e::es) mm)
   (hbase:attributeBase o "append" X.env (eval o X.env)=eval o X.env:=by rfl)
   (hfew:((backTo cpos (starEach (e::es) X.env)).all (fun x=>!x.1)&&(backToKw cpos (keywordEach [] X.env)).all (fun x=>x.1.isSome)
    &&decide ((e::es).length+([]:List Keyword).length+(if ([]:List Keyword).isEmpty then 0 else 1) < 30))=true:=by rfl)
   (hline:(apos.endLine==cpos.line)=true:=by rfl) (hs:starEach (e::es) X.env=(false,eval e X.env)::starEach es X.env:=by rfl) (hplain:(backTo cpos (starEach es X.env)).any (·.1)=false:=by rfl) :
   SE X (.Call (.Attribute o "append" apos) (e::es) [] cpos) (mApp m mm) :=
 PE.imp (zq7 PySem.F.plainAttrs_list PySem.F.slot_list_append PySem.F.type_list_append ziG ho ha hbase hfew hline hs hplain) <| by
   rintro σ H Q ⟨ρ,st,io,d,st',E,S,e,k⟩;obtain⟨⟨x,s1⟩,e1,e⟩:=zag e
   cases x with
   | ref n =>
     obtain⟨l,e0,e⟩:=zag e;obtain⟨⟨xs,s2⟩,e2,e⟩:=zag e;refine⟨ρ,st,io,_,s1,E,S,e1,fun v1 H1 k1 X1 S1 R1=>⟨zls R1 S1 e0,ρ,s1,io++k1,xs,s2,E.ext S X1,S1,e2,fun vs H2 k2 X2 S2 R2=>?_⟩⟩;exact⟨_,xs,s2,(io++k1)++k2,d,st',R1.ext S1 X2,R2,S2,e,(k.on S1 X1).on S2 X2⟩
   | _=>cases e
noncomputable abbrev MO:=Rho->Sto->Option (Option Int×Sto)
inductive tOm (K:Ae) (m:MO) (σ:L2.St) (H:Hp) (Q:Option Int->Hp->Prop):Prop
 | mk (ρ:Rho) (st:Sto) (io:List Addr) (d:Option Int) (st':Sto) (h1:EnvR K H io σ ρ) (h2:StR K H io st) (h3:m ρ st=some (d,st')) (h4:∀ H' ka,Ext io ka H H'->StR K H' (io++ka) st'->Q d H')
def SO(X:Cx)(e:Option Expr)(m:MO):Prop:=PO X e (tOm X.K m)
noncomputable def zcn:MO:=fun _ st=>some (none,st)
noncomputable def zcm(m:ME):MO:=fun ρ st=>(m ρ st).bind fun (d,s)=>match d with
 | .int i=>some (some i,s)
 | _=>none
theorem zcl:SO X none zcn:=fun pins s σ H Q I ⟨ρ,st,io,d,st',E,S,e,k⟩=>zn8 pins s σ H Q I (by cases e;exact k H [] Ext.refl S.nil)
theorem zck(h:SE X e m):SO X (some e) (zcm m):=fun pins s σ H Q I ⟨ρ,st,io,d,st',E,S,e,k⟩=>zgH h pins s σ H Q I (by
 obtain⟨⟨x,s1⟩,e1,e⟩:=zag e
 cases x with
 | int i =>
   cases e;exact⟨ρ,st,io,_,_,E,S,e1,fun v1 H1 k1 X1 S1 R1=>⟨i,R1,k H1 k1 X1 S1⟩⟩
 | _=>cases e)
noncomputable def cutD(xs:List D)(lo hi:Option Int):List D:=(xs.drop (HT.sIx xs.length 0 lo)).take (HT.sIx xs.length xs.length hi - HT.sIx xs.length 0 lo)
theorem zjb{xs:List V}{ds:List D}(r:Reps K H io xs ds)(lo hi:Option Int):Reps K H io (cutV xs lo hi) (cutD ds lo hi):=by
 unfold cutV cutD;rw[r.length];exact (r.drop _).take _
noncomputable def slD:D->Option Int->Option Int->Sto->Option (D×Sto):=fun x lo hi st=>match x with
 | .tup ds=>if (decide (HT.sIx ds.length 0 lo=0)&&decide (HT.sIx ds.length ds.length hi=ds.length))=true then none else some (.tup (cutD ds lo hi),st)
 | .ref n=>(zca st n).map fun ds=>(.ref st.length,st++[.lst (cutD ds lo hi)])
 | _=>none
noncomputable def mSl(m:ME)(l h:MO):ME:=fun ρ st=>(m ρ st).bind fun (x,s1)=>(l ρ s1).bind fun (lo,s2)=>(h ρ s2).bind fun (hi,s3)=>slD x lo hi s3
noncomputable def rSlM(K:Ae):V->Option Int->Option Int->Hp->VK->Prop:=fun x lo hi H Q=>rSlT K x lo hi H Q\/rSlL K x lo hi H Q
theorem sl_M:SlR X (rSlM X.K):=by
 intro pins s σ H x v vl vu lo hi sl Q I rx hs pl pu h
 rcases h with h | h
 . exact zpC pins s σ H x v vl vu lo hi sl Q I rx hs pl pu h
 . exact zkS pins s σ H x v vl vu lo hi sl Q I rx hs pl pu h
theorem zlS{lo hi:Option Expr}{ml mh:MO}{p2:Pos}(he:SE X e m)(hl:SO X lo ml)(hu:SO X hi mh):SE X (.Subscript e (.Slice lo hi none p2) pos) (mSl m ml mh):=PE.imp (zeP sl_M he hl hu) <| by
 rintro σ H Q ⟨ρ,st,io,d,st',E,S,e,k⟩;obtain⟨⟨x,s1⟩,e1,e⟩:=zag e;obtain⟨⟨lo',s2⟩,e2,e⟩:=zag e;obtain⟨⟨hi',s3⟩,e3,e⟩:=zag e;refine⟨ρ,st,io,x,s1,E,S,e1,fun v1 H1 k1 X1 S1 R1=>⟨ρ,s1,io++k1,lo',s2,E.ext S X1,S1,e2,fun H2 k2 X2 S2=>⟨ρ,s2,(io++k1)++k2,hi',s3,(E.ext S X1).ext S1 X2,S2,e3,fun H3 k3 X3 S3=>?_⟩⟩⟩;have R3:=(R1.ext S1 X2).ext S2 X3;have k':=((k.on S1 X1).on S2 X2).on S3 X3
 cases x with
 | tup ds =>
   have e:(if (decide (HT.sIx ds.length 0 lo'=0)&&decide (HT.sIx ds.length ds.length hi'=ds.length))=true then none else some (D.tup (cutD ds lo' hi'),s3))=some (d,st'):=e
   by_cases hw:(decide (HT.sIx ds.length 0 lo'=0)&&decide (HT.sIx ds.length ds.length hi'=ds.length))=true
   . rw[if_pos hw] at e;cases e
   . rw[if_neg hw] at e;cases e;obtain⟨p,xs,rfl,hp,r⟩:=R3;refine .inl ⟨p,xs,rfl,SqT.of hp,fun z=>hw ?_,fun q hq=>k'.tup S3 (zjb r _ _) hq⟩;rw[r.length] at z;rw[An];exact⟨decide_eq_true z.1,decide_eq_true z.2⟩
 | ref n =>
   obtain⟨ds,e0,e⟩:=zaj e;cases e;obtain⟨p,rfl,hp⟩:=R3;obtain⟨xs,hx,r⟩:=zbf S3 hp e0;exact .inr ⟨p,xs,rfl,hx,fun q hq=>k'.lst S3 (zjb r _ _) hq⟩
 | _=>cases e
noncomputable def znk:G2:=intD (fun _ j=>decide (0 < j)&&decide (j < 2 ^ 128)) fun i j=>.int (i / j)
theorem zga:OpM X (binaryOp .FloorDiv) znk:=zfr (C:=fun i j=>0 < j/\j < 2 ^ 128) (opI fun i j _ _ _ _ _ hc q=>by
 refine floordiv_int (by omega) (by rw[Int.fdiv_eq_ediv_of_nonneg i (by omega)];exact q) (.inl (PyProof.noPylong_of_log2 ?_));have h0:j.natAbs≠0:=by omega
 have h1:j.natAbs < 2 ^ 128:=by omega
 exact F9 ((Nat.log2_lt h0).mpr h1) (by decide)) fun i j h=>by
   rw[An] at h;exact⟨of_decide_eq_true h.1,of_decide_eq_true h.2⟩
noncomputable def powB:G2:=intD (fun i j=>decide (0<=j)&&decide ((FX i:Int)*j<=2 ^ 27)) fun i j=>.int (i ^ j.toNat)
theorem zgL:OpM X (binaryOp .Pow) powB:=zfr (C:=fun i j=>0<=j/\(FX i:Int)*j<=2 ^ 27) (opI fun i j _ _ _ _ _ hc q=>pow_int hc.1 hc.2 q) fun i j h=>by
   rw[An] at h;exact⟨of_decide_eq_true h.1,of_decide_eq_true h.2⟩
end
noncomputable def subT(t T:String):Bool:=t==T || (t=="bool"&&T=="int")
noncomputable def sorts:List String:=["NoneType","bool","int","str","tuple","list","dict"]
noncomputable def kinds:List String:=["bool","int","str","tuple","list","dict"]
theorem zoK{K:Ae}{t T:String}(ht:t∈sorts)(hT:T∈kinds):Hi K (.type t) (.type T)=some (subT t T):=by
 have all:∀ t∈sorts,∀ T∈kinds,Hi K (.type t) (.type T)=some (subT t T):=by
   intro t ht T hT;simp only[sorts,kinds,AN,AH,or_false] at ht hT
   rcases ht with rfl | rfl | rfl | rfl | rfl | rfl | rfl <;> rcases hT with rfl | rfl | rfl | rfl | rfl | rfl <;> rfl
 exact all t ht T hT
noncomputable def tyName(st:Sto):D->Option String
 | .non=>some "NoneType"
 | .bl _=>some "bool"
 | .int _=>some "int"
 | .str _=>some "str"
 | .tup _=>some "tuple"
 | .ref n=>match st[n]? with
   | some (.lst _)=>some "list"
   | some (.fz _)=>some "list"
   | some (.dk _)=>some "dict"
   | some (.dt _)=>some "dict"
   | _=>none
 | .kl _=>none
section
variable {X:Cx} {K:Ae} {H:Hp} {io:List Addr} {st st':Sto} {a:Expr} {m:ME} {pos:Pos} {pins:List (Addr×Obj)} {σ:L2.St} {s:Shared}
theorem ziP{xs:List V}{p:Addr}(I:Inv X pins σ H s)(h:SqL X.K H p xs):FU p "list" s.heap:=by
 obtain⟨its,_,⟨o,n,e,c,_,_⟩,_⟩:=I.list h;exact⟨o,e,c⟩
theorem zke{ps:List (Key×V)}{p:Addr}(I:Inv X pins σ H s)(h:H p=some (.dK ps)):FU p "dict" s.heap:=by
 obtain⟨_,_,_,_,o,_,_,e,ex,_⟩:=I.hok p _ h;exact⟨o,e,ex.1⟩
theorem zkd{ps:List (List Key×V)}{p:Addr}(I:Inv X pins σ H s)(h:H p=some (.dT ps)):FU p "dict" s.heap:=by
 obtain⟨_,_,_,_,o,_,_,e,ex,_⟩:=I.hok p _ h;exact⟨o,e,ex.1⟩
theorem zoM{d:D}{v:V}{u:Value}{t T:String}{Q:Value->Shared->Prop}{E:Value->Shared->Prop}(I:Inv X pins σ H s)(S:StR X.K H io st)(R:Rep X.K H io v d)(r:RelV v u)(ht:tyName st d=some t)(hT:T∈kinds)
   (q:∀ tk,Q (.bool (subT t T)) { s with toks:=tk }):wpAny (model X.prog X.w) X.A (call (.builtin "isinstance") [u,.type T]) Q E s:=by
 have k:=fun {x:Value} {HH:Heap->Prop} (hs:t∈sorts) (Z:PySem.W.KitX X.K x (.type t) HH) (p:HH s.heap) (hx:x≠.builtin "__main__.__loader__#opaque")=>PySem.W.kia_one (prog:=X.prog) (w:=X.w) (A:=X.A) (E:=E) Z I.kIn p (zoK hs hT) hx q
 cases d with
 | non=>cases ht;cases (show v=.non from R);cases r;exact k (by decide) PySem.W.kitx_none trivial (by intro e;cases e)
 | bl b=>cases ht;cases (show v=.bl b from R);cases r;exact k (by decide) PySem.W.kitx_bool trivial (by intro e;cases e)
 | int b=>cases ht;cases (show v=.int b from R);obtain⟨t,rfl⟩:=r;exact k (by decide) PySem.W.kitx_int trivial (by intro e;cases e)
 | str b=>cases ht;cases (show v=.str b from R);obtain⟨t,rfl⟩:=r;exact k (by decide) PySem.W.kitx_str trivial (by intro e;cases e)
 | tup ds =>
   cases ht;obtain⟨p,xs,rfl,hp,_⟩:=R;cases r;obtain⟨its,_,⟨o,e,c,_⟩,_⟩:=I.tuple (SqT.of hp);exact k (by decide) PySem.W.kitx_tuple ⟨o,e,c⟩ (by intro e;cases e)
 | ref n =>
   obtain⟨p,rfl,hp⟩:=R;cases r;unfold tyName at ht;dsimp only at ht
   split at ht
   . rename_i o e;cases ht;obtain⟨xs,hH,_⟩:=S.ob n p _ hp e;exact k (by decide) Gs (ziP I (SqL.of hH)) (by intro e;cases e)
   . rename_i o e;cases ht;obtain⟨ob,xs,hH,_⟩:=S.ob n p _ hp e;exact k (by decide) Gs (ziP I (.inl (.inr ⟨ob,hH⟩))) (by intro e;cases e)
   . rename_i o e;cases ht;obtain⟨xs,hH,_⟩:=S.ob n p _ hp e;exact k (by decide) Gu (zke I hH) (by intro e;cases e)
   . rename_i o e;cases ht;obtain⟨xs,hH,_⟩:=S.ob n p _ hp e;exact k (by decide) Gu (zkd I hH) (by intro e;cases e)
   . cases ht
 | kl ds=>cases ht
noncomputable def rIsi(K:Ae)(T:String):List V->Hp->VK->Prop:=fun xs H Q=>∃ x d st io t,xs=[x,.ty T]/\Rep K H io x d/\StR K H io st/\tyName st d=some t/\Q (.bl (subT t T)) H
theorem zm3{T:String}(hT:T∈kinds):zfK X (.builtin "isinstance") (rIsi X.K T):=by
 rintro pins s σ H xs us Q I r ⟨x,d,st,io,t,e,R,S,ht,q⟩;subst e;obtain⟨u,w,rfl,ru,rw'⟩:=r.two;cases rw';exact zoM I S R ru ht hT fun tk=>⟨.bl _,H,I.tok tk,rfl,q⟩
noncomputable def mIsi(T:String)(m:ME):ME:=fun ρ st=>(m ρ st).bind fun (x,s)=>(tyName s x).map fun t=>(.bl (subT t T),s)
theorem zdb{T:String}{x y:Str}{p p2:Pos}(hT:T∈kinds)(hg:Gl X "isinstance")(hm:X.mg "isinstance"=none)(ha:SE X a m)(hgy:Gl X y)(hmy:X.mg y=none)(hvy:bootBuiltins y=some (.type T))(hny:y≠"__name__":=by decide)(hdy:(y==("__debug__":Str))=false:=by decide)
   (hs:starEach [a,.Name y p2] X.env=(false,eval a X.env)::starEach [.Name y p2] X.env:=by rfl) (hs2:starEach [.Name y p2] X.env=[(false,eval (.Name y p2) X.env)]:=by rfl) (hpl:(backTo pos (starEach [.Name y p2] X.env)).any (·.1)=false:=by rfl) :
   SE X (.Call (.Name "isinstance" p) [a,.Name y p2] [] pos) (mIsi T m) :=
 PE.imp (zeR (zm3 hT) hg hm (by decide +kernel) (zdW ha (zdW (zoj (v:=.ty T) hgy hmy hvy rfl hny hdy) zhq hs2) hs) (by decide) (by decide) hs hpl) <| by
   rintro σ H Q ⟨ρ,st,io,d,st',E,S,e,k⟩;obtain⟨⟨x,s1⟩,e1,e⟩:=zag e;obtain⟨t,e2,e⟩:=zaj e;cases e;exact⟨ρ,st,io,x,_,E,S,e1,fun v1 H1 k1 X1 S1 R1=>⟨v1,x,_,io++k1,t,rfl,R1,S1,e2,k _ H1 k1 X1 S1 rfl⟩⟩
end
theorem zda{α:Type}{le:α->α->Prop}:∀ {l1 l2:List α},l1.Perm l2->l1.Pairwise le->l2.Pairwise le->(∀ a∈l1,∀ b∈l1,le a b->le b a->a=b)->l1=l2
 | [],l2,p,_,_,_=>(List.Perm.nil_eq p)
 | a::l1,[],p,_,_,_=>absurd p.symm (by intro h;have:=h.length_eq;simp at this)
 | a::l1,b::l2,p,h1,h2,an=>by
   obtain⟨ha,h1'⟩:=List.pairwise_cons.mp h1;obtain⟨hb,h2'⟩:=List.pairwise_cons.mp h2;have e:a=b:=by
     have m1:a∈b::l2:=p.mem_iff.mp Aj;have m2:b∈a::l1:=p.mem_iff.mpr Aj
     rcases List.mem_cons.mp m1 with q | q
     . exact q
     . rcases List.mem_cons.mp m2 with r | r
       . exact r.symm
       . exact an a Aj b (Ah _ r) (ha b r) (hb a q)
   subst e;rw[zda ((List.perm_cons a).mp p) h1' h2' fun x hx y hy=>an x (Ah _ hx) y (Ah _ hy)]
noncomputable def sle(a b:Str):Bool:=!decide (b.cps.toList < a.cps.toList)
noncomputable def zcf(ss:List Str):List Str:=ss.mergeSort sle
theorem znw{a b:Str}(h:a.cps.toList=b.cps.toList):a=b:=by
 obtain⟨x⟩:=a;obtain⟨y⟩:=b;have:x=y:=by
   have h':x.toList=y.toList:=h;exact Array.toList_inj.mp h'
 rw[this]
theorem zgD(a b:Str):(sle a b || sle b a)=true:=by
 unfold sle;rw[C3,BZ,BZ,decide_eq_false_iff_not,decide_eq_false_iff_not]
 by_cases h:b.cps.toList < a.cps.toList
 . exact .inr (List.lt_asymm h)
 . exact .inl h
theorem zeD(a b c:Str)(h1:sle a b=true)(h2:sle b c=true):sle a c=true:=by
 unfold sle at *;rw[BZ,decide_eq_false_iff_not] at *;have h1:a.cps.toList<=b.cps.toList:=h1;have h2:b.cps.toList<=c.cps.toList:=h2;exact List.le_trans h1 h2
theorem zlI{a b:Str}(h1:sle a b=true)(h2:sle b a=true):a=b:=by
 unfold sle at *;rw[BZ,decide_eq_false_iff_not] at *;exact znw (List.le_antisymm h1 h2)
theorem zeh:∀ {ss:List Str} {p:Str},risingS p ss=true->(p::ss).Pairwise fun a b=>sle a b=true
 | [],p,_=>by simp
 | s::ss,p,h=>by
   have h':(!ltCps s.cps.toList p.cps.toList&&risingS s ss)=true:=h;rw[An] at h';have ih:=zeh h'.2;have hps:sle p s=true:=by
     have:=h'.1;rw[ltCps_eq] at this;exact this
   refine List.pairwise_cons.mpr ⟨fun x hx=>?_,ih⟩
   rcases List.mem_cons.mp hx with rfl | hx
   . exact hps
   . exact zeD _ _ _ hps ((List.pairwise_cons.mp ih).1 x hx)
theorem zdu{ss ss':List Str}(p:ss'.Perm ss)(h:sortedS ss'=true):ss'=zcf ss:=by
 have hp:ss'.Pairwise fun a b=>sle a b=true:=by
   cases ss' with
   | nil=>exact Dp
   | cons x r=>exact zeh h
 refine zda (p.trans (BA ss sle).symm) hp (Bw (fun a b c=>zeD a b c) zgD ss) fun a _ b _=>zlI
section
variable {X:Cx} {K:Ae} {H:Hp} {io:List Addr} {st st':Sto} {a b c e:Expr} {es:List Expr} {ma mb mc m:ME} {mm:MA} {pos:Pos} {pins:List (Addr×Obj)} {σ:L2.St} {s:Shared}
noncomputable def strsOf:List D->Option (List Str)
 | []=>some []
 | .str x::r=>(strsOf r).map fun xs=>x::xs
 | _=>none
theorem zee{d:D}{r:List D}{ss:List Str}(h:strsOf (d::r)=some ss):∃ x xs,d=.str x/\strsOf r=some xs/\ss=x::xs:=by
 cases d with
 | str x =>
   obtain⟨xs,e,h⟩:=zaj h;exact⟨x,xs,rfl,e,h.symm⟩
 | _=>cases h
theorem zff(ss:List Str):strsOf (ss.map D.str)=some ss:=by
 induction ss with
 | nil=>rfl
 | cons x r ih=>show (strsOf (r.map D.str)).map _=_;rw[ih];rfl
theorem zfZ:∀ {xs:List V} {us:List Value} {ds:List D} {ss:List Str},Reps K H io xs ds->Vals xs us->strsOf ds=some ss->StrsAre us ss
 | _,_,[],ss,h,r,e=>by
   cases (show _=[] from h);cases r;cases e;exact .nil
 | _,_,d::ds,ss,h,r,e=>by
   obtain⟨y,ys,rfl,h1,h2⟩:=h;obtain⟨x,rest,rfl,e2,rfl⟩:=zee e
   cases r with
   | cons r1 r2 =>
     cases (show y=.str x from h1)
     obtain⟨t,rfl⟩:=r1;exact .cons x t (zfZ h2 r2 e2)
theorem zdG:∀ {us:List Value} {ss:List Str},StrsAre us ss->Vals (ss.map V.str) us
 | _,_,.nil=>.nil
 | _,_,.cons y t r=>.cons ⟨t,rfl⟩ (zdG r)
theorem zgz(ss:List Str):Reps K H io (ss.map V.str) (ss.map D.str):=by
 induction ss with
 | nil=>exact rfl
 | cons x r ih=>exact Reps.cons rfl ih
theorem lt64{n:Nat}(h:n < 64):n<=sizeLine:=AR (Cr h) (by decide)
noncomputable def zcY:GN
 | [.ref n],st=>(zca st n).bind fun ds=>(strsOf ds).bind fun ss=>if decide (ss.length < 64)=true then some (.ref st.length,st++[.lst ((zcf ss).map D.str)]) else none
 | _,_=>none
theorem zfF:zd8 X (.builtin "sorted") zcY:=by
 rintro pins s σ H xs us Q I r ⟨ds,st,io,d,st',R,S,e,k⟩;unfold zcY at e
 split at e
 . rename_i n;obtain⟨ts,e0,e⟩:=zag e;obtain⟨ss,e1,e⟩:=zag e;obtain⟨hl,e⟩:=zav e;cases e;have hl:=of_decide_eq_true hl;obtain⟨v,rfl,p,rfl,hp⟩:=R.one;obtain⟨u,rfl,ru⟩:=r.one;cases ru;obtain⟨ys,hx,r1⟩:=zbf S hp e0;obtain⟨its,rv,pl,hz⟩:=I.list hx;have hS:=zfZ r1 rv e1;have hlen:its.length=ss.length:=by
     have h1:=rv.length;have h2:=(zdG hS).length;rw[Ag] at h2;omega
   refine sorted_strs pl.isList hS (by omega) fun out ss' a1 a2 a3=>?_;have es:=zdu a2 a3;obtain⟨ep,hat⟩:=sortedAll_at s.heap its out;have hv:=zdG a1;have hfree:H (s.heap.objs.size+1)=none:=I.hok.fresh (BE _);have hlen':(ss'.map V.str).length<=sizeLine:=by rw[Ag,a2.length_eq];exact lt64 hl
   refine⟨.ref (s.heap.objs.size+1),upd H (s.heap.objs.size+1) (.lst (ss'.map V.str)),I.laid (t':=s.toks) (a:=s.heap.objs.size+1) (fun b o q=>sortedAll_old q) (BE _) ⟨hlen',out.toList,ep,hv,by simpa using hat⟩,rfl,?_⟩;rw[es] at *;exact k.lst S (zgz _) hfree
 . cases e
noncomputable def znj:D->List D->Sto->Option (D×Sto):=fun x xs st=>match x,xs with
 | .str z,[.ref n]=>(zca st n).bind fun ds=>(strsOf ds).bind fun ss=>if decide ((ss.map (·.length)).sum+ss.length*z.length<=16777216)=true then some (.str (Txt.join z ss),st) else none
 | _,_=>none
theorem zmn:MtR X "str.join" (mtM X.K znj):=by
 rintro pins s σ H x xs v us Q I rx rs ⟨dx,ds,st,io,d,st',Rx,Rs,S,e,k⟩;unfold znj at e
 split at e
 . rename_i z n;obtain⟨ts,e0,e⟩:=zag e;obtain⟨ss,e1,e⟩:=zag e;obtain⟨hl,e⟩:=zav e;cases e
   cases (show x=.str z from Rx)
   obtain⟨t,rfl⟩:=rx;obtain⟨w,rfl,p,rfl,hp⟩:=Rs.one;obtain⟨u,rfl,ru⟩:=rs.one;cases ru;obtain⟨ys,hx,r1⟩:=zbf S hp e0;obtain⟨its,rv,pl,hz⟩:=I.list hx;exact join_list pl.isList (zfZ r1 rv e1) (of_decide_eq_true hl) fun t' k'=>⟨.str _,H,I.tok k',⟨t',rfl⟩,k.now S rfl⟩
 . cases e
noncomputable def zpk(m:ME)(mm:MA):ME:=fun ρ st=>(m ρ st).bind fun (x,s1)=>match x with
 | .str _=>(mm ρ s1).bind fun (xs,s2)=>znj x xs s2
 | _=>none
theorem znS{o:Expr}{apos cpos:Pos}(ho:SE X o m)(ha:SA X (e::es) mm)
   (hbase:attributeBase o "join" X.env (eval o X.env)=eval o X.env:=by rfl)
   (hfew:((backTo cpos (starEach (e::es) X.env)).all (fun x=>!x.1)&&(backToKw cpos (keywordEach [] X.env)).all (fun x=>x.1.isSome)
    &&decide ((e::es).length+([]:List Keyword).length+(if ([]:List Keyword).isEmpty then 0 else 1) < 30))=true:=by rfl)
   (hline:(apos.endLine==cpos.line)=true:=by rfl) (hs:starEach (e::es) X.env=(false,eval e X.env)::starEach es X.env:=by rfl) (hplain:(backTo cpos (starEach es X.env)).any (·.1)=false:=by rfl) :
   SE X (.Call (.Attribute o "join" apos) (e::es) [] cpos) (zpk m mm) :=
 PE.imp (zq7 Fm PySem.F.slot_str_join PySem.F.type_str_join zmn ho ha hbase hfew hline hs hplain) <| by
   rintro σ H Q ⟨ρ,st,io,d,st',E,S,e,k⟩;obtain⟨⟨x,s1⟩,e1,e⟩:=zag e
   cases x with
   | str z =>
     obtain⟨⟨xs,s2⟩,e2,e⟩:=zag e;refine⟨ρ,st,io,_,s1,E,S,e1,fun v1 H1 k1 X1 S1 R1=>⟨by cases (show v1=.str z from R1);rfl,ρ,s1,io++k1,xs,s2,E.ext S X1,S1,e2,fun vs H2 k2 X2 S2 R2=>?_⟩⟩;exact⟨_,xs,s2,(io++k1)++k2,d,st',R1.ext S1 X2,R2,S2,e,(k.on S1 X1).on S2 X2⟩
   | _=>cases e
noncomputable def rSlS:V->Option Int->Option Int->Hp->VK->Prop:=fun x lo hi H Q=>∃ z,x=.str z/\z.length<=sizeLine/\Q (.str (Bs z lo hi)) H
theorem zpD:SlR X rSlS:=by
 rintro pins s σ H x v vl vu lo hi sl Q I rx hs pl pu ⟨z,e,hz,q⟩;subst e;obtain⟨t,rfl⟩:=rx;refine⟨"str",_,F.slot_str_getitem.lookup,Ex _ _ _,?_⟩;have fin:∀ t' k,EP X pins σ Q (.str (Bs z lo hi) t') { s with toks:=k }:=fun t' k=>⟨.str _,H,I.tok k,⟨t',rfl⟩,q⟩
 cases pl with
 | none =>
   cases pu with
   | none=>exact B3 (l:=none) (u:=none) (st:=none) hs rfl (C4 ⟨AR (DO z _ _) hz,fin⟩)
   | int j tj=>exact B3 (l:=none) (u:=some (j,tj)) (st:=none) hs rfl (C4 ⟨AR (DO z _ _) hz,fin⟩)
 | int i ti =>
   cases pu with
   | none=>exact B3 (l:=some (i,ti)) (u:=none) (st:=none) hs rfl (C4 ⟨AR (DO z _ _) hz,fin⟩)
   | int j tj=>exact B3 (l:=some (i,ti)) (u:=some (j,tj)) (st:=none) hs rfl (C4 ⟨AR (DO z _ _) hz,fin⟩)
noncomputable def slS:D->Option Int->Option Int->Sto->Option (D×Sto):=fun x lo hi st=>match x with
 | .str z=>if fits z.length=true then some (.str (Bs z lo hi),st) else none
 | _=>none
noncomputable def mSlS(m:ME)(l h:MO):ME:=fun ρ st=>(m ρ st).bind fun (x,s1)=>(l ρ s1).bind fun (lo,s2)=>(h ρ s2).bind fun (hi,s3)=>slS x lo hi s3
theorem zjR{lo hi:Option Expr}{ml mh:MO}{p2:Pos}(he:SE X e m)(hl:SO X lo ml)(hu:SO X hi mh):SE X (.Subscript e (.Slice lo hi none p2) pos) (mSlS m ml mh):=PE.imp (zeP zpD he hl hu) <| by
 rintro σ H Q ⟨ρ,st,io,d,st',E,S,e,k⟩;obtain⟨⟨x,s1⟩,e1,e⟩:=zag e;obtain⟨⟨lo',s2⟩,e2,e⟩:=zag e;obtain⟨⟨hi',s3⟩,e3,e⟩:=zag e;refine⟨ρ,st,io,x,s1,E,S,e1,fun v1 H1 k1 X1 S1 R1=>⟨ρ,s1,io++k1,lo',s2,E.ext S X1,S1,e2,fun H2 k2 X2 S2=>⟨ρ,s2,(io++k1)++k2,hi',s3,(E.ext S X1).ext S1 X2,S2,e3,fun H3 k3 X3 S3=>?_⟩⟩⟩;have k':=((k.on S1 X1).on S2 X2).on S3 X3
 cases x with
 | str z =>
   obtain⟨hf,e⟩:=zav e;cases e;exact⟨z,R1,of_decide_eq_true hf,k'.now S3 rfl⟩
 | _=>cases e
noncomputable def repS(x:Str)(n:Int):Str:=if n < 1 then E4 else if (n==1 || x.length==0)=true then x else ⟨(Cp n.toNat x.cps).foldl (·++·) #[]⟩
noncomputable def zmm:G2
 | .str x,.int n,st=>if (decide (-(2 ^ 62)<=n)&&decide (n < 2 ^ 20)&&decide (x.length*n.toNat<=sizeLine)&&decide ((repS x n).length<=sizeLine))=true then some (.str (repS x n),st) else none
 | _,_,_=>none
theorem zmf:OpM X (binaryOp .Mult) zmm:=by
 rintro pins s σ H x y v u Q I rx ry ⟨dx,dy,st,io,d,st',Rx,Ry,S,e,k⟩;unfold zmm at e
 split at e
 . rename_i z n;obtain⟨hc,e⟩:=zav e;cases e;rw[An,An,An] at hc;obtain⟨⟨⟨h1,h2⟩,h3⟩,h4⟩:=hc;have h1:=of_decide_eq_true h1;have h2:=of_decide_eq_true h2;have h3:=of_decide_eq_true h3;have h4:=of_decide_eq_true h4
   cases (show x=.str z from Rx)
   cases (show y=.int n from Ry)
   obtain⟨t,rfl⟩:=rx;obtain⟨t2,rfl⟩:=ry;have fin:∀ t' k',EP X pins σ Q (.str (repS z n) t') { s with toks:=k' }:=fun t' k'=>⟨.str _,H,I.tok k',⟨t',rfl⟩,k.now S rfl⟩
   refine PySem.P.mul_str (by rw[decide_eq_false (by omega),decide_eq_false (by omega)];rfl) (fun hn _=>?_) (fun hn _=>?_) ?_
   . have hs:sizeLine=16777216:=Ff;have hnn:((n.toNat:Nat):Int)=n:=Int.toNat_of_nonneg (by omega);have hm:(z.length:Int)*n<=2 ^ 63 - 1:=by
       rw[<-hnn,<-Int.natCast_mul];omega
     have:=Int.le_ediv_of_mul_le (by omega:0 < n) hm;omega
   . unfold C0;exact decide_eq_false (by omega)
   . unfold repS at fin h4
     by_cases hn:n < 1
     . rw[if_pos hn] at fin h4 ⊢;exact⟨h4,fin s.toks (s.toks+1)⟩
     . rw[if_neg hn] at fin h4 ⊢;exact C4 ⟨h4,fin⟩
 . cases e
end
section
variable {X:Cx} {K:Ae} {H:Hp} {io:List Addr} {st st':Sto} {a b c e:Expr} {es:List Expr} {ma mb mc m:ME} {mm:MA} {pos:Pos} {pins:List (Addr×Obj)} {σ:L2.St} {s:Shared}
noncomputable def memP(p:PyData):PyData->Option Bool
 | .list xs=>some (xs.any fun y=>BM y p)
 | .tuple xs=>some (xs.any fun y=>BM y p)
 | _=>none
noncomputable def inD(neg:Bool):G2:=fun x y st=>(toP 50 st x).bind fun p=>(toP 50 st y).bind fun q=>(memP p q).map fun b=>(.bl (if neg then !b else b),st)
theorem zhD{xs:List PyData}(h:(PyData.list xs).canLay0=true):CL xs=true:=by simpa only [B7] using h
theorem zgq{xs:List PyData}(h:(PyData.tuple xs).canLay0=true):CL xs=true:=by simpa only [B7] using h
theorem zj7(hu:X.A.units+100 < cLine):OpM X (compareOp .NotIn) (inD true):=by
 rintro pins s σ H x y v u Q I rx ry ⟨dx,dy,st,io,d,st',Rx,Ry,S,e,k⟩;obtain⟨p,e1,e⟩:=zag e;obtain⟨q,e2,e⟩:=zag e;obtain⟨r,e3,e⟩:=zaj e;cases e;obtain⟨as,ra⟩:=zcH I S Rx rx e1;obtain⟨bs,rb⟩:=zcH I S Ry ry e2;have h1:=zfe e1;have h2:=zfe e2;have hb:∀ n,X.A.units+1+min n p.depth < cLine:=fun n=>by have:=GF n p.depth;omega
 cases q with
 | list xs=>cases e3;exact PySem.SeqAt.notIn_list_reads rb ra (zhD h2.1) h1.1 (hb _) ⟨.bl _,H,I,rfl,k.now S rfl⟩
 | tuple xs=>cases e3;exact PySem.SeqAt.notIn_tuple_reads rb ra (zgq h2.1) h1.1 (hb _) ⟨.bl _,H,I,rfl,k.now S rfl⟩
 | _=>cases e3
noncomputable def zm6:List D->Option (List Bool)
 | []=>some []
 | .bl x::r=>(zm6 r).map fun xs=>x::xs
 | _=>none
theorem zjn{d:D}{r:List D}{ss:List Bool}(h:zm6 (d::r)=some ss):∃ x xs,d=.bl x/\zm6 r=some xs/\ss=x::xs:=by
 cases d with
 | bl x =>
   obtain⟨xs,e,h⟩:=zaj h;exact⟨x,xs,rfl,e,h.symm⟩
 | _=>cases h
theorem zll:∀ {xs:List V} {us:List Value} {ds:List D} {ss:List Bool},Reps K H io xs ds->Vals xs us->zm6 ds=some ss->us=ss.map Dg
 | _,_,[],ss,h,r,e=>by
   cases (show _=[] from h);cases r;cases e;rfl
 | _,_,d::ds,ss,h,r,e=>by
   obtain⟨y,ys,rfl,h1,h2⟩:=h;obtain⟨x,rest,rfl,e2,rfl⟩:=zjn e
   cases r with
   | cons r1 r2 =>
     cases (show y=.bl x from h1)
     cases r1;rw[zll h2 r2 e2];rfl
noncomputable def allC:GN
 | [.ref n],st=>(zca st n).bind fun ds=>(zm6 ds).map fun bs=>(.bl (bs.all id),st)
 | _,_=>none
theorem range_all(bs:List Bool):((AX bs.length).all fun i=>bs.getD i false)=bs.all id:=by
 rw[CF,Cu,Cu]
 constructor
 . intro h b hb;obtain⟨i,hi,e⟩:=FW hb;have:=h i (List.mem_range.mpr hi);rw[AD,Am hi,e] at this;exact this
 . intro h i hi;have hi:=List.mem_range.mp hi;rw[AD,Am hi];exact h _ (B8 hi)
theorem zgZ(hc:X.calm=true):zd8 X (.builtin "all") allC:=by
 rintro pins s σ H xs us Q I r ⟨ds,st,io,d,st',R,S,e,k⟩;unfold allC at e
 split at e
 . rename_i n;obtain⟨ts,e0,e⟩:=zag e;obtain⟨bs,e1,e⟩:=zaj e;cases e;obtain⟨v,rfl,p,rfl,hp⟩:=R.one;obtain⟨u,rfl,ru⟩:=r.one;cases ru;obtain⟨ys,hx,r1⟩:=zbf S hp e0;obtain⟨its,rv,pl,hz⟩:=I.list hx;have hb:=zll r1 rv e1;subst hb;refine call_all_walk (CK pl.isList ?_);have hlt:p < s.heap.objs.size:=by
     obtain⟨o,_,e,_⟩:=pl;exact Ak e
   refine⟨_,_,_,_,_,_,fun i=>bs.getD i false,rfl,GZ (A:=X.A.in1) (I.ok.hd hc) s.heap.objs.size p (AB hlt) (bs.map Dg).toArray,⟨⟨_,Al _ rfl,rfl,rfl⟩,?_⟩,?_,fun h' tk hk=>?_⟩
   . obtain⟨o,nn,e,c,dd,sq⟩:=pl;exact⟨o,Ad _ e,c,nn,sq⟩
   . intro i v s' Q' E' hv hq;have hv:((bs.map Dg).toArray)[i]?=some v:=hv;rw[CP,AA] at hv
     cases ei:bs[i]? with
     | none=>rw[ei] at hv;cases hv
     | some bb =>
       rw[ei] at hv;cases hv;refine BX ?_;have hg:bs.getD i false=bb:=by rw[AD,ei];rfl
       have hq:Q' (bs.getD i false) s':=hq;rw[hg] at hq;exact hq
   . refine⟨.bl _,H,I.kept (t':=tk) fun b o q=>hk b o ?_ (Ad _ q),rfl,?_⟩
     . simp;exact AB (Ak q)
     . have:((AX (bs.map Dg).toArray.size).all fun i=>bs.getD i false)=bs.all id:=by simpa using range_all bs
       rw[this];exact k.now S rfl
 . cases e
end
end L2.MP
namespace Srt
open PySem PySem.W PyProof.Rows
noncomputable def Hd(n:Nat)(r:Nat->Int){α:Type}:KasT α->(α->Prop)->Prop
 | .ret a,Q=>Q a
 | .ask i j k,Q=>(i < n/\j < n)/\Hd n r (k (decide (r i < r j))) Q
section
variable {n:Nat} {r:Nat->Int} {α β:Type}
theorem Hd.bind{f:α->KasT β}{Q:β->Prop}:∀ {t:KasT α},Hd n r t (fun a=>Hd n r (f a) Q)->Hd n r (t.bind f) Q
 | .ret _,h=>h
 | .ask i j k,h=>⟨h.1,Hd.bind (t:=k _) h.2⟩
theorem Hd.mono{P Q:α->Prop}(k:∀ a,P a->Q a):∀ {t:KasT α},Hd n r t P->Hd n r t Q
 | .ret a,h=>k a h
 | .ask i j f,h=>⟨h.1,Hd.mono k (t:=f _) h.2⟩
theorem zi4{c:Prop}[Decidable c]{A B:KasT α}{Q:α->Prop}(hc:c)(h:Hd n r A Q):Hd n r (if decide c=true then A else B) Q:=by
 rw[decide_eq_true hc,if_pos rfl];exact h
theorem zi5{c:Prop}[Decidable c]{A B:KasT α}{Q:α->Prop}(hc:¬ c)(h:Hd n r B Q):Hd n r (if decide c=true then A else B) Q:=by
 rw[decide_eq_false hc,if_neg Br];exact h
def Bel(n:Nat)(p:Array Nat):Prop:=∀ k,p.getD k 0 < n
noncomputable def R(r:Nat->Int)(p:Array Nat)(k:Nat):Int:=r (p.getD k 0)
def Up(r:Nat->Int)(p:Array Nat)(m:Nat):Prop:=∀ i j,i<=j->j < m->R r p i<=R r p j
def Dn(r:Nat->Int)(p:Array Nat)(m:Nat):Prop:=∀ i j,i<=j->j < m->R r p j<=R r p i
theorem getD_eq{p q:Array Nat}{i j:Nat}(h:p[i]?=q[j]?):p.getD i 0=q.getD j 0:=by
 rw[Bj,Bj,h]
theorem zgE{p:Array Nat}{i j:Nat}(hj:j<=p.size)(k:Nat):(kas_rev p i j).getD k 0=if i<=k/\k < j then p.getD (i+j - 1 - k) 0 else p.getD k 0:=by
 have e:=getElem?_mirror_all (i:=i) hj k;unfold kas_rev
 by_cases h:i<=k/\k < j
 . rw[if_pos h] at e ⊢;exact getD_eq e
 . rw[if_neg h] at e ⊢;exact getD_eq e
theorem zlj{p:Array Nat}{src d:Nat}(hs:src < p.size)(hd:d<=src)(k:Nat):(bubble p src d).getD k 0=if k=src - d then p.getD src 0 else if src - d < k/\k<=src then p.getD (k - 1) 0 else p.getD k 0:=by
 have e:=getElem?_bubble hs d hd k
 by_cases h1:k=src - d
 . rw[if_pos h1] at e ⊢;exact getD_eq e
 . rw[if_neg h1] at e ⊢
   by_cases h2:src - d < k/\k<=src
   . rw[if_pos h2] at e ⊢;exact getD_eq e
   . rw[if_neg h2] at e ⊢;exact getD_eq e
theorem zfo{p:Array Nat}{i j:Nat}(hj:j<=p.size)(h:Bel n p):Bel n (kas_rev p i j):=fun k=>by
 rw[zgE hj];split
 . exact h _
 . exact h _
theorem zo2{p:Array Nat}{src d:Nat}(hs:src < p.size)(hd:d<=src)(h:Bel n p):Bel n (bubble p src d):=fun k=>by
 rw[zlj hs hd]
 by_cases h1:k=src - d
 . rw[if_pos h1];exact h _
 . rw[if_neg h1]
   by_cases h2:src - d < k/\k<=src
   . rw[if_pos h2];exact h _
   . rw[if_neg h2];exact h _
theorem zlY(p:Array Nat)(i j:Nat):(kas_rev p i j).size=p.size:=mirror_size _ _ _ _
theorem zj0(p:Array Nat)(i j:Nat):(kas_rev p i j).Perm p:=mirror_perm _ _ _ _
theorem Up.more{p:Array Nat}{m:Nat}(h:Up r p m)(hl:m=0\/R r p (m - 1)<=R r p m):Up r p (m+1):=fun i j hij hj=>by
 by_cases hm:j < m
 . exact h i j hij hm
 . have e:j=m:=by omega
   subst e
   by_cases hi:i=j
   . rw[hi];exact Dv _
   . rcases hl with hl | hl
     . omega
     . exact Da (h i (j - 1) (by omega) (by omega)) hl
theorem Dn.more{p:Array Nat}{m:Nat}(h:Dn r p m)(hl:m=0\/R r p m<=R r p (m - 1)):Dn r p (m+1):=fun i j hij hj=>by
 by_cases hm:j < m
 . exact h i j hij hm
 . have e:j=m:=by omega
   subst e
   by_cases hi:i=j
   . rw[hi];exact Dv _
   . rcases hl with hl | hl
     . omega
     . exact Da hl (h i (j - 1) (by omega) (by omega))
theorem zm7{p:Array Nat}(hb:Bel n p):∀ (f m:Nat),1<=m->Up r p m->Hd n r (kas_asc p f m) fun m'=>m<=m'/\m'<=m+f/\Up r p m'/\(m' < m+f->R r p m' < R r p (m' - 1))
 | 0,m,h1,h=>⟨Af _,Af _,h,fun z=>absurd z (AY _)⟩
 | f+1,m,h1,h=>by
   refine⟨⟨hb _,hb _⟩,?_⟩
   by_cases c:r (p.getD m 0) < r (p.getD (m - 1) 0)
   . refine zi4 c ?_;exact⟨Af _,BS _ _,h,fun _=>c⟩
   . refine zi5 c ?_;refine Hd.mono (fun m' h'=>?_) (zm7 hb f (m+1) (by omega) (h.more (.inr (Int.not_lt.mp c))));exact⟨by omega,by omega,h'.2.2.1,fun z=>h'.2.2.2 (by omega)⟩
def Eqs(r:Nat->Int)(p:Array Nat)(i j:Nat):Prop:=∀ k,i<=k->k < j->R r p k=R r p (j - 1)
theorem zij{p:Array Nat}{i j:Nat}(hj:j<=p.size)(h:Eqs r p i j)(k:Nat):R r (kas_rev p i j) k=R r p k:=by
 unfold R;rw[zgE hj]
 split
 . rename_i hk;have h1:=h (i+j - 1 - k) (by omega) (by omega);have h2:=h k hk.1 hk.2;exact h1.trans h2.symm
 . rfl
theorem Dn.same{p p':Array Nat}{m:Nat}(h:Dn r p m)(e:∀ k,R r p' k=R r p k):Dn r p' m:=fun i j a b=>by rw[e,e];exact h i j a b
theorem zpR{p:Array Nat}{m:Nat}(hm:m<=p.size)(h:Dn r p m):Up r (kas_rev p 0 m) m:=fun i j hij hj=>by
 unfold R;rw[zgE hm,zgE hm,if_pos (by omega),if_pos (by omega)];exact h (0+m - 1 - j) (0+m - 1 - i) (by omega) (by omega)
theorem zgX{N:Nat}:∀ (f:Nat) (p:Array Nat) (m q:Nat),Bel n p->p.size=N->1<=m->m+f<=N->q+1<=m->Dn r p m->Eqs r p (m - (q+1)) m ->
   Hd n r (kas_desc f p m q) fun t=>Bel n t.1/\t.1.Perm p/\m<=t.2.1/\t.2.1<=m+f/\t.2.2+1<=t.2.1/\Dn r t.1 t.2.1/\Eqs r t.1 (t.2.1 - (t.2.2+1)) t.2.1
 | 0,p,m,q,hb,hs,h1,h2,h3,hd,he=>⟨hb,C5 _,Af _,Af _,h3,hd,he⟩
 | f+1,p,m,q,hb,hs,h1,h2,h3,hd,he=>by
   refine⟨⟨hb _,hb _⟩,?_⟩
   by_cases c:r (p.getD m 0) < r (p.getD (m - 1) 0)
   . refine zi4 c ?_;have one:∀ p':Array Nat,Eqs r p' (m+1 - (0+1)) (m+1):=fun p' k h1 h2=>by
       have e:k=m+1 - 1:=by omega
       subst e;rfl
     by_cases hq:q > 0
     . rw[if_pos hq];have hz:m<=p.size:=by omega
       have e:=zij hz he;refine Hd.mono (fun t ht=>?_) (zgX f (kas_rev p (m - (q+1)) m) (m+1) 0 (zfo hz hb) ((zlY _ _ _).trans hs) (by omega) (by omega) (by omega) ((hd.more (.inr (Dc c))).same e) (one _));exact⟨ht.1,ht.2.1.trans (zj0 _ _ _),by omega,by omega,ht.2.2.2.2⟩
     . rw[if_neg hq];refine Hd.mono (fun t ht=>?_) (zgX f p (m+1) 0 hb hs (by omega) (by omega) (by omega) (hd.more (.inr (Dc c))) (one _));exact⟨ht.1,ht.2.1,by omega,by omega,ht.2.2.2.2⟩
   . refine zi5 c ?_;refine⟨⟨hb _,hb _⟩,?_⟩
     by_cases d:r (p.getD (m - 1) 0) < r (p.getD m 0)
     . refine zi4 d ?_;exact⟨hb,C5 _,Af _,BS _ _,h3,hd,he⟩
     . refine zi5 d ?_;have eq:R r p m=R r p (m - 1):=G1 (Int.not_lt.mp d) (Int.not_lt.mp c);refine Hd.mono (fun t ht=>?_) (zgX f p (m+1) (q+1) hb hs (by omega) (by omega) (by omega) (hd.more (.inr (Int.not_lt.mp d))) fun k k1 k2=>?_)
       . exact⟨ht.1,ht.2.1,by omega,by omega,ht.2.2.2.2⟩
       . show R r p k=R r p (m+1 - 1)
         by_cases hk:k=m
         . rw[hk];rfl
         . rw[Nat.add_sub_cancel,eq];exact he k (by omega) (by omega)
def zq1(n N:Nat)(r:Nat->Int)(p:Array Nat)(t:Nat×Array Nat):Prop:=Bel n t.2/\t.2.Perm p/\1<=t.1/\t.1<=N/\Up r t.2 t.1
theorem zhY{N m:Nat}{p:Array Nat}(hb:Bel n p)(hs:p.size=N)(h1:1<=m)(h2:m<=N)(hd:Dn r p m):Hd n r (kas_tail3 m N p) (zq1 n N r p):=by
 unfold kas_tail3;have hz:m<=p.size:=by omega
 refine Hd.bind (Hd.mono (fun m' h'=>?_) (zm7 (zfo hz hb) (N - m) m h1 (zpR hz hd)));exact⟨zfo hz hb,zj0 _ _ _,by omega,by omega,h'.2.2.1⟩
theorem zeo{N m:Nat}{p:Array Nat}(hb:Bel n p)(hs:p.size=N)(h1:1<=m)(h2:m+1<=N)(hd:Dn r p (m+1)):Hd n r (kas_descPart m N p) (zq1 n N r p):=by
 unfold kas_descPart;refine Hd.bind (Hd.mono (fun t ht=>?_) (zgX (N:=N) (N - (m+1)) p (m+1) 0 hb hs (by omega) (by omega) (by omega) hd fun k k1 k2=>by
   have:k=m+1 - 1:=by omega
   rw[this]))
 obtain⟨t1,t2,t3,t4,t5,t6,t7⟩:=ht;have hsz:t.1.size=N:=t2.size_eq.trans hs
 by_cases hq:t.2.2 > 0
 . rw[if_pos hq];have hz:t.2.1<=t.1.size:=by omega
   refine Hd.mono (fun u hu=>?_) (zhY (zfo hz t1) ((zlY _ _ _).trans hsz) (by omega) (by omega) (t6.same (zij hz t7)));exact⟨hu.1,(hu.2.1.trans (zj0 _ _ _)).trans t2,hu.2.2⟩
 . rw[if_neg hq];refine Hd.mono (fun u hu=>?_) (zhY t1 hsz (by omega) (by omega) t6);exact⟨hu.1,hu.2.1.trans t2,hu.2.2⟩
theorem zmZ{N:Nat}{p:Array Nat}(hb:Bel n p)(hs:p.size=N)(hN:1<=N):Hd n r (kas_count N p) (zq1 n N r p):=by
 unfold kas_count;have up1:Up r p 1:=fun i j a b=>by
   have:i=j:=by omega
   rw[this];exact Dv _
 refine Hd.bind (Hd.mono (fun m hm=>?_) (zm7 hb (N - 1) 1 (Af _) up1));obtain⟨m1,m2,m3,m4⟩:=hm
 by_cases e:(m==N)=true
 . rw[if_pos e];exact⟨hb,C5 _,m1,by omega,m3⟩
 . rw[if_neg e];have ne:m≠N:=fun z=>e (by simp[z]);have lt:=m4 (by omega)
   by_cases g:m > 1
   . rw[if_pos g];refine⟨⟨hb _,hb _⟩,?_⟩
     by_cases c:r (p.getD 0 0) < r (p.getD (m - 1) 0)
     . refine zi4 c ?_;exact⟨hb,C5 _,m1,by omega,m3⟩
     . refine zi5 c ?_;have hz:m<=p.size:=by omega
       have all:∀ k,k < m->R r p k=R r p (m - 1):=fun k hk=>G1 (m3 k (m - 1) (by omega) (by omega)) (Da (Int.not_lt.mp c) (m3 0 k (by omega) hk));have e:=zij (i:=0) hz fun k _ hk=>all k hk;have dn:Dn r p m:=fun i j a b=>by rw[all i (by omega),all j b];exact Dv _
       refine Hd.mono (fun u hu=>?_) (zeo (zfo (i:=0) hz hb) ((zlY _ _ _).trans hs) m1 (by omega) ((dn.more (.inr (Dc lt))).same e));exact⟨hu.1,hu.2.1.trans (zj0 _ _ _),hu.2.2⟩
   . rw[if_neg g];have m1':m=1:=by omega
     subst m1';have dn:Dn r p 1:=fun i j a b=>by
       have:i=j:=by omega
       rw[this];exact Dv _
     exact zeo hb hs (Af _) (by omega) (dn.more (.inr (Dc lt)))
theorem zf8{p:Array Nat}{k:Nat}(hb:Bel n p)(hu:Up r p k):∀ (f a b:Nat),a<=b->b<=k->b<=a+f->(∀ x,x < a->R r p x<=R r p k)->(∀ x,b<=x->x < k->R r p k<=R r p x) ->
   Hd n r (kas_place p k f a b) fun l=>l<=k/\(∀ x,x < l->R r p x<=R r p k)/\∀ x,l<=x->x < k->R r p k<=R r p x
 | 0,a,b,h1,h2,h3,hl,hr=>by
   have:a=b:=by omega
   subst this;exact⟨h2,hl,hr⟩
 | f+1,a,b,h1,h2,h3,hl,hr=>by
   unfold kas_place
   by_cases g:a ≥ b
   . rw[if_pos g];have:a=b:=by omega
     subst this;exact⟨h2,hl,hr⟩
   . rw[if_neg g];refine⟨⟨hb _,hb _⟩,?_⟩
     by_cases c:r (p.getD k 0) < r (p.getD ((a+b) / 2) 0)
     . refine zi4 c ?_;refine zf8 hb hu f a ((a+b) / 2) (by omega) (by omega) (by omega) hl fun x x1 x2=>?_;exact Da (Dc c) (hu ((a+b) / 2) x x1 x2)
     . refine zi5 c ?_;refine zf8 hb hu f ((a+b) / 2+1) b (by omega) h2 (by omega) (fun x hx=>?_) hr;exact Da (hu x ((a+b) / 2) (by omega) (by omega)) (Int.not_lt.mp c)
theorem zo8{N:Nat}:∀ (f:Nat) (p:Array Nat) (k:Nat),Bel n p->p.size=N->k+f=N->Up r p k->Hd n r (kas_bin f p k) fun q=>q.Perm p/\Up r q N
 | 0,p,k,hb,hs,hk,hu=>⟨C5 _,by rw[<-hk];exact hu⟩
 | f+1,p,k,hb,hs,hk,hu=>by
   unfold kas_bin;refine Hd.bind (Hd.mono (fun l hl=>?_) (zf8 hb hu k 0 k (AZ _) (Af _) (by omega) (fun x hx=>absurd hx (G4 _)) fun x a b=>absurd (As b a) (AY _)));obtain⟨l1,l2,l3⟩:=hl;have hks:k < p.size:=by omega
   refine Hd.mono (fun q hq=>⟨hq.1.trans (bubble_perm _ _ _),hq.2⟩) (zo8 f (bubble p k (k - l)) (k+1) (zo2 hks (by omega) hb) ((bubble_size _ _ _).trans hs) (by omega) fun i j hij hj=>?_);have g:∀ x,R r (bubble p k (k - l)) x=if x=l then R r p k else if l < x/\x<=k then R r p (x - 1) else R r p x:=fun x=>by
     unfold R;rw[zlj hks (by omega)];have e:k - (k - l)=l:=by omega
     rw[e]
     by_cases a1:x=l
     . rw[if_pos a1,if_pos a1]
     . rw[if_neg a1,if_neg a1]
       by_cases a2:l < x/\x<=k
       . rw[if_pos a2,if_pos a2]
       . rw[if_neg a2,if_neg a2]
   rw[g i,g j]
   by_cases h1:i=l
   . rw[if_pos h1]
     by_cases h2:j=l
     . rw[if_pos h2];exact Dv _
     . rw[if_neg h2,if_pos (by omega)];exact l3 (j - 1) (by omega) (by omega)
   . rw[if_neg h1]
     by_cases h2:j=l
     . rw[if_pos h2,if_neg (by omega)];exact l2 i (by omega)
     . rw[if_neg h2]
       by_cases h3:l < i/\i<=k
       . rw[if_pos h3,if_pos (by omega)];exact hu (i - 1) (j - 1) (by omega) (by omega)
       . rw[if_neg h3]
         by_cases h4:l < j/\j<=k
         . rw[if_pos h4];exact hu i (j - 1) (by omega) (by omega)
         . rw[if_neg h4];exact hu i j hij (by omega)
theorem zj2{n:Nat}(hn:1<=n):Bel n (Cv (AX n)):=fun k=>by
 rw[Bj,CP]
 by_cases h:k < n
 . rw[CZ h];exact h
 . rw[List.getElem?_eq_none_iff.mpr (by rw[Ck];omega)];exact hn
theorem sort_ok(hn:1<=n):Hd n r (kas_sort n) fun q=>q.Perm (Cv (AX n))/\Up r q n:=by
 unfold kas_sort;have hs:(Cv (AX n)).size=n:=by simp
 refine Hd.bind (Hd.mono (fun t ht=>?_) (zmZ (zj2 hn) hs hn));obtain⟨t1,t2,t3,t4,t5⟩:=ht
 by_cases h:t.1 < n
 . rw[if_pos h];have e:max t.1 1=t.1:=Nat.max_eq_left t3;rw[e];refine Hd.mono (fun q hq=>⟨hq.1.trans t2,hq.2⟩) (zo8 (N:=n) (n - t.1) t.2 t.1 t1 (t2.size_eq.trans hs) (by omega) t5)
 . rw[if_neg h];have e:t.1=n:=by omega
   exact⟨t2,by rw[<-e];exact t5⟩
end
end Srt
namespace L2.MP
open PySem PySem.Spec PyProof.Rows
theorem zms:∀ a:List Int,HT.lexLt a a=false
 | []=>rfl
 | x::r=>by rw[HT.lexLt_cons,if_pos rfl];exact zms r
theorem zk5:∀ {a b:List Int},HT.lexLt a b=false->HT.lexLt b a=false->a=b
 | [],[],_,_=>rfl
 | [],_::_,h,_=>by rw[HT.lexLt_nil_cons] at h;cases h
 | _::_,[],_,h=>by rw[HT.lexLt_nil_cons] at h;cases h
 | x::a,y::b,h1,h2=>by
   rw[HT.lexLt_cons] at h1 h2
   by_cases e:x=y
   . subst e;rw[if_pos rfl] at h1 h2;rw[zk5 h1 h2]
   . rw[if_neg e] at h1;rw[if_neg (BL e)] at h2;have a1:=of_decide_eq_false h1;have a2:=of_decide_eq_false h2;omega
theorem ziJ:∀ {a b c:List Int},HT.lexLt b a=false->HT.lexLt c b=false->HT.lexLt c a=false
 | a,[],c,_,h2=>by
   cases c with
   | nil =>
     cases a with
     | nil=>rfl
     | cons x a=>rename_i h1;rw[HT.lexLt_nil_cons] at h1;cases h1
   | cons z c =>
     cases a with
     | nil=>exact HT.lexLt_cons_nil _ _
     | cons x a=>rename_i h1;rw[HT.lexLt_nil_cons] at h1;cases h1
 | a,y::b,[],_,h2=>by rw[HT.lexLt_nil_cons] at h2;cases h2
 | [],y::b,z::c,_,_=>HT.lexLt_cons_nil _ _
 | x::a,y::b,z::c,h1,h2=>by
   rw[HT.lexLt_cons] at h1 h2 ⊢
   by_cases e1:y=x
   . subst e1;rw[if_pos rfl] at h1
     by_cases e2:z=y
     . subst e2;rw[if_pos rfl] at h2 ⊢;exact ziJ h1 h2
     . rw[if_neg e2] at h2 ⊢;exact h2
   . rw[if_neg e1] at h1;have a1:=of_decide_eq_false h1
     by_cases e2:z=y
     . subst e2;rw[if_neg e1];exact h1
     . rw[if_neg e2] at h2;have a2:=of_decide_eq_false h2;rw[if_neg (by omega)];exact decide_eq_false (by omega)
theorem zfx{a b:List Int}(h:HT.lexLt a b=true):HT.lexLt b a=false:=by
 cases e:HT.lexLt b a with
 | false=>rfl
 | true =>
   -- b < a and a < b: then not (a < a) breaks
   exfalso;have:∀ {a b:List Int},HT.lexLt a b=true->HT.lexLt b a=true->False:=by
     intro a
     induction a with
     | nil=>intro b h1 h2;cases b with
       | nil=>rw[HT.lexLt_nil_nil] at h1;cases h1
       | cons y b=>rw[HT.lexLt_cons_nil] at h2;cases h2
     | cons x a ih=>intro b h1 h2;cases b with
       | nil=>rw[HT.lexLt_cons_nil] at h1;cases h1
       | cons y b =>
         rw[HT.lexLt_cons] at h1 h2
         by_cases q:x=y
         . subst q;rw[if_pos rfl] at h1 h2;exact ih h1 h2
         . rw[if_neg q] at h1;rw[if_neg (BL q)] at h2;have a1:=of_decide_eq_true h1;have a2:=of_decide_eq_true h2;omega
   exact this h e
noncomputable def tle(a b:List Int):Bool:=!HT.lexLt b a
noncomputable def zeC(ts:List (List Int)):List (List Int):=ts.mergeSort tle
theorem zcb(a b c:List Int)(h1:tle a b=true)(h2:tle b c=true):tle a c=true:=by
 unfold tle at *;rw[BZ] at *;exact ziJ h1 h2
theorem zcw(a b:List Int):(tle a b || tle b a)=true:=by
 unfold tle
 cases e:HT.lexLt b a with
 | false=>rfl
 | true=>rw[zfx e];rfl
theorem zfW{a b:List Int}(h1:tle a b=true)(h2:tle b a=true):a=b:=by
 unfold tle at *;rw[BZ] at *;exact zk5 h2 h1
noncomputable def rank(ts:List (List Int))(i:Nat):Int:=((ts.countP fun t=>HT.lexLt t (ts.getD i [])):Nat)
theorem zkY{ts:List (List Int)}{i j:Nat}(hi:i < ts.length):(decide (rank ts i < rank ts j))=HT.lexLt (ts.getD i []) (ts.getD j []):=by
 unfold rank
 cases e:HT.lexLt (ts.getD i []) (ts.getD j []) with
 | true =>
   refine decide_eq_true ?_;have le:ts.countP (fun t=>HT.lexLt t (ts.getD i [])) < ts.countP (fun t=>HT.lexLt t (ts.getD j [])):=by
     have hm:ts.getD i []∈ts:=by rw[AD,Am hi];exact B8 hi
     generalize ha:ts.getD i []=a at *;generalize hb:ts.getD j []=b at *;clear ha hb hi;have sub:∀ t,HT.lexLt t a=true->HT.lexLt t b=true:=fun t ht=>by
       cases q:HT.lexLt t b with
       | true=>rfl
       | false =>
         exfalso
         -- b<=t,t < a,a < b
         have h1:HT.lexLt a t=false:=zfx ht;have:HT.lexLt a b=false:=by
           have h2:tle b t=true:=by unfold tle;rw[q];rfl
           have h3:tle t a=true:=by unfold tle;rw[h1];rfl
           have:=zcb b t a h2 h3;unfold tle at this;rw[BZ] at this;exact this
         rw[e] at this;cases this
     induction ts with
     | nil=>exact absurd hm (by simp)
     | cons t r ih =>
       rw[GH,GH]
       rcases List.mem_cons.mp hm with q | q
       . subst q;rw[zms,e];have:r.countP (fun t=>HT.lexLt t a)<=r.countP (fun t=>HT.lexLt t b):=Fv fun t _ ht=>sub t ht;simp only[Aq,if_false,if_true];omega
       . have:=ih q
         by_cases c:HT.lexLt t a=true
         . rw[if_pos c,if_pos (sub t c)];omega
         . rw[if_neg c];split <;> omega
   omega
 | false =>
   refine decide_eq_false ?_;have le:ts.countP (fun t=>HT.lexLt t (ts.getD j []))<=ts.countP (fun t=>HT.lexLt t (ts.getD i [])):=Fv fun t _ ht=>by
     cases q:HT.lexLt t (ts.getD i []) with
     | true=>rfl
     | false =>
       exfalso;have h2:tle (ts.getD j []) (ts.getD i [])=true:=by unfold tle;rw[e];rfl
       have h3:tle (ts.getD i []) t=true:=by unfold tle;rw[q];rfl
       have h4:=zcb _ _ _ h2 h3;unfold tle at h4;rw[ht] at h4;cases h4
   omega
theorem zqP{n:Nat}{r:Nat->Int}{α:Type}{P:α->Prop}{Q:α->Shared->Prop}{s:Shared}{cmp:Nat->Nat->(Bool->Shared->Prop)->Shared->Prop}(hc:∀ i j,i < n->j < n->∀ C:Bool->Shared->Prop,C (decide (r i < r j)) s->cmp i j C s)(hq:∀ a,P a->Q a s) :
   ∀ {t:PySem.W.KasT α},Srt.Hd n r t P->t.kasWp cmp Q s
 | .ret a,h=>hq a h
 | .ask i j k,h=>hc i j h.1.1 h.1.2 _ (zqP hc hq (t:=k _) h.2)
section
variable {prog:Program} {w:World} {A:Around} {E:Value->Shared->Prop} {s:Shared}
theorem zem{Q:Bool->Shared->Prop}:∀ {xs ys:List Int} {us ws:List Value} (i:Nat),Vals (xs.map V.int) us->Vals (ys.map V.int) ws->Q (HT.lexLt xs ys) s->PySem.W.KatLex prog w A true (decide (us.length < ws.length)) Q (us.zip ws) i s
 | [],[],_,_,i,.nil,.nil,h=>h
 | [],y::ys,_,_,i,.nil,.cons r t,h=>by
   show Q (decide (_ < _)) s;rw[decide_eq_true (by simp)];exact h
 | x::xs,[],_,_,i,.cons r t,.nil,h=>by
   show Q (decide (_ < _)) s;rw[decide_eq_false (by simp)];exact h
 | x::xs,y::ys,_,_,i,.cons r1 t1,.cons r2 t2,h=>by
   obtain⟨a1,rfl⟩:=r1;obtain⟨a2,rfl⟩:=r2;rw[HT.lexLt_cons] at h;refine Ga x a1 y a2 prog w _ _ ?_
   by_cases e:x=y
   . subst e;rw[if_pos rfl] at h;rw[beq_self_eq_true,if_pos rfl];have:=zem (Q:=Q) (i+1) t1 t2 h;rw[A6,A6];have e2:∀ a b:Nat,decide (a+1 < b+1)=decide (a < b):=fun a b=>by
       by_cases q:a < b
       . rw[decide_eq_true q,decide_eq_true (by omega)]
       . rw[decide_eq_false q,decide_eq_false (by omega)]
     rw[e2];exact this
   . rw[if_neg e] at h;have hb:(x==y)=false:=by simpa using e
     rw[hb,if_neg Br]
     by_cases hi:i=0
     . subst hi;exact oneLt_int h
     . have:(true&&i==0)=false:=by simpa using hi
       rw[this];exact PySem.W.kat_one _ _ (GR h)
end
section
variable {X:Cx} {pins:List (Addr×Obj)} {σ:L2.St} {H:Hp} {s:Shared}
noncomputable def zcF(H:Hp):List V->List (List Int)->Prop:=Paired fun v t=>∃ a,v=.ref a/\H a=some (.tup (t.map V.int))/\t≠[]
theorem zdO:∀ {xs:List V} {ts:List (List Int)} {i:Nat},zcF H xs ts->i < ts.length->∃ a,xs[i]?=some (.ref a)/\H a=some (.tup ((ts.getD i []).map V.int))/\ts.getD i []≠[]
 | _,[],i,_,hi=>absurd hi (by simp)
 | _,t::ts,0,.cons r q,_=>by
   obtain⟨a,rfl,ha,hn⟩:=r;exact⟨a,rfl,ha,hn⟩
 | _,t::ts,i+1,.cons r q,hi=>by
   have:=zdO (i:=i) q (by simpa using hi);simpa using this
theorem zpb{A:Around}{xs:List V}{us:List Value}{ts:List (List Int)}{s':Shared}(I:Inv X pins σ H s)(hk:∀ b o,H b≠none->s.heap.get? b=some o->s'.heap.get? b=some o)(T:zcF H xs ts)(r:Vals xs us){i j:Nat}(hi:i < ts.length)(hj:j < ts.length)(C:Bool->Shared->Prop)
   (h:C (decide (rank ts i < rank ts j)) s'):G6 X.prog X.w A (PyProof.Rows.tuples' true) us i j C s':=by
 rw[zkY hi] at h;obtain⟨a,ea,ha,_⟩:=zdO T hi;obtain⟨b,eb,hb,_⟩:=zdO T hj;obtain⟨u,eu,ru⟩:=r.get ea;obtain⟨u2,eu2,ru2⟩:=r.get eb;cases ru;cases ru2;obtain⟨ia,va,⟨oa,ga,ca,na,da⟩,_⟩:=I.tuple (SqT.of (K:=X.K) ha);obtain⟨ib,vb,⟨ob,gb,cb,nb,db⟩,_⟩:=I.tuple (SqT.of (K:=X.K) hb);unfold G6;rw[AD,AD,eu,eu2];refine PySem.W.kat_lt (hk _ _ (by rw[ha];simp) ga) da (hk _ _ (by rw[hb];simp) gb) db ?_;have:=zem (prog:=X.prog) (w:=X.w) (A:=A) (Q:=C) (s:=s') 0 va vb h;simpa using this
end
section
variable {X:Cx} {pins:List (Addr×Obj)} {σ:L2.St} {H:Hp} {s:Shared}
theorem zgl{h':Heap}(I:Inv X pins σ H s)(hk:∀ b o,H b≠none->s.heap.get? b=some o->h'.get? b=some o):∀ {xs:List V} {us:List Value} {ts:List (List Int)},zcF H xs ts->Vals xs us ->
   ∃ fs:List Value,PySem.W.KatTups h' us fs/\fs.length=us.length/\∀ v∈fs,∃ i t,v=F6 i t
 | _,_,[],.nil,.nil=>⟨[],HI,rfl,fun v hv=>absurd hv (by simp)⟩
 | _,_,t::ts,.cons r q,.cons rv rvs=>by
   obtain⟨a,rfl,ha,hn⟩:=r;cases rv;obtain⟨fs,h1,h2,h3⟩:=zgl I hk q rvs;obtain⟨its,va,⟨o,g,c,n,d⟩,_⟩:=I.tuple (SqT.of (K:=X.K) ha)
   cases t with
   | nil=>exact absurd rfl hn
   | cons x t =>
     cases va with
     | @cons _ u _ us' ru rus =>
       obtain⟨tk,rfl⟩:=ru;refine⟨.int x tk::fs,HF (hk _ _ (by rw[ha];simp) g) c d (by simp) h1,by rw[A6,A6,h2],fun v hv=>?_⟩
       rcases List.mem_cons.mp hv with rfl | hv
       . exact⟨x,tk,rfl⟩
       . exact h3 v hv
end
theorem zgN{P:Program}{w:World}{H:Hp}{h:Heap}{a:Addr}{o:HO}(x:zdi P w H h a o):∃ u,h.get? a=some u:=by
 cases o with
 | lst xs=>obtain⟨_,_,_,_,e⟩:=x;exact⟨_,e⟩
 | tup xs=>obtain⟨_,_,_,o,e,_⟩:=x;exact⟨_,e⟩
 | dK kvs=>obtain⟨_,_,_,_,o,_,_,e,_⟩:=x;exact⟨_,e⟩
 | dT kvs=>obtain⟨_,_,_,_,o,_,_,e,_⟩:=x;exact⟨_,e⟩
 | set S n=>obtain⟨o,_,_,_,e,_⟩:=x;exact⟨_,e⟩
 | ins C dx fs=>obtain⟨_,_,_,e,_⟩:=x;exact⟨_,e⟩
 | own y=>exact x
 | xd fs=>obtain⟨_,⟨_,_,_,e,_⟩,_⟩:=x;exact⟨_,e⟩
 | rng lo hi=>obtain⟨_,_,_,e⟩:=x;exact⟨_,e⟩
 | frz ob u=>obtain⟨e,_⟩:=x;exact⟨_,e⟩
 | tbl ps=>exact⟨_,x⟩
 | met f y=>exact⟨_,x⟩
 | ext φ=>obtain⟨_,e,_⟩:=x;exact e
theorem zoy{h:Heap}{a:Addr}{m m':Str->Option Value}(x:h.Ns a m)(y:h.Ns a m'):m=m':=by
 obtain⟨o,es,ep,ho,hd,_,hm⟩:=x;obtain⟨o',es',ep',ho',hd',_,hm'⟩:=y;rw[ho] at ho';cases ho';rw[hd] at hd';cases hd'
 funext n
 rw[<-hm n,hm' n]
section
variable {X:Cx} {pins:List (Addr×Obj)} {σ:L2.St} {H:Hp} {s:Shared}
theorem Inv.laidAt{h':Heap}{m:Str->Option Value}{a:Addr}{o:HO}(I:Inv X pins σ H s)(k:∀ b u,b≠X.env.locals->s.heap.get? b=some u->h'.get? b=some u)(ns:∀ m,s.heap.Ns X.env.locals m->h'.Ns X.env.locals m)(hL:∃ u,h'.get? X.env.locals=some u)
   (ha:s.heap.get? a=none) (hH:H a=none) (haL:a≠X.env.locals) (new:zdi X.prog X.w (upd H a o) h' a o):Inv X pins σ (upd H a o) { s with heap:=h' }:=by
 have na:∀ b u,s.heap.get? b=some u->b≠a:=fun b u e z=>by rw[z,ha] at e;cases e
 refine Inv.step (t':=s.toks) (ch:=[]) (g':=s.gens) (d':=s.drawn) I (fun b hb=>absurd hb (by simp)) (fun b u h1 _ _ e _=>k b u h1 e) (fun b u h1 _ _ e _=>⟨u.slots,k b u h1 e⟩) (fun b u _ e n=>by rw[zaO (na b u e)];exact n) (fun b u _ e=>?_)
   (fun b xs e=>by rw[zaO (zaF e hH)];exact e) (fun b u v e=>by rw[zaO (zaF e hH)];exact e) (fun b ps e=>⟨#[],by rw[zaO (zaF e hH),e];simp⟩) ns (fun b u e=>?_) I.bare
 . by_cases hb:b=X.env.locals
   . rw[hb];exact hL
   . exact⟨u,k b u hb e⟩
 . by_cases hb:b=a
   . subst hb;rw[zbv] at e;cases e;exact new
   . rw[zaO hb] at e;refine (I.hok b u e).stay (fun c v hc q=>k c v (fun z=>?_) q) (fun c q=>by rw[zaO (zaF q hH)];exact q) fun c xs q=>by rw[zaO (zaF q hH)];exact q
     subst z
     rcases hc with rfl | hc
     . rw[I.free] at e;cases e
     . rw[I.free] at hc;cases hc
theorem zhf{xs:List V}{ts:List (List Int)}{l:Addr}{Q:VK}(I:Inv X pins σ H s)(hl:SqL X.K H l xs)(T:zcF H xs ts)(h2:2<=ts.length)(h64:ts.length < 64)
   (h:∀ (q:Array Nat) (p:Addr),q.Perm (Cv (AX ts.length))->Srt.Up (rank ts) q ts.length->H p=none->Q (.ref p) (upd H p (.lst (q.toList.map fun i=>xs.getD i .non)))) :
   wpAny (model X.prog X.w) X.A (call (.builtin "sorted") [.ref l]) (EP X pins σ Q) X.xe s:=by
 obtain⟨its,rv,pl,hz⟩:=I.list hl;have hlen:its.length=ts.length:=by
   have a:=rv.length;have b:=BR T;omega
 obtain⟨m,F⟩:=I.fr;have trkL:∀ b,H b≠none->b≠X.env.locals:=fun b hb z=>hb (by rw[z];exact I.free);have trkB:∀ b,H b≠none->X.base.get? b=none:=fun b hb=>by
   cases e:X.base.get? b with
   | none=>rfl
   | some o=>exact absurd (I.bs b o e).2 hb
 refine PySem.W.kat_sorted F (zgf (g:=X.base) (h:=s.heap) (L:=X.env.locals)) pl.isList (by omega) (by omega) fun D e1 h' F' N' hlt=>?_;have keep:∀ {h2:Heap} {o:Obj},Fr X.base X.env.locals h2 m->News X.base X.env.locals h2 ((D,o)::zd6 X.base s.heap X.env.locals)->∀ b u,b≠X.env.locals->s.heap.get? b=some u->h2.get? b=some u:=fun {h2 o} F2 N2 b u hb e=>by
   cases q:X.base.get? b with
   | some v =>
     have z:=(I.bs b v q).1;rw[e] at z;cases z;exact F2.keep b _ q
   | none=>exact (N2 (b,u) (Ah _ (zdn hb q e))).1
 have hk:∀ b o,H b≠none->s.heap.get? b=some o->h'.get? b=some o:=fun b o hb e=>keep F' N' b o (trkL b hb) e;have hDD:=N' _ Aj;have hsD:s.heap.get? D=none:=by
   cases e:s.heap.get? D with
   | none=>rfl
   | some u=>exact absurd (hlt _ (zdn hDD.2.1 hDD.2.2 e)) (AY _)
 have hHD:H D=none:=by
   cases e:H D with
   | none=>rfl
   | some o =>
     obtain⟨u,hu⟩:=zgN (I.hok D o e);rw[hsD] at hu;cases hu
 obtain⟨fs,k1,k2,k3⟩:=zgl (h':=h') I hk T rv;refine GI (s:={ s with heap:=h' }) (T:=.type "int") k1 (by omega) (fun v hv=>?_) rfl ?_
 . obtain⟨i,t,rfl⟩:=k3 v hv;exact Fw rfl
 have ok:=Srt.sort_ok (n:=its.length) (r:=rank ts) (by omega);refine zqP (n:=its.length) (r:=rank ts) (s:={ s with heap:=h' }) (fun i j hi hj C hC=>zpb (s':={ s with heap:=h' }) I hk T rv (by omega) (by omega) C hC) (fun q hq=>?_) ok;refine FM F' N' (Gv fun p hp=>AB (hlt p hp)) fun h2 c F2 N2=>?_;have hD2:=(N2 _ Aj).1;rw[hlen] at hq;have vals:Vals (q.toList.map fun i=>xs.getD i .non) (q.toList.map fun i=>its.getD i AW):=by
   have hmem:∀ i∈q.toList,i < xs.length:=fun i hi=>by
     have:i∈(Cv (AX ts.length)).toList:=(Array.perm_iff_toList_perm.mp hq.1).mem_iff.mp hi;have hr:=rv.length;simp at this;omega
   generalize q.toList=ql at hmem
   induction ql with
   | nil=>exact .nil
   | cons i r ih =>
     refine .cons ?_ (ih fun j hj=>hmem j (Ah _ hj));have hi:=hmem i Aj;obtain⟨u,eu,ru⟩:=rv.get (Am hi);show RelV (xs.getD i V.non) (its.getD i AW);rw[AD,AD,Am hi,eu];exact ru
 have hql:q.toList.length=ts.length:=by
   have:=(Array.perm_iff_toList_perm.mp hq.1).length_eq;simpa using this
 have J:Inv X pins σ (upd H D (.lst (q.toList.map fun i=>xs.getD i .non))) { s with heap:=h2 } :=
   Inv.laidAt (m:=m) I (keep F2 N2) (fun m' hm'=>by rw[zoy hm' F.ns];exact F2.ns) (let ⟨o,_,_,e,_⟩:=F2.ns;⟨o,e⟩) hsD hHD hDD.2.1 ⟨by rw[Ag,hql];exact lt64 h64,_,c,vals,hD2⟩
 exact⟨.ref D,_,J,rfl,h q D hq.1 hq.2 hHD⟩
end
theorem ze1{α:Type}(ts:List α)(d:α):(AX ts.length).map (fun i=>ts.getD i d)=ts:=by
 apply GJ
 . simp
 . intro i h1 h2;simp[AD,Am h2]
theorem zei{ts:List (List Int)}{q:Array Nat}(hp:q.Perm (Cv (AX ts.length)))(hu:Srt.Up (rank ts) q ts.length):q.toList.map (fun i=>ts.getD i [])=zeC ts:=by
 have hl:=Array.perm_iff_toList_perm.mp hp;have hl:q.toList.Perm (AX ts.length):=by simpa using hl
 have hsz:q.toList.length=ts.length:=by rw[hl.length_eq,Ck]
 have p1:(q.toList.map fun i=>ts.getD i []).Perm ts:=by
   have:=hl.map fun i=>ts.getD i [];rw[ze1] at this;exact this
 refine zda (le:=fun a b=>tle a b=true) (p1.trans (BA ts tle).symm) ?_ (Bw (fun a b c=>zcb a b c) zcw ts) fun a _ b _=>zfW;rw[Ez];intro i j hi hj hij;rw[GK,GK];rw[Ag] at hi hj;have hu:=hu i j (Cr hij) (by omega);have gi:∀ (k:Nat) (hk:k < q.toList.length),q.getD k 0=q.toList[k]:=fun k hk=>by
   rw[Bj,<-Az,Am hk];rfl
 unfold Srt.R at hu;rw[gi i hi,gi j hj] at hu;have lt:∀ k∈q.toList,k < ts.length:=fun k hk=>List.mem_range.mp (hl.mem_iff.mp hk);have e:=zkY (ts:=ts) (i:=q.toList[j]) (j:=q.toList[i]) (lt _ (B8 hj));rw[decide_eq_false (by omega)] at e;unfold tle;rw[<-e];rfl
noncomputable def intsOf:List D->Option (List Int)
 | []=>some []
 | .int i::r=>(intsOf r).map fun is=>i::is
 | _=>none
theorem zhz{d:D}{r:List D}{ss:List Int}(h:intsOf (d::r)=some ss):∃ x xs,d=.int x/\intsOf r=some xs/\ss=x::xs:=by
 cases d with
 | int x =>
   obtain⟨xs,e,h⟩:=zaj h;exact⟨x,xs,rfl,e,h.symm⟩
 | _=>cases h
noncomputable def rowOf:D->Option (List Int)
 | .tup ds=>(intsOf ds).bind fun t=>if (!t.isEmpty)=true then some t else none
 | _=>none
noncomputable def rowsOf:List D->Option (List (List Int))
 | []=>some []
 | d::r=>(rowOf d).bind fun t=>(rowsOf r).map fun ts=>t::ts
noncomputable def tupD(t:List Int):D:=.tup (t.map D.int)
section
variable {X:Cx} {K:Ae} {H:Hp} {io:List Addr} {st st':Sto}
theorem ints_rep:∀ {xs:List V} {ds:List D} {t:List Int},Reps K H io xs ds->intsOf ds=some t->xs=t.map V.int/\ds=t.map D.int
 | _,[],t,h,e=>by cases e;exact⟨h,rfl⟩
 | _,d::ds,t,h,e=>by
   obtain⟨y,ys,rfl,h1,h2⟩:=h;obtain⟨x,rest,rfl,e2,rfl⟩:=zhz e;obtain⟨a,b⟩:=ints_rep h2 e2
   cases (show y=.int x from h1)
   rw[a,b];exact⟨rfl,rfl⟩
theorem zih:∀ {xs:List V} {ds:List D} {ts:List (List Int)},Reps K H io xs ds->rowsOf ds=some ts->zcF H xs ts/\ds=ts.map tupD
 | _,[],ts,h,e=>by
   cases e;cases (show _=[] from h);exact⟨.nil,rfl⟩
 | _,d::ds,ts,h,e=>by
   obtain⟨y,ys,rfl,h1,h2⟩:=h;obtain⟨t,e1,e⟩:=zag e;obtain⟨us,e2,e⟩:=zaj e;subst e;obtain⟨a,b⟩:=zih h2 e2
   cases d with
   | tup zs =>
     obtain⟨t',f1,f2⟩:=zag e1;obtain⟨hn,f2⟩:=zav f2;cases f2;obtain⟨p,vs,rfl,hp,rs⟩:=h1;obtain⟨q1,q2⟩:=ints_rep rs f1;subst q1;refine⟨.cons ⟨p,rfl,hp,fun z=>?_⟩ a,?_⟩
     . rw[z] at hn;exact absurd hn (by decide)
     . rw[b,q2];rfl
   | _=>cases e1
noncomputable def zeA:GN
 | [.ref n],st=>(zca st n).bind fun ds=>(rowsOf ds).bind fun ts=>if (decide (2<=ts.length)&&decide (ts.length < 64))=true then some (.ref st.length,st++[.lst ((zeC ts).map tupD)]) else none
 | _,_=>none
theorem zgJ{xs:List V}{ts:List (List Int)}(r:Reps K H io xs (ts.map tupD)):∀ {q:List Nat},(∀ i∈q,i < ts.length)->Reps K H io (q.map fun i=>xs.getD i .non) ((q.map fun i=>ts.getD i []).map tupD)
 | [],_=>rfl
 | i::q,h=>by
   have hi:=h i Aj;have hg:(ts.map tupD)[i]?=some (tupD (ts.getD i [])):=by
     rw[AA,Am hi,AD,Am hi];rfl
   obtain⟨v,hv,rv⟩:=r.get hg;refine⟨_,_,rfl,?_,zgJ r fun j hj=>h j (Ah _ hj)⟩;show Rep K H io (xs.getD i .non) _;rw[AD,hv];exact rv
theorem zfE:zd8 X (.builtin "sorted") zeA:=by
 rintro pins s σ H xs us Q I r ⟨ds,st,io,d,st',R,S,e,k⟩;unfold zeA at e
 split at e
 . rename_i n;obtain⟨zs,e0,e⟩:=zag e;obtain⟨ts,e1,e⟩:=zag e;obtain⟨hl,e⟩:=zav e;cases e;rw[An] at hl;obtain⟨v,rfl,p,rfl,hp⟩:=R.one;obtain⟨u,rfl,ru⟩:=r.one;cases ru;obtain⟨ys,hx,r1⟩:=zbf S hp e0;obtain⟨T,hd⟩:=zih r1 e1;subst hd;refine zhf I hx T (of_decide_eq_true hl.1) (of_decide_eq_true hl.2) fun q p' hq hu hf=>?_;have hm:∀ i∈q.toList,i < ts.length:=fun i hi=>by
     have:=(Array.perm_iff_toList_perm.mp hq).mem_iff.mp hi;simpa using this
   have rr:=zgJ r1 hm;rw[zei hq hu] at rr;exact k.lst S rr hf
 . cases e
end
section
variable {X:Cx} {K:Ae} {H:Hp} {io:List Addr} {st st':Sto} {a b c e:Expr} {es:List Expr} {ma mb mc m:ME} {mm:MA} {pos:Pos} {pins:List (Addr×Obj)} {σ:L2.St} {s:Shared}
noncomputable def orO{α:Type}:Option α->Option α->Option α
 | some x,_=>some x
 | none,y=>y
theorem zb7{α:Type}{x y:Option α}{z:α}(h:orO x y=some z):x=some z\/y=some z:=by
 cases x with
 | none=>exact .inr h
 | some w=>exact .inl h
noncomputable def orG(g h:G2):G2:=fun x y st=>orO (g x y st) (h x y st)
noncomputable def orN(g h:GN):GN:=fun xs st=>orO (g xs st) (h xs st)
theorem zhr{f:Value->Value->Sem Value}{g h:G2}(p:OpM X f g)(q:OpM X f h):OpM X f (orG g h):=by
 rintro pins s σ H x y v u Q I rx ry ⟨dx,dy,st,io,d,st',Rx,Ry,S,e,k⟩
 rcases zb7 e with e | e
 . exact p pins s σ H x y v u Q I rx ry ⟨dx,dy,st,io,d,st',Rx,Ry,S,e,k⟩
 . exact q pins s σ H x y v u Q I rx ry ⟨dx,dy,st,io,d,st',Rx,Ry,S,e,k⟩
theorem ze9{f:Value}{g h:GN}(p:zd8 X f g)(q:zd8 X f h):zd8 X f (orN g h):=by
 rintro pins s σ H xs us Q I r ⟨ds,st,io,d,st',R,S,e,k⟩
 rcases zb7 e with e | e
 . exact p pins s σ H xs us Q I r ⟨ds,st,io,d,st',R,S,e,k⟩
 . exact q pins s σ H xs us Q I r ⟨ds,st,io,d,st',R,S,e,k⟩
theorem zgS{g:G2}{ρ:Rho}{x y:D}{s0 s1 s2:Sto}{r:D×Sto}(h1:ma ρ s0=some (x,s1))(h2:mb ρ s1=some (y,s2))(h3:g x y s2=some r):mBin g ma mb ρ s0=some r:=by
 unfold mBin;rw[h1];show HB (mb ρ s1) _=_;rw[h2];exact h3
theorem zpL{g h:G2}(p:SE X e (mBin g ma mb))(q:SE X e (mBin h ma mb)):SE X e (mBin (orG g h) ma mb):=by
 rintro pins s σ H Q I ⟨ρ,st,io,d,st',E,S,e,k⟩;obtain⟨⟨x,s1⟩,e1,e⟩:=zag e;obtain⟨⟨y,s2⟩,e2,e⟩:=zag e
 rcases zb7 e with e | e
 . exact p pins s σ H Q I ⟨ρ,st,io,d,st',E,S,zgS e1 e2 e,k⟩
 . exact q pins s σ H Q I ⟨ρ,st,io,d,st',E,S,zgS e1 e2 e,k⟩
theorem zpN{g h:G2}(p:SB X e (mTst (mBin g ma mb)))(q:SB X e (mTst (mBin h ma mb))):SB X e (mTst (mBin (orG g h) ma mb)):=by
 rintro pins s σ H Q I ⟨ρ,st,io,d,st',E,S,e,k⟩;have e:=zjz e;obtain⟨⟨x,s1⟩,e1,e⟩:=zag e;obtain⟨⟨y,s2⟩,e2,e⟩:=zag e
 rcases zb7 e with e | e
 . exact p pins s σ H Q I ⟨ρ,st,io,d,st',E,S,by unfold mTst;rw[zgS e1 e2 e];rfl,k⟩
 . exact q pins s σ H Q I ⟨ρ,st,io,d,st',E,S,by unfold mTst;rw[zgS e1 e2 e];rfl,k⟩
noncomputable def zqV:G2:=fun d k st=>match d with
 | .ref n=>(look st n k).bind fun r=>r.map fun v=>(v,st)
 | _=>none
noncomputable def ixA:G2:=orG idxD zqV
theorem zbm(hu:X.A.units+1 < cLine)(ha:SE X a ma)(hb:SE X b mb)(hs:zjr b:=by intro _ _;rfl)(hs':NoSl b:=by intro _ _;rfl):SE X (.Subscript a b pos) (mBin ixA ma mb) :=
 zpL (zrD ha hb hs) (show SE X (.Subscript a b pos) (zrd ma mb) from znT hu ha hb hs')
noncomputable def dinD(neg:Bool):G2:=fun k d st=>match d with
 | .ref n=>(look st n k).map fun r=>(.bl (if neg then !r.isSome else r.isSome),st)
 | _=>none
noncomputable def ziC:G2:=orG (inD true) (dinD true)
theorem zjV(hu:X.A.units+100 < cLine)(ha:SE X a ma)(hb:SE X b mb)(hm:behindInMarks .NotIn b=false:=by rfl):SB X (.Compare a [.NotIn] [b] pos) (mTst (mBin ziC ma mb)) :=
 zpN (zcv (zj7 hu) ha hb hm) (show SB X _ (mTst (mDIn true ma mb)) from zjW (by omega) ha hb hm)
noncomputable def slA:D->Option Int->Option Int->Sto->Option (D×Sto):=fun x lo hi st=>orO (slD x lo hi st) (slS x lo hi st)
noncomputable def mSlA(m:ME)(l h:MO):ME:=fun ρ st=>(m ρ st).bind fun (x,s1)=>(l ρ s1).bind fun (lo,s2)=>(h ρ s2).bind fun (hi,s3)=>slA x lo hi s3
theorem zdH{lo hi:Option Expr}{ml mh:MO}{p2:Pos}(he:SE X e m)(hl:SO X lo ml)(hu:SO X hi mh):SE X (.Subscript e (.Slice lo hi none p2) pos) (mSlA m ml mh):=by
 rintro pins s σ H Q I ⟨ρ,st,io,d,st',E,S,e0,k⟩;obtain⟨⟨x,s1⟩,e1,e0⟩:=zag e0;obtain⟨⟨lo',s2⟩,e2,e0⟩:=zag e0;obtain⟨⟨hi',s3⟩,e3,e0⟩:=zag e0
 rcases zb7 e0 with e0 | e0
 . exact zlS he hl hu pins s σ H Q I ⟨ρ,st,io,d,st',E,S,by simp only[mSl,e1,e2,e3,Ac];exact e0,k⟩
 . exact zjR he hl hu pins s σ H Q I ⟨ρ,st,io,d,st',E,S,by simp only[mSlS,e1,e2,e3,Ac];exact e0,k⟩
noncomputable def zlq:D->Sto->Option (Wk×Sto)
 | .ref n,s=>(zca s n).map fun ds=>(⟨ds,[(n,ds)]⟩,s)
 | .tup ds,s=>some (⟨ds,[]⟩,s)
 | _,_=>none
noncomputable def mW(m:ME):MI:=fun ρ st=>(m ρ st).bind fun (d,s)=>zlq d s
theorem zkV{tg l:Expr}(hl:SE X l m):SI X tg l (mW m):=by
 rintro pins s σ H R I ⟨ρ,st,io,W,st',E,S,e0,k⟩;obtain⟨⟨d,s1⟩,e1,e0⟩:=zag e0
 cases d with
 | ref n=>exact znG hl pins s σ H R I ⟨ρ,st,io,W,st',E,S,by unfold mWL;rw[e1];exact e0,k⟩
 | tup ds=>exact zpH hl pins s σ H R I ⟨ρ,st,io,W,st',E,S,by unfold mWT;rw[e1];exact e0,k⟩
 | _=>cases e0
noncomputable def setD:G3:=fun o i v st=>match o,i with
 | .ref n,.int k=>match st[n]? with
   | some (.lst ds)=>(ixN ds.length k).map fun j=>st.set n (.lst (ds.set j v))
   | _=>none
 | _,_=>none
theorem zrB:SetM X setD:=by
 rintro pins s σ H o i v ov iv u Q I ro ri rv ⟨d1,d2,d3,st,io,st',R1,R2,R3,S,e,k⟩
 cases d1 with
 | ref n =>
   cases d2 with
   | int j =>
     unfold setD at e;dsimp only at e
     split at e
     . rename_i ds e0;obtain⟨q,e1,e⟩:=zaj e;cases e;obtain⟨p,rfl,hp⟩:=R1;obtain⟨ys,hH,r⟩:=S.ob n p _ hp e0;refine set_list pins s σ H _ _ v ov iv u Q I ro ri rv ⟨p,ys,j,q,rfl,R2,hH,by rw[r.length];exact e1,?_⟩;obtain⟨E',S'⟩:=zim (o:=.lst (ys.set q v)) (ob:=.lst (ds.set q d3)) S hp e0 (fun o u z=>by rw[hH] at z;cases z) fun H' T e'=>⟨_,e',(Reps.mono T r).set q (Rep.mono T R3)⟩
       exact k _ [] E' S'
     . cases e
   | _=>cases e
 | _=>cases d2 <;> cases e
noncomputable def putA(mo mi mv:ME):MS:=fun ρ st=>orO (mAsg mv (gSb setD mo mi) ρ st) (zpl mo mi mv ρ st)
theorem zlC{o i value:Expr}{mo mi mv:ME}{pos':Pos}(hu:X.A.units+1 < cLine)(ho:SE X o mo)(hi:SE X i mi)(hv:SE X value mv)(hs:swapsWith value (some (.Subscript o i pos')) pos.line X.env=pure false:=by rfl)
   (ha:∀ v,assign (.Subscript o i pos') X.env v=(do
     let ov <-holding [v] (eval o X.env)
     let iv <-holding [v,ov] (eval i X.env)
     standAt pos'
     holding [v,ov,iv] (setItem ov iv v)
     release [v,ov,iv] []):=by intro _;rfl)
   (hs2:swapsWithSole [.Subscript o i pos'] value pos.line X.env=pure false:=by rfl) (hw:swappedStores [.Subscript o i pos'] value X.env=pure none:=by rfl)
   (h1:(assignEach [.Subscript o i pos'] X.env).map (·.2)=[assign (.Subscript o i pos') X.env]:=by rfl):SS X (.Assign [.Subscript o i pos'] value pos) (putA mo mi mv):=by
 intro pins s σ H N I h;obtain⟨ρ,st,io,f,st',E,S,e,w⟩:=zc9.mp h
 rcases zb7 e with e | e
 . exact zpA hv (zpJ ho hi zrB ha) hs2 hw h1 pins s σ H N I (znf E S e w)
 . exact znB hu ho hi hv hs pins s σ H N I (znf E S e w)
noncomputable def mPar(i j:Nat)(mm:MA):MS:=fun ρ st=>(mm ρ st).bind fun (xs,s)=>match xs with
 | [x,y]=>some (.nx ((ρ.set i (some x)).set j (some y)),s)
 | _=>none
theorem znA{i j:Nat}{x y:Str}{px py pt:Pos}{kt k2 pt2}(hc:X.calm=true)(hN:X.N.Nodup)(hi:X.N[i]?=some x)(hj:X.N[j]?=some y)(hij:i≠j)
   (hx:X.env.scope.names.lookup x=some .local) (hy:X.env.scope.names.lookup y=some .local) (ha:SA X [a,b] mm)
   (hw:swappedStores [.Tuple [.Name x px,.Name y py] kt pt] (.Tuple [a,b] k2 pt2) X.env=pure (some [x,y]):=by rfl)
   (hs:swapsWithSole [.Tuple [.Name x px,.Name y py] kt pt] (.Tuple [a,b] k2 pt2) pos.line X.env=pure false:=by rfl) :
   SS X (.Assign [.Tuple [.Name x px,.Name y py] kt pt] (.Tuple [a,b] k2 pt2) pos) (mPar i j mm):=PS.imp (zpY hc hN hi hj hij hx hy ha hw hs) fun N σ H h=>by
 obtain⟨ρ,st,io,f,st',E,S,e,w⟩:=zc9.mp h;obtain⟨⟨xs,s1⟩,e1,e⟩:=zag e
 match xs,e,e1 with
 | [u,v],e,e1 =>
   cases e;refine⟨ρ,st,io,_,_,E,S,e1,fun vs H1 k1 X1 S1 R1=>?_⟩;obtain⟨p,q,rfl,r1,r2⟩:=R1.two;exact⟨p,q,rfl,w _ H1 k1 X1 S1 (((E.ext S X1).set i r1).set j r2)⟩
def zbF(P:Program)(w:World)(K:Ae)(mg:Str->Option Value)(base:Heap)(k:Nat)(x:Str)(n:Nat)(g:GN):Prop :=
 ∃ f fd ps,FnOk P w K mg base CX0 k f fd ps (spM K n g)/\mg x=some (.ref f)/\Co K (.ref f)=true/\Binds K fd ps []
def zap(n:Nat)(mm:MA):Prop:=∀ ρ st xs s,mm ρ st=some (xs,s)->xs.length=n
theorem zap.nil:zap 0 mNil:=fun _ _ _ _ h=>zmq h
theorem zap.cons{n:Nat}(h:zap n mm):zap (n+1) (zab m mm):=fun _ _ _ _ q=>zkb h q
theorem zai{x:Str}{p:Pos}{k n:Nat}{g:GN}(F:zbF X.prog X.w X.K X.mg X.base k x n g)(hr:Room k X.A)(hg:Gl X x)(ha:SA X (e::es) mm)(hl:zap n mm)(hdb:(x==("__debug__":Str))=false:=by decide)
   (he:starEach (e::es) X.env=(false,eval e X.env)::starEach es X.env:=by rfl) (hpl:(backTo pos (starEach es X.env)).any (·.1)=false:=by rfl) (hn:(e::es).length=n:=by rfl) :
   SE X (.Call (.Name x p) (e::es) [] pos) (zaG g mm):=by
 obtain⟨f,fd,ps,F,hm,hk,hb⟩:=F;exact znU F hr hg hm hk hb ha hdb he hpl hn hl
def Laid(K:Ae)(mg:Str->Option Value)(x:Str)(st:Stmt)(ps:List Str):Prop:=∃ f fd,Fun K x x st f fd/\mg x=some (.ref f)/\Binds K fd ps []
theorem zcC{P:Program}{w:World}{mg:Str->Option Value}{base:Heap}{x:Str}{st:Stmt}{N ps:List Str}{k:Nat}{m:MS}(L:Laid K mg x st ps)(S:FnScope N ps (zaA st))
   (hbody:∀ (f:Addr) (cdv:Value) (A:Around) (outer:List Env) (s:Shared) (H:Hp) (E:XK),Room k (A.deeper (envOfC x (zaA st) s.heap.objs.size f cdv)) ->
     SSs (cxOf CX0 P w K mg base N x (zaA st) f cdv A outer s H E).nox (zcJ st) m):zbF P w K mg base (k+1) x ps.length (fnM N.length m):=by
 obtain⟨f,fd,F,hm,hb⟩:=L;exact⟨f,fd,ps,fn_m F S (hbody f),hm,F.kp,hb⟩
noncomputable def noG:GN:=fun _ _=>none
noncomputable def recG(n:Nat)(G:GN->MS):Nat->GN
 | 0=>noG
 | k+1=>fnM n (G (recG n G k))
theorem zlf{P:Program}{w:World}{mg:Str->Option Value}{base:Heap}{x:Str}{st:Stmt}{N ps:List Str}{j:Nat}{G:GN->MS}(L:Laid K mg x st ps)(S:FnScope N ps (zaA st))
   (hbody:∀ (i:Nat) (g:GN),zbF P w K mg base (j+i) x ps.length g->∀ (f:Addr) (cdv:Value) (A:Around) (outer:List Env) (s:Shared) (H:Hp) (E:XK),Room (j+i) (A.deeper (envOfC x (zaA st) s.heap.objs.size f cdv)) ->
     SSs (cxOf CX0 P w K mg base N x (zaA st) f cdv A outer s H E).nox (zcJ st) (G g)):∀ i,zbF P w K mg base (j+i) x ps.length (recG N.length G i)
 | 0=>by
   obtain⟨f,fd,F,hm,hb⟩:=L;refine⟨f,fd,ps,⟨fun vs H Q E h=>?_,fun A outer s H args us vs Q E hr he hb hv h=>?_⟩,hm,F.kp,hb⟩
   . obtain⟨_,_,_,_,_,h,_⟩:=h;exact h
   . obtain⟨_,_,_,_,_,_,_,_,h,_⟩:=h;cases h
 | i+1=>zcC L S fun f cdv A outer s H E hr=>hbody i _ (zlf L S hbody i) f cdv A outer s H E hr
end
section
variable {prog:Program} {w:World} {A:Around} {E:Value->Shared->Prop} {s:Shared}
theorem zjE{at_:Addr}{v:Value}{k:Nat}{R:PySem.Fin->Shared->Prop}(g0:s.heap.get? at_=some (seqObj "list" #[v] k))(fin:R (.done (.ret .none)) { s with heap:=sortedHeap s.heap at_ [v] #[v] }) :
   wpAny (model prog w) A (Builtin.«list.sort» ⟨[.ref at_],[]⟩) R E s:=by
 have lt0:=Ak g0;obtain⟨ep,g1⟩:∃ ep,(s.heap.update at_ (Bf fun _=>(#[]:Array Value))).get? at_=some (seqObj "list" #[] ep):=⟨_,get?_update_seq g0 fun _=>#[]⟩
 have g2:(((s.heap.update at_ (Bf fun _=>(#[]:Array Value))).push (seqObj "tuple" #[v] 0)).push (seqObj "list" #[] 0)).get? at_=some (seqObj "list" #[] ep):=Ad _ (Ad _ g1);rw[list_sort_plain];refine Aa (listItems_at g0 rfl (Aa (Eg g0 rfl (Aa (Fn g1 rfl (Aa (D0 (Aa (DA (A0 ?_))))))))));show wpAny (model prog w) A _ R E { s with heap:=((s.heap.update at_ (Bf fun _=>(#[]:Array Value))).push (seqObj "tuple" #[v] 0)).push (seqObj "list" #[] 0) };have two:(#[v]:Array Value).size < 2:=by show 1 < 2;decide
 have same:(arrOf (HG general' ((#[v]:Array Value).zip #[v]) #[] 7 none)).map (·.2)=#[v]:=by
   show (((#[v]:Array Value).zip #[v]).map (·.2))=#[v];simp
 dsimp only;rw[if_pos two,if_pos two];refine Aa (Ab ?_);rw[G7];refine Aa (Ab ?_);dsimp only;rw[same];refine Aa (Fn g2 rfl (Aa (Eg g2 rfl ?_)));simp only[bne_self_eq_false,Aq,if_false];exact Ab fin
theorem zhg{l:Addr}{v:Value}{R:Value->Shared->Prop}(hl:s.heap.IsList l [v].toArray)(fin:R (.ref (s.heap.objs.size+1)) { s with heap:=sortedAll s.heap [v] #[v] }) :
   wpAny (model prog w) A (call (.builtin "sorted") [.ref l]) R E s:=by
 have sz:((s.heap.push (seqObj "list" #[] 0)).update s.heap.objs.size (Bf (·++[v].toArray))).objs.size=s.heap.objs.size+1:=(Heap.size_update ..).trans (size_push' ..);have g0:(((s.heap.push (seqObj "list" #[] 0)).update s.heap.objs.size (Bf (·++[v].toArray))).push (seqObj "list" [v].toArray 0)).get? (s.heap.objs.size+1)=some (seqObj "list" [v].toArray 0):=by
   rw[<-sz];exact Al _ rfl
 refine C6 kind_sorted plain_sorted entry_sorted (Gd _) ?_;unfold Builtin.«sorted»;refine Aa (m:=checkCount "sorted" 1 1 _) (Ab (Aa (collect_list hl (Aa (DA ?_)))));show wpAny _ _ _ _ _ { s with heap:=((s.heap.push (seqObj "list" #[] 0)).update s.heap.objs.size (Bf (·++[v].toArray))).push (seqObj "list" [v].toArray 0) };rw[sz];exact Aa (A0 (AC Fx ⟨_,g0,rfl⟩ Fb (zjE g0 ⟨_,rfl,Ab ⟨_,rfl,fin⟩⟩) (Fy _)))
end
section
variable {X:Cx} {K:Ae} {H:Hp} {io:List Addr} {st st':Sto}
noncomputable def zdR:GN
 | [.ref n],st=>(zca st n).bind fun ds=>if decide (ds.length=1)=true then some (.ref st.length,st++[.lst ds]) else none
 | _,_=>none
theorem zfG:zd8 X (.builtin "sorted") zdR:=by
 rintro pins s σ H xs us Q I r ⟨ds,st,io,d,st',R,S,e,k⟩;unfold zdR at e
 split at e
 . rename_i n;obtain⟨zs,e0,e⟩:=zag e;obtain⟨hl,e⟩:=zav e;cases e;obtain⟨y,rfl⟩:=List.length_eq_one_iff.mp (of_decide_eq_true hl);obtain⟨v,rfl,p,rfl,hp⟩:=R.one;obtain⟨u,rfl,ru⟩:=r.one;cases ru;obtain⟨ys,hx,r1⟩:=zbf S hp e0;obtain⟨its,rv,pl,hz⟩:=I.list hx;obtain⟨y',rfl,ry⟩:=r1.one;obtain⟨i,rfl,ri⟩:=rv.one;refine zhg pl.isList ?_;obtain⟨ep,hat⟩:=sortedAll_at s.heap [i] #[i];have hfree:H (s.heap.objs.size+1)=none:=I.hok.fresh (BE _);refine⟨.ref (s.heap.objs.size+1),upd H (s.heap.objs.size+1) (.lst [y']),I.laid (t':=s.toks) (a:=s.heap.objs.size+1) (fun b o q=>sortedAll_old q) (BE _) ⟨by show 1<=sizeLine;decide,[i],ep,rv,by simpa using hat⟩,rfl,?_⟩;exact k.lst S r1 hfree
 . cases e
noncomputable def zcT:GN:=orN zcY (orN zdR zeA)
theorem zd4:zd8 X (.builtin "sorted") zcT:=ze9 zfF (ze9 zfG zfE)
end
section
variable {prog:Program} {w:World} {A:Around} {E:Value->Shared->Prop} {s:Shared}
theorem ziS{d:Addr}{o:Obj}{R:Value->Shared->Prop}(ty:s.TypeIs (.ref d) "dict")(hd:(d==sysModules)=false)
   (k:R (.ref s.heap.objs.size) { s with heap:=s.heap.push { cls:=.type "dict_items",data:=.fields #[.ref d] } }):wpAny (model prog w) A (call (.builtin "dict.items") [.ref d]) R E s:=by
 refine AC EN ty PySem.F.entry_dict_items ?_ (PySem.F.args_dict_items_1 _);unfold Builtin.«dict.items» Builtin.Dict.noArgs;refine Aa (Aa (Fz ty ?_));show wpAny _ _ (pure d) _ _ s;refine Ab ?_;unfold DK;show wpAny _ _ ((if (d==sysModules)=true then _ else _) >>= _) _ _ s;rw[if_neg (show ¬ (d==sysModules)=true by rw[hd];decide)];exact Aa (Ab (Aa (Aw (Ab ⟨_,rfl,k⟩))))
theorem ziV{v d:Addr}{o:Obj}{es:Array DictEntry}{ep:Nat}{R:Value->Shared->Prop}(hv:s.heap.IsItemsView v d)(g:s.heap.get? d=some o)(dd:o.data=.dict es ep)
   (k:R (.ref s.heap.objs.size) { s with heap:=s.heap.push { cls:=.type "dict_itemiterator",data:=.fields #[.none,.bool false,.ref d,.int 0 0,.int es.size 0,.int ep 0,.none,.none] } }) :
   wpAny (model prog w) A (pyIter (.ref v)) R E s:=by
 obtain⟨vo,vg,vc,vd⟩:=id hv;refine B0 hv.typeIs F.slot_dict_items_iter (AC F.slot_dict_items_iter hv.typeIs F.entry_dict_items_iter ?go (F.args_dict_items_iter_1 _));unfold Builtin.«dict_items.__iter__» Hv G8;refine Aa (Ab (Aa (Aa (Bb vg vd (x:=.ref d) rfl (Ab (Aa (Aa (Cn g dd (Aa (CG g dd ?_))))))))));have own:BN "dict_itemiterator"=true:=by decide
 simp only[own,if_true];refine Aw (Ab ⟨_,rfl,"dict_itemiterator",_,⟨_,Al _ rfl,rfl⟩,F.slot_dict_itemiterator_next.lookup,?_⟩) (by
   simp only[sizeOk,Dk,Ao,AE,A6,Cg,Ff]
   omega)
 simpa[rawInt,Dk] using k
theorem ziU{it d:Addr}{i ep:Nat}{o:Obj}{es:Array DictEntry}{en:DictEntry}{ok ov:Value}{R:Option Value->Shared->Prop}(hit:IsItemIter s.heap it d i es.size ep ok ov)(g:s.heap.get? d=some o)(dd:o.data=.dict es ep)(hx:es[i]?=some en)
   (k:∀ h',IsItemIterOut h' it d (i+1) es.size ep en.key en.val s.heap.objs.size->h'.get? s.heap.objs.size=some { cls:=.type "tuple",data:=.seq #[en.key,en.val] }->h'.objs.size=s.heap.objs.size+1 ->
     (∀ b u,b≠it->s.heap.get? b=some u->h'.get? b=some u)->R (some (.ref s.heap.objs.size)) { s with heap:=h' }):wpAny (model prog w) A (pyNext (.ref it)) R E s:=by
 obtain⟨hp,gs,dr,tk,os⟩:=s;have ty:Eh ⟨hp,gs,dr,tk,os⟩ (.ref it) "dict_itemiterator":=⟨_,hit,rfl⟩
 have own:BN "dict_itemiterator"=true:=by decide
 have lt:it < hp.objs.size:=Ak hit;unfold pyNext;refine Aa (BD (AM (name:=A5 "__next__") ty F.slot_dict_itemiterator_next (AC F.slot_dict_itemiterator_next ty F.entry_dict_itemiterator_next ?_ (F.args_dict_itemiterator_next_1 _))));refine Aa (Ab (Aa (Aa ?_)));refine Aa (BW ty (Ab (Aa (BO hit rfl ?_))));simp only[own,if_true];show wpAny _ _ (if (AJ d==AW)=true then _ else _) _ _ _;rw[if_neg (show ¬ (AJ d==AW)=true from fun z=>Br z)];refine Aa (Ab (Aa (Cn g dd ?_)));rw[if_neg (by simp)];refine Aa (Ab (Aa (CG g dd ?_)));rw[if_neg (by simp)];refine Ab ?_;have ni:¬ ((i:Int) < 0):=by omega
 simp only[ni,if_false,A7,hx];refine Aa (Aa (BW ty (Ab (Aa (Dw ty ?_)))));show wpAny _ _ (setField (.ref it) 3 (rawInt ((i:Int)+1)) >>= _) _ _ ⟨hp,gs,dr,tk,os⟩;refine Aa (Bt hit (by simp) fun g1 i1 s1=>?_)
 replace s1:Bg it hp g1:=s1
 replace i1:IsItemIter g1 it d (i+1) es.size ep ok ov:=by
   have cast:((i+1:Nat):Int)=(i:Int)+1:=by omega
   unfold IsItemIter;rw[cast];simpa[rawInt] using i1
 have ty1:Eh ⟨g1,gs,dr,tk,os⟩ (.ref it) "dict_itemiterator":=⟨_,i1,rfl⟩
 refine Aa (A0 (Aa (Dw ty1 (Aa (Dw ty1 ?_)))));show wpAny _ _ (DG (.ref it) 6 en.key en.val) _ _ ⟨g1,gs,dr,tk,os⟩;unfold DG;refine Aa (D0 ?_);have i2:IsItemIter (g1.push { cls:=.type "tuple",data:=.seq #[en.key,en.val] }) it d (i+1) es.size ep ok ov:=Ad _ i1;have z1:g1.objs.size=hp.objs.size:=s1.1;generalize eg:g1.push { cls:=.type "tuple",data:=.seq #[en.key,en.val] }=g2 at i2;have t2:g2.get? hp.objs.size=some { cls:=.type "tuple",data:=.seq #[en.key,en.val] }:=by
   rw[<-eg,<-z1];exact Al _ rfl
 have z2:g2.objs.size=hp.objs.size+1:=by
   rw[<-eg,A4,z1]
 have k2:∀ b u,b≠it->hp.get? b=some u->g2.get? b=some u:=fun b u nb q=>by
   rw[<-eg];exact Ad _ (s1.extBut b u nb q)
 show wpAny _ _ (Dl (.ref it) >>= _) _ _ ⟨g2,gs,dr,tk,os⟩;rw[z1];clear eg i1 s1 ty1 z1 g1;unfold Dl;refine Aa (Aa (Bb i2 rfl (x:=.none) rfl (Ab ?_)));simp only[if_true];refine Aa (Bb i2 rfl (x:=ok) rfl (Aa (Bb i2 rfl (x:=ov) rfl (Aa (Bt i2 (by simp) fun g3 i3 s3=>?_)))))
 replace s3:Bg it g2 g3:=s3
 replace i3:IsItemIter g3 it d (i+1) es.size ep en.key ov:=i3
 refine Aa (Bt i3 (by simp) fun g4 i4 s4=>?_)
 replace s4:Bg it g3 g4:=s4
 replace i4:IsItemIter g4 it d (i+1) es.size ep en.key en.val:=i4
 refine Aa (Bt i4 (by simp) fun g5 i5 s5=>?_)
 replace s5:Bg it g4 g5:=s5
 replace i5:IsItemIterOut g5 it d (i+1) es.size ep en.key en.val hp.objs.size:=i5
 refine Aa (Bt i5 (by simp) fun g6 i6 s6=>?_)
 replace s6:Bg it g5 g6:=s6
 replace i6:IsItemIterOut g6 it d (i+1) es.size ep en.key en.val hp.objs.size:=i6
 have up:∀ b u,b≠it->g2.get? b=some u->g6.get? b=some u:=fun b u nb q=>s6.extBut b u nb (s5.extBut b u nb (s4.extBut b u nb (s3.extBut b u nb q)));refine Aa (Fo (Ab (Ab ⟨_,rfl,Ab (k g6 i6 (up _ _ (AQ lt) t2) ?_ fun b u nb q=>up b u nb (k2 b u nb q))⟩)));show g6.objs.size=hp.objs.size+1;rw[s6.1,s5.1,s4.1,s3.1,z2]
theorem ziT{it d:Addr}{i ep:Nat}{o:Obj}{es:Array DictEntry}{ok ov:Value}{R:Option Value->Shared->Prop}(hh:A.handled=none)(hit:IsItemIter s.heap it d i es.size ep ok ov)(g:s.heap.get? d=some o)(dd:o.data=.dict es ep)(hx:es[i]?=none)
   (k:∀ h',B9 it s.heap h'->R none { s with heap:=h' }):wpAny (model prog w) A (pyNext (.ref it)) R E s:=by
 have ty:s.TypeIs (.ref it) "dict_itemiterator":=⟨_,hit,rfl⟩
 have own:BN "dict_itemiterator"=true:=by decide
 unfold pyNext;refine Aa (BD (AM (name:=A5 "__next__") ty F.slot_dict_itemiterator_next (AC F.slot_dict_itemiterator_next ty F.entry_dict_itemiterator_next ?_ (F.args_dict_itemiterator_next_1 _))));refine Aa (Ab (Aa (Aa ?_)));refine Aa (BW ty (Ab (Aa (BO hit rfl ?_))));simp only[own,if_true];show wpAny _ _ (if (AJ d==AW)=true then _ else _) _ _ s;rw[if_neg (show ¬ (AJ d==AW)=true from fun z=>Br z)];refine Aa (Ab (Aa (Cn g dd ?_)));rw[if_neg (by simp)];refine Aa (Ab (Aa (CG g dd ?_)));rw[if_neg (by simp)];refine Ab ?_;have ni:¬ ((i:Int) < 0):=by omega
 simp only[ni,if_false,A7,hx];refine Aa (Aa (BW ty (Ab ?_)));show wpAny _ _ (setField (.ref it) 2 .none >>= _) _ _ s;refine Aa (Bd hit rfl (by simp) ?_);show wpAny _ _ (newExc (.type "StopIteration") [] >>= _) _ _ _;simp only[newExc,newTuple];refine Aa (Aa (Aw (Aa (m:=firstArgMember _ _) (D5 (a:=AW) (by first | rfl | (simp only[firstArgMember];rfl)) (Aw ?_ (by size_fits)))) (by size_fits)));simp only[raiseNew];refine Aa (Ei ?_);rw[show A.in1.handled=none from hh];refine Aa (Ab (Fp ?_));refine Aa (CT (T:="StopIteration") (b:=true) ⟨_,Al _ rfl,rfl⟩ D1 (Ab ?_));exact k _ (((AL ..).extBut.push _).push _)
end
section
variable {X:Cx} {pins:List (Addr×Obj)} {σ:L2.St} {H:Hp} {s:Shared}
theorem Inv.freeze{d:Addr}{o:Obj}{u:HO}(I:Inv X pins σ H s)(hd:H d=some u)(g:s.heap.get? d=some o)(n1:∀ xs,u≠.tup xs)(n2:∀ x,u≠.own x)(n3:∀ o w,u≠.frz o w)(n4:∀ ps,u≠.tbl ps):Inv X pins σ (upd H d (.frz o u)) s:=by
 have ne:∀ {b:Addr} {v:HO},H b=some v->v≠u->b≠d:=fun {b v} q nv z=>by
   subst z;rw[hd] at q;exact nv (Ay q).symm
 refine Inv.step (h':=s.heap) (t':=s.toks) (g':=s.gens) (d':=s.drawn) (ch:=[]) I (fun _ z=>nomatch z) (fun b v _ _ _ q _=>q) (fun b v _ _ _ q _=>⟨v.slots,q⟩) (fun b v _ q n=>?_) (fun b v _ q=>⟨v,q⟩) (fun b xs q=>?_) (fun b v w q=>?_) (fun b ps q=>⟨#[],?_⟩) (fun m hm=>hm) (fun b v q=>?_) I.bare
 . have:b≠d:=fun z=>by
     rw[z,hd] at n;cases n
   rw[zaO this];exact n
 . rw[zaO (ne q (fun z=>n1 xs z.symm))];exact q
 . rw[zaO (ne q (fun z=>n3 v w z.symm))];exact q
 . rw[zaO (ne q (fun z=>n4 ps z.symm)),q];simp
 . by_cases hb:b=d
   . subst hb;rw[zbv] at q;cases q;refine⟨g,?_⟩;exact (I.hok b u hd).stay (fun c x _ y=>y) (fun c y=>by rw[zaO (ne y (fun z=>n2 b z.symm))];exact y) fun c xs y=>by rw[zaO (ne y (fun z=>n1 xs z.symm))];exact y
   . rw[zaO hb] at q;exact (I.hok b v q).stay (fun c x _ y=>y) (fun c y=>by rw[zaO (ne y (fun z=>n2 b z.symm))];exact y) fun c xs y=>by rw[zaO (ne y (fun z=>n1 xs z.symm))];exact y
end
noncomputable def Iti(o:Obj)(d:Addr):It :=
 ⟨fun i H=>∃ ps p,H d=some (.frz o (.dT ps))/\ps[i]?=some p,fun i H x H'=>∃ q b ps k v,H q=none/\H'=upd H q (.tup [.ref b,v])/\x=.ref q/\H d=some (.frz o (.dT ps))/\ps[i]?=some (k,v)/\H b=some (.tup (k.map kV)),
   fun i H=>∃ ps,H d=some (.frz o (.dT ps))/\ps.length<=i⟩
theorem zgo{P:Program}{w:World}{H:Hp}{h:Heap}{d:Addr}{o:Obj}{ps:List (List Key×V)}{es:Array DictEntry}{ep:Nat}(x:zdi P w H h d (.frz o (.dT ps)))(dd:o.data=.dict es ep) :
   h.get? d=some o/\es.size=ps.length/\∀ (i:Nat) (k:List Key) (v:V),ps[i]?=some (k,v)->∃ (en:DictEntry) (b:Addr),es[i]?=some en/\en.key=.ref b/\H b=some (.tup (k.map kV))/\RelV v en.val:=by
 obtain⟨g,z,y,xs,r,o',es',ep',g',ex,dd',et,nd⟩:=x;rw[g] at g';cases g';rw[dd] at dd';cases dd';have hl:es.size=ps.length:=by
   have h1:=congrArg List.length et;have h2:=BR r;simp at h1;omega
 refine⟨g,hl,fun i k v hi=>?_⟩;have get:∀ {l:List (List Key×V)} {m:List (List Key×Addr×Value)} {i:Nat},Paired (fun (p:List Key×V) (q:List Key×Addr×Value)=>p.1=q.1/\H q.2.1=some (.tup (p.1.map kV))/\RelV p.2 q.2.2) l m->l[i]?=some (k,v)->∃ q,m[i]?=some q/\H q.2.1=some (.tup (k.map kV))/\RelV v q.2.2:=by
   intro l m i q
   induction q generalizing i with
   | nil=>intro e;simp at e
   | cons h t ih =>
     cases i with
     | zero =>
       intro e;simp at e;subst e;exact⟨_,rfl,h.2.1,h.2.2⟩
     | succ j=>intro e;exact ih (by simpa using e)
 obtain⟨q,hq,h1,h2⟩:=get r hi;have he:es[i]?=some (entryOfKey (tupleKind (zb9 P w)) q):=by
   have:es.toList[i]?=some (entryOfKey (tupleKind (zb9 P w)) q):=by rw[et,AA,hq];rfl
   simpa using this
 exact⟨_,q.2.1,he,rfl,h1,h2⟩
theorem zhU{P:Program}{w:World}{K:Ae}{elts:List Expr}{x1}{pos:Pos}{o:Obj}{es:Array DictEntry}{ep:Nat}(d it:Addr)(dd:o.data=.dict es ep) :
   Turn P w K (.Tuple elts x1 pos) (Iti o d) [it] it (fun i h=>∃ ok ov,IsItemIter h it d i es.size ep ok ov) where
 mem:=by simp
 obj:=fun i h st b hb=>by
   obtain⟨ok,ov,he⟩:=st;rw[List.mem_singleton.mp hb];exact⟨_,he,fun v z=>by cases z⟩
 keep:=fun i h h' st k=>by
   obtain⟨ok,ov,he⟩:=st;exact⟨ok,ov,k it (by simp) _ he⟩
 item:=by
   intro X hP hw hK hc i pins s σ H E I hf st hg;subst hP hw hK;obtain⟨ps,⟨k,v⟩,hq,hx⟩:=hg;obtain⟨g,hl,ent⟩:=zgo (I.hok d _ hq) dd;obtain⟨en,b,he,hkey,hb,hv⟩:=ent i k v hx;obtain⟨ok,ov,hi⟩:=st;refine ziU hi g dd he fun h1 i1 t1 z1 k1=>?_;refine⟨_,rfl,wpAny_letOwnedTupleGo_items (s:={ s with heap:=h1 }) i1 fun h2 i2 b2=>?_⟩;have nsz:it≠s.heap.objs.size:=AB (Ak hi);have k2:∀ c u,c ∉ [it]->s.heap.get? c=some u->h2.get? c=some u:=fun c u hc q=>by
     have nc:c≠it:=fun z=>hc (by simp[z]);exact (b2.2 c nc).trans (k1 c u nc q)
   have t2:h2.get? s.heap.objs.size=some { cls:=.type "tuple",data:=.seq #[.ref b,en.val] }:=by
     rw[hkey] at t1;exact (b2.2 _ nsz.symm).trans t1
   refine⟨.ref s.heap.objs.size,upd H s.heap.objs.size (.tup [.ref b,v]),?_,rfl,⟨_,b,ps,k,v,I.hok.fresh (Af _),rfl,rfl,hq,hx,hb⟩,⟨_,_,i2⟩,fun c hc=>?_⟩
   . exact Inv.turnNew (s:=s) (h':=h2) (t':=s.toks) I hf k2 (Af _) (fun c hc ob q=>by rw[List.mem_singleton.mp hc];exact⟨_,i2⟩) ⟨by show 2<=sizeLine;decide,[.ref b,en.val],.cons rfl (.cons hv .nil),⟨_,t2,rfl,rfl,_,rfl⟩⟩
   . rw[List.mem_singleton.mp hc,zaO nsz];exact (hf it (by simp)).1
 done:=by
   intro X hP hw hK hc i pins s σ H E I hf st hg;subst hP hw hK;obtain⟨ps,hq,hx⟩:=hg;obtain⟨g,hl,_⟩:=zgo (I.hok d _ hq) dd;obtain⟨ok,ov,hi⟩:=st;exact ziT (I.ok.hd hc) hi g dd (by simp;omega) fun h' eb=>⟨rfl,Inv.turnAll (t':=s.toks) I hf fun b o hb q=>eb b o (fun z=>hb (by simp[z])) q⟩
 self:=fun _ _ _ _ _ st h=>by
   obtain⟨ok,ov,hi⟩:=st;exact PySem.W.kcp_self hi h
section
variable {X:Cx} {K:Ae} {H:Hp} {io:List Addr} {m:ME} {st st':Sto}
noncomputable def keyD:Key->D
 | .inl i=>.int i
 | .inr x=>.str x
noncomputable def zdp(kvs:List (List Key×D)):List D:=kvs.map fun p=>.tup [.tup (p.1.map keyD),p.2]
theorem ze6:∀ (ks:List Key),Reps K H io (ks.map kV) (ks.map keyD)
 | []=>rfl
 | .inl i::r=>⟨_,_,rfl,rfl,ze6 r⟩
 | .inr x::r=>⟨_,_,rfl,rfl,ze6 r⟩
noncomputable def znm:D->Sto->Option (Wk×Sto)
 | .ref n,s=>match s[n]? with
   | some (.dt kvs)=>some (⟨zdp kvs,[]⟩,s.set n (.ft kvs))
   | _=>none
 | _,_=>none
noncomputable def zmr(m:ME):MI:=fun ρ st=>(m ρ st).bind fun (d,s)=>znm d s
theorem zqN{n:Nat}{p:Addr}{o:Obj}{ps:List (List Key×V)}{kvs:List (List Key×D)}(S:StR K H io st)(hn:io[n]?=some p)(hp:H p=some (.frz o (.dT ps)))(r:KR (List Key) K H io ps kvs):ItOk K H io ⟨zdp kvs,[]⟩ (Iti o p) where
 go := fun i d H1 k1 s hd X1 S1 hs=>by
   have h1:=X1.frz _ _ _ hp;have r1:=KR.mono (ka:=k1) (X1.kp S) r;have hd:(zdp kvs)[i]?=some d:=hd;unfold zdp at hd;rw[AA] at hd;obtain⟨⟨k,y⟩,hk,rfl⟩:=zaj hd;have get:∀ {l:List (List Key×V)} {m:List (List Key×D)} {i:Nat},KR (List Key) K H1 (io++k1) l m->m[i]?=some (k,y)->∃ v,l[i]?=some (k,v)/\Rep K H1 (io++k1) v y:=by
     intro l m i q
     induction q generalizing i with
     | nil=>intro e;simp at e
     | @cons a b _ _ h t ih =>
       cases i with
       | zero =>
         intro e;simp at e;subst e;obtain⟨a1,a2⟩:=a;have z:a1=k:=h.1;subst z;exact⟨a2,rfl,h.2⟩
       | succ j=>intro e;exact ih (by simpa using e)
   obtain⟨v,hv,rv⟩:=get r1 hk;refine⟨⟨ps,_,h1,hv⟩,fun x H' y'=>?_⟩;obtain⟨q,b,ps',k',v',hq,rfl,rfl,h1',hv',hb⟩:=y';rw[h1] at h1';cases h1';rw[hv] at hv';cases hv';obtain⟨E,S'⟩:=zej (o:=.tup [.ref b,v]) S1 hq;rw[Ap] at S';refine⟨E,S',⟨q,_,rfl,zbv,?_⟩⟩;have r2:=rv.ext S1 E;rw[Ap] at r2;refine Reps.cons ⟨b,_,rfl,?_,ze6 k⟩ (Reps.cons r2 Reps.nil);rw[zaO (zaF hb hq)];exact hb
 stop:=fun H1 k1 s X1 S1 hs=>⟨ps,X1.frz _ _ _ hp,by show ps.length<=(zdp kvs).length;unfold zdp;rw[Ag,KR.length r];exact Af _⟩
 stop':=fun H1 k1 s i hi X1 S1 hs=>⟨ps,X1.frz _ _ _ hp,by have hi:(zdp kvs).length<=i:=hi;unfold zdp at hi;rw[Ag,<-KR.length r] at hi;exact hi⟩
theorem zlP{elts:List Expr}{x1}{tp:Pos}{o:Expr}{apos cpos:Pos}(ho:SE X o m)(hbase:attributeBase o "items" X.env (eval o X.env)=eval o X.env:=by rfl)(hline:(apos.endLine==cpos.line)=true:=by rfl) :
   SI X (.Tuple elts x1 tp) (.Call (.Attribute o "items" apos) [] [] cpos) (zmr m):=by
 rintro pins s σ H R I ⟨ρ,st,io,W,st',E,S,e,k⟩;obtain⟨⟨d,s1⟩,e1,e⟩:=zag e
 cases d with
 | ref n =>
   unfold znm at e;dsimp only at e
   split at e
   . rename_i kvs en;cases e;refine EO hbase hline (thn (ho pins s σ H (fun v H'=>∃ ka,Ext io ka H H'/\StR X.K H' (io++ka) s1/\Rep X.K H' (io++ka) v (.ref n)) I ⟨ρ,st,io,_,s1,E,S,e1,fun v1 H1 k1 X1 S1 R1=>⟨k1,X1,S1,R1⟩⟩) ?_);rintro v s2 ⟨x,H1,I1,r1,k1,X1,S1,R1⟩;obtain⟨p,rfl,hp⟩:=R1;cases r1;obtain⟨ps,hH,r⟩:=S1.ob n p _ hp en;obtain⟨t1,t2,hs⟩:=zoQ I1 (.inr ⟨ps,.inl hH⟩);refine⟨"dict","dict.items",PySem.F.plainAttrs_dict,EN,PySem.F.type_dict_items,t1,t2,Dt rfl (FY (ziS (o:=default) t1 hs ?_))⟩;obtain⟨_,_,xs,_,o,es,ep,g,_,dd,_,_⟩:=I1.hok p _ hH;refine ziV (o:=o) (es:=es) (ep:=ep) ⟨_,Al _ rfl,rfl,rfl⟩ (Ad _ g) dd ?_;have J:=I1.kept (t':=s2.toks) (h':=(s2.heap.push { cls:=.type "dict_items",data:=.fields #[.ref p] }).push { cls:=.type "dict_itemiterator",data:=.fields #[.none,.bool false,.ref p,.int 0 0,.int es.size 0,.int ep 0,.none,.none] }) fun b u q=>Ad _ (Ad _ q);have J2:=Inv.freeze J hH (Ad _ (Ad _ g)) (by simp) (by simp) (by simp) (by simp);obtain⟨X2,S2⟩:=zim (o:=.frz o (.dT ps)) (ob:=.ft kvs) S1 hp en (fun o u z=>by rw[hH] at z;cases z) fun H' T e'=>⟨o,ps,e',KR.mono T r⟩
     have big:s2.heap.objs.size<=(s2.heap.push { cls:=.type "dict_items",data:=.fields #[.ref p] }).objs.size:=by rw[A4];exact BE _
     refine⟨_,[_],_,_,_,rfl,J2,zhU p _ dd,⟨_,_,Al _ rfl⟩,fun b hb=>?_,?_⟩
     . rw[List.mem_singleton.mp hb];refine I1.fpOk big ?_;rw[zaO (BL (AB (As (Ak g) big)))];exact I1.hok.fresh big
     . have hn':((io++k1)++[])[n]?=some p:=by rw[Ap];exact hp
       have r2:=KR.mono (ka:=[]) (X2.kp S1) r;have ok:=zqN S2 hn' zbv r2;refine k _ _ (k1++[]) (X1.trans S1 X2) (by rw[<-Av];exact S2) (by rw[<-Av];exact ok)
   . cases e
 | _=>cases e
end
inductive Sr where
 | l (a:Addr) | t (a:Addr)
noncomputable def Sr.ad:Sr->Addr
 | .l a=>a
 | .t a=>a
noncomputable def Sr.ob:Sr->Obj
 | .l a=>{ cls:=.type "list_iterator",data:=.fields #[.ref a,.int 0 0] }
 | .t a=>{ cls:=.type "tuple_iterator",data:=.fields #[.ref a,.int 0 0] }
noncomputable def Sr.is(h:Heap)(xs:Array Value):Sr->Prop
 | .l a=>h.IsList a xs
 | .t a=>IsTup h a xs
noncomputable def Sr.at_(h:Heap)(i:Addr)(k:Nat):Sr->Prop
 | .l a=>h.IsListIter i a k
 | .t a=>IsTupIter h i a k
theorem Sr.is_keep{h h':Heap}{xs:Array Value}{x:Sr}(q:x.is h xs)(k:∀ u,h.get? x.ad=some u->h'.get? x.ad=some u):x.is h' xs:=by
 cases x with
 | l a=>exact Heap.IsList.at q k
 | t a=>obtain⟨o,g,c⟩:=q;exact⟨o,k o g,c⟩
theorem Sr.at_keep{h h':Heap}{i:Addr}{n:Nat}{x:Sr}(q:x.at_ h i n)(k:∀ u,h.get? i=some u->h'.get? i=some u):x.at_ h' i n:=by
 cases x with
 | l a=>exact HJ q k
 | t a=>obtain⟨o,g,c⟩:=q;exact⟨o,k o g,c⟩
theorem Sr.at_get{h:Heap}{i:Addr}{n:Nat}{x:Sr}(q:x.at_ h i n):∃ o vs,h.get? i=some o/\o.data=.fields vs:=by
 cases x with
 | l a=>obtain⟨o,g,c,d⟩:=q;exact⟨o,_,g,d⟩
 | t a=>obtain⟨o,g,c,d⟩:=q;exact⟨o,_,g,d⟩
section
variable {prog:Program} {w:World} {A:Around} {E:Value->Shared->Prop} {s:Shared}
theorem Sr.iter{x:Sr}{xs:Array Value}{R:Value->Shared->Prop}(h:x.is s.heap xs)(k:R (.ref s.heap.objs.size) { s with heap:=s.heap.push x.ob }):wpAny (model prog w) A (pyIter (.ref x.ad)) R E s:=by
 cases x with
 | l a=>exact CK h k
 | t a=>exact iter_tuple h k
theorem ziE{it a:Addr}{i:Nat}{xs:Array Value}{v:Value}{R:Value->Shared->Prop}(hit:IsTupIter s.heap it a i)(ht:IsTup s.heap a xs)(hx:xs[i]?=some v)
   (k:∀ h',IsTupIter h' it a (i+1)->Bg it s.heap h'->R v { s with heap:=h' }):wpAny (model prog w) A (A8 (.ref it)) R E s:=by
 obtain⟨ro,rg,rc,rd⟩:=id hit;obtain⟨to,tg,_,tn,td⟩:=ht;unfold A8;refine Aa (AM (name:=A5 "__next__") hit.typeIs C1 (AC C1 hit.typeIs FN ?_ (FZ _)));show wpAny _ _ (field (.ref it) 0 >>= _) _ _ s;refine Aa (Bb rg rd (x:=.ref a) rfl ?_);show wpAny _ _ (if (AJ a==AW)=true then _ else _) _ _ s;rw[if_neg (show ¬ (AJ a==AW)=true from fun z=>Br z)];show wpAny _ _ (field (.ref it) 1 >>= _) _ _ s;refine Aa (Bb rg rd (x:=.int i 0) rfl ?_);show wpAny _ _ (seqItems? (.ref a) >>= _) _ _ s;refine Aa (BB tg td ?_);simp only[A7,hx];refine Aa (Bd rg rd (by simp) (Ab ⟨v,rfl,Ab (k _ ⟨_,AS _ rg (Bl (Ax rd _)),(BF ..).trans rc,?_⟩ (AL ..))⟩));rw[Ax rd];simp[rawInt]
theorem ze0{it a:Addr}{i:Nat}{xs:Array Value}{R:Value->Shared->Prop}(hh:A.handled=none)(hit:IsTupIter s.heap it a i)(ht:IsTup s.heap a xs)(hx:xs[i]?=none)
   (k:∀ h' e,B9 it s.heap h'->(∃ o,h'.get? e=some o/\o.cls=.type "StopIteration")->E (.ref e) { s with heap:=h' }):wpAny (model prog w) A (A8 (.ref it)) R E s:=by
 obtain⟨ro,rg,rc,rd⟩:=id hit;obtain⟨to,tg,_,tn,td⟩:=ht;unfold A8;refine Aa (AM (name:=A5 "__next__") hit.typeIs C1 (AC C1 hit.typeIs FN ?_ (FZ _)));show wpAny _ _ (field (.ref it) 0 >>= _) _ _ s;refine Aa (Bb rg rd (x:=.ref a) rfl ?_);show wpAny _ _ (if (AJ a==AW)=true then _ else _) _ _ s;rw[if_neg (show ¬ (AJ a==AW)=true from fun z=>Br z)];show wpAny _ _ (field (.ref it) 1 >>= _) _ _ s;refine Aa (Bb rg rd (x:=.int i 0) rfl ?_);show wpAny _ _ (seqItems? (.ref a) >>= _) _ _ s;refine Aa (BB tg td ?_);simp only[A7,hx];refine Aa (CC (Aa (Bd rg rd (by simp) ?_)));show wpAny _ _ (newExc (.type "StopIteration") [] >>= _) _ _ _;simp only[newExc,newTuple];refine Aa (Aa (Aw (Aa (m:=firstArgMember _ _) (D5 (a:=AW) (by first | rfl | (simp only[firstArgMember];rfl)) (Aw ?_ (by size_fits)))) (by size_fits)));simp only[raiseNew];refine Aa (Ei ?_)
 first | rw[show A.in1.handled=none from hh] | rw[hh]
 refine Aa (Ab (Fp ?_));exact k _ _ (((AL ..).extBut.push _).push _) ⟨_,Al _ rfl,rfl⟩
theorem Sr.next{x:Sr}{it:Addr}{i:Nat}{xs:Array Value}{v:Value}{R:Value->Shared->Prop}(hit:x.at_ s.heap it i)(h:x.is s.heap xs)(hx:xs[i]?=some v)(k:∀ h',x.at_ h' it (i+1)->Bg it s.heap h'->R v { s with heap:=h' }) :
   wpAny (model prog w) A (A8 (.ref it)) R E s:=by
 cases x with
 | l a=>exact wpAny_nextOf_list_item hit h hx k
 | t a=>exact ziE hit h hx k
theorem Sr.stop{x:Sr}{it:Addr}{i:Nat}{xs:Array Value}{R:Value->Shared->Prop}(hh:A.handled=none)(hit:x.at_ s.heap it i)(h:x.is s.heap xs)(hx:xs[i]?=none)
   (k:∀ h' e,B9 it s.heap h'->(∃ o,h'.get? e=some o/\o.cls=.type "StopIteration")->E (.ref e) { s with heap:=h' }):wpAny (model prog w) A (A8 (.ref it)) R E s:=by
 cases x with
 | l a=>exact wpAny_nextOf_list_end hh hit h hx k
 | t a=>exact ze0 hh hit h hx k
end
theorem Sr.at_new{h:Heap}{x:Sr}{i:Addr}(g:h.get? i=some x.ob):x.at_ h i 0:=by
 cases x with
 | l a=>exact⟨_,g,rfl,rfl⟩
 | t a=>exact⟨_,g,rfl,rfl⟩
noncomputable abbrev zp1 (h:Heap) (x:Sr):Heap:=h.push x.ob
noncomputable abbrev zp2 (h:Heap) (x y:Sr):Heap:=(zp1 h x).push y.ob
noncomputable abbrev zp3 (h:Heap) (x y:Sr):Heap:=(zp2 h x y).push { cls:=.type "tuple",data:=.seq #[.ref h.objs.size,.ref (zp1 h x).objs.size] }
noncomputable abbrev zp4 (h:Heap) (x y:Sr):Heap:=(zp3 h x y).push { cls:=.type "tuple",data:=.seq #[.none,.none] }
noncomputable abbrev zp5 (h:Heap) (x y:Sr):Heap:=(zp4 h x y).push { cls:=.type "zip",data:=.fields #[.none,.bool false,.bool false,.ref (zp2 h x y).objs.size,.ref (zp3 h x y).objs.size] }
theorem zjs(x y:Sr)(xs ys:Array Value):Meets (Builtin.«zip.__new__» ⟨[.type "zip",.ref x.ad,.ref y.ad],[]⟩) (fun _ R s=>x.is s.heap xs/\y.is s.heap ys/\R (.ok (.ret (.ref (zp4 s.heap x y).objs.size))) { s with heap:=zp5 s.heap x y }) :=
 .of_wp fun prog w A R s h=>by
   obtain⟨hp,g,d,tk,os⟩:=s;obtain⟨h1,h2,h⟩:=h;have hsub:=sub_zip;have hx:x.is (HC ⟨hp,g,d,tk,os⟩) xs:=h1;have hy:y.is (HC ⟨hp.push x.ob,g,d,tk,os⟩) ys:=Sr.is_keep h2 fun u q=>Ad _ q
   wp_walk using Sr.iter hx,Sr.iter hy
   exact⟨_,rfl,h⟩
structure Zp(z TI TO i j:Addr):Prop where
 TIz:TI≠z
 TOz:TO≠z
 iz:i≠z
 jz:j≠z
 TIO:TI≠TO
 TIi:TI≠i
 TIj:TI≠j
 TOi:TO≠i
 TOj:TO≠j
 ij:i≠j
theorem neq{a b:Nat}(h:a≠b):(show Addr from a)≠(show Addr from b):=h
theorem Zp.new(n:Nat):Zp (n+4) (n+2) (n+3) n (n+1):=⟨neq (by omega),neq (by omega),neq (by omega),neq (by omega),neq (by omega),neq (by omega),neq (by omega),neq (by omega),neq (by omega),neq (by omega)⟩
section
variable {prog:Program} {w:World} {A:Around} {E:Value->Shared->Prop} {s:Shared}
theorem zkx{x y:Sr}{xs ys:Array Value}{R:Value->Shared->Prop}(hx:x.is s.heap xs)(hy:y.is s.heap ys)
   (k:∀ h',IsZip h' (s.heap.objs.size+4) (s.heap.objs.size+2) (s.heap.objs.size+3) .none->IsPair h' (s.heap.objs.size+2) (.ref s.heap.objs.size) (.ref (s.heap.objs.size+1))->IsPair h' (s.heap.objs.size+3) .none .none ->
     x.at_ h' s.heap.objs.size 0->y.at_ h' (s.heap.objs.size+1) 0->(∀ c u,s.heap.get? c=some u->h'.get? c=some u)->R (.ref (s.heap.objs.size+4)) { s with heap:=h' }):wpAny (model prog w) A (call (.type "zip") [.ref x.ad,.ref y.ad]) R E s:=by
 refine callType_new F.called_zip (by decide) (F.typeCall_zip_2 _ _) (F.newCall_zip_2 _ _) (fun obj=>F.args_object_init_3 obj _ _) F.entry_zip_new (zjs x y xs ys) ⟨hx,hy,?_⟩;have e1:(zp1 s.heap x).objs.size=s.heap.objs.size+1:=A4 ..;have e2:(zp2 s.heap x y).objs.size=s.heap.objs.size+2:=(A4 ..).trans (by rw[e1]);have e3:(zp3 s.heap x y).objs.size=s.heap.objs.size+3:=(A4 ..).trans (by rw[e2]);have e4:(zp4 s.heap x y).objs.size=s.heap.objs.size+4:=(A4 ..).trans (by rw[e3]);have up:∀ c u,(zp1 s.heap x).get? c=some u->(zp5 s.heap x y).get? c=some u:=fun c u q=>Ad _ (Ad _ (Ad _ (Ad _ q)));have f5:(zp5 s.heap x y).get? (zp4 s.heap x y).objs.size=some { cls:=.type "zip",data:=.fields #[.none,.bool false,.bool false,.ref (zp2 s.heap x y).objs.size,.ref (zp3 s.heap x y).objs.size] }:=Al _ rfl;have f4:(zp5 s.heap x y).get? (zp3 s.heap x y).objs.size=some { cls:=.type "tuple",data:=.seq #[.none,.none] }:=Ad _ (Al _ rfl);have f3:(zp5 s.heap x y).get? (zp2 s.heap x y).objs.size=some { cls:=.type "tuple",data:=.seq #[.ref s.heap.objs.size,.ref (zp1 s.heap x).objs.size] }:=Ad _ (Ad _ (Al _ rfl));have f2:(zp5 s.heap x y).get? (zp1 s.heap x).objs.size=some y.ob:=Ad _ (Ad _ (Ad _ (Al _ (by cases y <;> rfl))));have f1:(zp5 s.heap x y).get? s.heap.objs.size=some x.ob:=up _ _ (Al _ (by cases x <;> rfl));rw[e2,e3,e4] at f5;rw[e1,e2] at f3;rw[e3] at f4;rw[e1] at f2;show _/\_;rw[e4];exact⟨⟨_,f5,rfl⟩,k _ f5 f3 f4 (Sr.at_new f1) (Sr.at_new f2) fun c u q=>up c u (Ad _ q)⟩
theorem zlo{z TI TO i j:Addr}{x y:Sr}{n m:Nat}{xs ys:Array Value}{u v a b:Value}{R:Option Value->Shared->Prop}(D:Zp z TI TO i j)(xz:x.ad≠z/\x.ad≠TO/\x.ad≠i/\x.ad≠j)(yz:y.ad≠z/\y.ad≠TO/\y.ad≠i/\y.ad≠j)
   (hz:IsZip s.heap z TI TO .none) (hTI:IsPair s.heap TI (.ref i) (.ref j)) (hTO:IsPair s.heap TO a b) (hi:x.at_ s.heap i n) (hj:y.at_ s.heap j m) (hx:x.is s.heap xs) (hy:y.is s.heap ys) (gx:xs[n]?=some u) (gy:ys[m]?=some v)
   (k:∀ h',IsZip h' z TI TO (rawInt s.heap.objs.size)->IsPair h' TI (.ref i) (.ref j)->IsPair h' TO u v->x.at_ h' i (n+1)->y.at_ h' j (m+1)->IsPair h' s.heap.objs.size u v ->
     (∀ c o,c≠z->c≠TO->c≠i->c≠j->s.heap.get? c=some o->h'.get? c=some o)->R (some (.ref s.heap.objs.size)) { s with heap:=h' }):wpAny (model prog w) A (pyNext (.ref z)) R E s:=by
 have ty:s.TypeIs (.ref z) "zip":=⟨_,hz,rfl⟩
 unfold pyNext;refine Aa (BD (AM (name:=A5 "__next__") ty F.slot_zip_next (AC F.slot_zip_next ty F.entry_zip_next ?_ (F.args_zip_next_1 _))));show wpAny _ _ (field (.ref z) 2 >>= _) _ _ _;refine Aa (Bb hz rfl (x:=.bool false) rfl ?_);show wpAny _ _ (field (.ref z) 3 >>= _) _ _ _;refine Aa (Bb hz rfl (x:=.ref TI) rfl (Aa (BB hTI rfl ?_)));show wpAny _ _ (BP (.ref z) >>= _) _ _ _;unfold BP;refine Aa (Aa (Bb hz rfl (x:=.none) rfl (Ab ?_)));simp only[if_true];refine Aa (CC (Aa (Bb hz rfl (x:=.ref TO) rfl (Aa (Bt hz (by simp) fun g1 z1 s1=>?_)))))
 replace z1:IsZip g1 z TI TO .ellipsis:=z1
 have k1:∀ c o,c≠z->s.heap.get? c=some o->g1.get? c=some o:=fun c o nc q=>s1.extBut c o nc q;simp only[GL,G9,EZ,Dj];refine Aa (Aa (Aa (Ej ?_)));show wpAny _ _ (A8 (.ref i) >>= _) _ _ _;refine Aa (Sr.next (Sr.at_keep hi fun o q=>k1 _ o D.iz q) (Sr.is_keep hx fun o q=>k1 _ o xz.1 q) gx fun g2 i2 s2=>Ab ?_);have k2:∀ c o,c≠z->c≠i->s.heap.get? c=some o->g2.get? c=some o:=fun c o nc ni q=>s2.extBut c o ni (k1 c o nc q);have o2:IsPair g2 TO a b:=k2 _ _ D.TOz D.TOi hTO;refine Aa (BB o2 rfl (Aa (DP o2 fun g3 o3 s3=>(Aa (Fo (Ab ?_))))))
 replace o3:IsPair g3 TO u b:=o3
 have k3:∀ c o,c≠z->c≠i->c≠TO->s.heap.get? c=some o->g3.get? c=some o:=fun c o nc ni nt q=>s3.extBut c o nt (k2 c o nc ni q);refine Aa (Aa (Ej ?_));show wpAny _ _ (A8 (.ref j) >>= _) _ _ _;refine Aa (Sr.next (Sr.at_keep hj fun o q=>k3 _ o D.jz D.ij.symm D.TOj.symm q) (Sr.is_keep hy fun o q=>k3 _ o yz.1 yz.2.2.1 yz.2.1 q) gy fun g4 j4 s4=>Ab ?_);have o4:IsPair g4 TO u b:=s4.extBut _ _ D.TOj o3;refine Aa (BB o4 rfl (Aa (DP o4 fun g5 o5 s5=>(Aa (Fo (Ab (Ab ?_)))))))
 replace o5:IsPair g5 TO u v:=o5
 refine Aa (BB o5 rfl (Aa (D0 ?_)));have sz:g5.objs.size=s.heap.objs.size:=by rw[s5.1,s4.1,s3.1,s2.1,s1.1]
 have z5:IsZip g5 z TI TO .ellipsis:=s5.extBut _ _ D.TOz.symm (s4.extBut _ _ D.jz.symm (s3.extBut _ _ D.TOz.symm (s2.extBut _ _ D.iz.symm z1)));have k5:∀ c o,c≠z->c≠TO->c≠i->c≠j->s.heap.get? c=some o->g5.get? c=some o:=fun c o c1 c2 c3 c4 q=>s5.extBut c o c2 (s4.extBut c o c4 (k3 c o c1 c3 c2 q));have i5:x.at_ g5 i (n+1):=Sr.at_keep i2 fun o q=>s5.extBut _ _ D.TOi.symm (s4.extBut _ _ D.ij (s3.extBut _ _ D.TOi.symm q));have j5:y.at_ g5 j (m+1):=Sr.at_keep j4 fun o q=>s5.extBut _ _ D.TOj.symm q;have lz:z < g5.objs.size:=Ak z5;show wpAny _ _ (De (.ref z) (.ref g5.objs.size) >>= _) _ _ _;unfold De;have z6:IsZip (g5.push { cls:=.type "tuple",data:=.seq #[u,v] }) z TI TO .ellipsis:=Ad _ z5;refine Aa (Aa (Bt z6 (by simp) fun g7 z7 s7=>?_))
 replace z7:IsZip g7 z TI TO (rawInt g5.objs.size):=z7
 refine Bt z7 (by simp) fun g8 z8 s8=>?_
 replace z8:IsZip g8 z TI TO (rawInt g5.objs.size):=z8
 have up:∀ c o,c≠z->g5.get? c=some o->g8.get? c=some o:=fun c o nc q=>s8.extBut c o nc (s7.extBut c o nc (Ad _ q));have t8:IsPair g8 g5.objs.size u v:=s8.extBut _ _ (AQ lz) (s7.extBut _ _ (AQ lz) (Al _ rfl));rw[sz] at z8 t8;refine Ab ⟨_,rfl,Ab ?_⟩;show R (some (.ref g5.objs.size)) _;rw[sz];exact k g8 z8 (up _ _ D.TIz (k5 _ _ D.TIz D.TIO D.TIi D.TIj hTI)) (up _ _ D.TOz o5) (Sr.at_keep i5 fun o q=>up _ o D.iz q) (Sr.at_keep j5 fun o q=>up _ o D.jz q) t8 fun c o c1 c2 c3 c4 q=>up c o c1 (k5 c o c1 c2 c3 c4 q)
theorem znl{z TI TO i j:Addr}{x y:Sr}{n m:Nat}{xs ys:Array Value}{a b:Value}{R:Option Value->Shared->Prop}(hh:A.handled=none)(D:Zp z TI TO i j)(xz:x.ad≠z/\x.ad≠TO/\x.ad≠i/\x.ad≠j)(yz:y.ad≠z/\y.ad≠TO/\y.ad≠i/\y.ad≠j)
   (hz:IsZip s.heap z TI TO .none) (hTI:IsPair s.heap TI (.ref i) (.ref j)) (hTO:IsPair s.heap TO a b) (hi:x.at_ s.heap i n) (hj:y.at_ s.heap j m) (hx:x.is s.heap xs) (hy:y.is s.heap ys) (he:xs[n]?=none\/ys[m]?=none)
   (k:∀ h',(∀ c o,c≠z->c≠TO->c≠i->c≠j->s.heap.get? c=some o->h'.get? c=some o)->R none { s with heap:=h' }):wpAny (model prog w) A (pyNext (.ref z)) R E s:=by
 have ty:s.TypeIs (.ref z) "zip":=⟨_,hz,rfl⟩
 have halt:∀ h' e,(∀ c o,c≠z->c≠TO->c≠i->c≠j->s.heap.get? c=some o->h'.get? c=some o)->(∃ o,h'.get? e=some o/\o.cls=.type "StopIteration") ->
     wpAny (model prog w) A (do if <-isInstance (.ref e) (.type "StopIteration") then pure none else throw (AJ e)) R E { s with heap:=h' }:=fun h' e q ⟨o,g,c⟩ =>
   Aa (CT (T:="StopIteration") (b:=true) ⟨o,g,c⟩ D1 (Ab (k h' q)))
 unfold pyNext;refine Aa (BD (AM (name:=A5 "__next__") ty F.slot_zip_next (AC F.slot_zip_next ty F.entry_zip_next ?_ (F.args_zip_next_1 _))));show wpAny _ _ (field (.ref z) 2 >>= _) _ _ _;refine Aa (Bb hz rfl (x:=.bool false) rfl ?_);show wpAny _ _ (field (.ref z) 3 >>= _) _ _ _;refine Aa (Bb hz rfl (x:=.ref TI) rfl (Aa (BB hTI rfl ?_)));show wpAny _ _ (BP (.ref z) >>= _) _ _ _;unfold BP;refine Aa (Aa (Bb hz rfl (x:=.none) rfl (Ab ?_)));simp only[if_true];refine Aa (CC (Aa (Bb hz rfl (x:=.ref TO) rfl (Aa (Bt hz (by simp) fun g1 z1 s1=>?_)))))
 replace z1:IsZip g1 z TI TO .ellipsis:=z1
 have k1:∀ c o,c≠z->s.heap.get? c=some o->g1.get? c=some o:=fun c o nc q=>s1.extBut c o nc q;have sep:∀ {g:Heap} {e:Addr} {o:Obj},IsZip g z TI TO .ellipsis->g.get? e=some o->o.cls=.type "StopIteration"->e≠z:=fun {g e o} q h c r=>by
   subst r;rw[q] at h;cases h;simp at c
 simp only[GL,G9,EZ,Dj];refine Aa (Aa (Aa (Ej ?_)));show wpAny _ _ (A8 (.ref i) >>= _) _ _ _
 cases gx:xs[n]? with
 | none =>
   refine Aa (Sr.stop hh (Sr.at_keep hi fun o q=>k1 _ o D.iz q) (Sr.is_keep hx fun o q=>k1 _ o xz.1 q) gx ?_);rintro g2 e s2 ⟨oe,he,ce⟩;have z2:IsZip g2 z TI TO .ellipsis:=s2 _ _ D.iz.symm z1;exact Bt z2 (by simp) fun g3 _ s3=>halt g3 e (fun c o c1 _ c3 _ q=>s3.extBut c o c1 (s2 c o c3 (k1 c o c1 q))) ⟨oe,s3.extBut _ _ (sep z2 he ce) he,ce⟩
 | some u =>
   have gy:ys[m]?=none:=he.resolve_left (by rw[gx];simp);refine Aa (Sr.next (Sr.at_keep hi fun o q=>k1 _ o D.iz q) (Sr.is_keep hx fun o q=>k1 _ o xz.1 q) gx fun g2 i2 s2=>Ab ?_);have k2:∀ c o,c≠z->c≠i->s.heap.get? c=some o->g2.get? c=some o:=fun c o nc ni q=>s2.extBut c o ni (k1 c o nc q);have o2:IsPair g2 TO a b:=k2 _ _ D.TOz D.TOi hTO;refine Aa (BB o2 rfl (Aa (DP o2 fun g3 o3 s3=>(Aa (Fo (Ab ?_))))));have k3:∀ c o,c≠z->c≠i->c≠TO->s.heap.get? c=some o->g3.get? c=some o:=fun c o nc ni nt q=>s3.extBut c o nt (k2 c o nc ni q);refine Aa (Aa (Ej ?_));show wpAny _ _ (A8 (.ref j) >>= _) _ _ _;refine Aa (Sr.stop hh (Sr.at_keep hj fun o q=>k3 _ o D.jz D.ij.symm D.TOj.symm q) (Sr.is_keep hy fun o q=>k3 _ o yz.1 yz.2.2.1 yz.2.1 q) gy ?_);rintro g4 e s4 ⟨oe,he,ce⟩;have z4:IsZip g4 z TI TO .ellipsis:=s4 _ _ D.jz.symm (s3.extBut _ _ D.TOz.symm (s2.extBut _ _ D.iz.symm z1));exact Bt z4 (by simp) fun g5 _ s5=>halt g5 e (fun c o c1 c2 c3 c4 q=>s5.extBut c o c1 (s4 c o c4 (k3 c o c1 c3 c2 q))) ⟨oe,s5.extBut _ _ (sep z4 he ce) he,ce⟩
end
noncomputable def Sr.sq(H:Hp)(xs:List V):Sr->Prop
 | .l a=>H a=some (.lst xs)\/∃ o,H a=some (.frz o (.lst xs))
 | .t a=>H a=some (.tup xs)
theorem Sr.sq_ne{H:Hp}{xs:List V}{x:Sr}{b:Addr}(h:x.sq H xs)(hb:H b=none):x.ad≠b:=by
 cases x with
 | l a=>rcases h with h | ⟨o,h⟩ <;> exact zaF h hb
 | t a=>exact zaF (show H a=some (.tup xs) from h) hb
theorem Sr.sq_inj{H:Hp}{xs ys:List V}{x:Sr}(h:x.sq H xs)(h':x.sq H ys):xs=ys:=by
 cases x with
 | l a=>rcases h with h | ⟨o,h⟩ <;> rcases h' with h' | ⟨o',h'⟩ <;> rw[h] at h' <;> cases h' <;> rfl
 | t a =>
   have h:H a=some (.tup xs):=h;have h':H a=some (.tup ys):=h';rw[h] at h';cases h';rfl
theorem Sr.sq_is{X:Cx}{pins:List (Addr×Obj)}{σ:L2.St}{H:Hp}{s:Shared}{xs:List V}{x:Sr}(I:Inv X pins σ H s)(h:x.sq H xs):∃ its:List Value,Vals xs its/\x.is s.heap its.toArray:=by
 cases x with
 | l a =>
   obtain⟨its,rv,p,_⟩:=I.list (show SqL X.K H a xs from .inl h);exact⟨its,rv,p.isList⟩
 | t a =>
   obtain⟨its,rv,p,_⟩:=I.tuple (SqT.of (K:=X.K) h);exact⟨its,rv,p⟩
noncomputable def Itz(x y:Sr):It :=
 ⟨fun i H=>∃ xs ys u v,x.sq H xs/\y.sq H ys/\xs[i]?=some u/\ys[i]?=some v,fun i H r H'=>∃ p u v,H p=none/\H'=upd H p (.tup [u,v])/\r=.ref p/\(∀ xs,x.sq H xs->xs[i]?=some u)/\∀ ys,y.sq H ys->ys[i]?=some v,
   fun i H=>∃ xs ys,x.sq H xs/\y.sq H ys/\(xs.length<=i\/ys.length<=i)⟩
theorem zlu{P:Program}{w:World}{K:Ae}{elts:List Expr}{x1}{pos:Pos}(x y:Sr){z TI TO i j:Addr}(D:Zp z TI TO i j) :
   Turn P w K (.Tuple elts x1 pos) (Itz x y) [z,TI,TO,i,j] z (fun n h=>IsZip h z TI TO .none/\IsPair h TI (.ref i) (.ref j)/\(∃ a b,IsPair h TO a b)/\x.at_ h i n/\y.at_ h j n) where
 mem:=by simp
 obj:=fun n h st b hb=>by
   obtain⟨hz,hTI,⟨a,c,hTO⟩,hi,hj⟩:=st;simp only[AN,AH,or_false] at hb
   rcases hb with rfl | rfl | rfl | rfl | rfl
   . exact⟨_,hz,fun v q=>by cases q⟩
   . exact⟨_,hTI,fun v q=>by cases q⟩
   . exact⟨_,hTO,fun v q=>by cases q⟩
   . obtain⟨o,vs,g,d⟩:=Sr.at_get hi;exact⟨o,g,fun v q=>by rw[d] at q;cases q⟩
   . obtain⟨o,vs,g,d⟩:=Sr.at_get hj;exact⟨o,g,fun v q=>by rw[d] at q;cases q⟩
 keep:=fun n h h' st k=>by
   obtain⟨hz,hTI,⟨a,c,hTO⟩,hi,hj⟩:=st;exact⟨k z (by simp) _ hz,k TI (by simp) _ hTI,⟨a,c,k TO (by simp) _ hTO⟩,Sr.at_keep hi fun o q=>k i (by simp) o q,Sr.at_keep hj fun o q=>k j (by simp) o q⟩
 item:=by
   intro X hP hw hK hc n pins s σ H E I hf st hg;subst hP hw hK;obtain⟨xs,ys,u,v,hx,hy,gu,gv⟩:=hg;obtain⟨hz,hTI,⟨a,c,hTO⟩,hi,hj⟩:=st;obtain⟨its,rx,ix⟩:=Sr.sq_is I hx;obtain⟨jts,ry,iy⟩:=Sr.sq_is I hy;obtain⟨u',gu',ru⟩:=rx.get gu;obtain⟨v',gv',rv⟩:=ry.get gv;have fz:=(hf z (by simp)).1;have fTO:=(hf TO (by simp)).1;have fi:=(hf i (by simp)).1;have fj:=(hf j (by simp)).1;refine zlo D ⟨Sr.sq_ne hx fz,Sr.sq_ne hx fTO,Sr.sq_ne hx fi,Sr.sq_ne hx fj⟩ ⟨Sr.sq_ne hy fz,Sr.sq_ne hy fTO,Sr.sq_ne hy fi,Sr.sq_ne hy fj⟩ hz hTI hTO hi hj ix iy (u:=u') (v:=v') (by simpa using gu') (by simpa using gv') fun h1 z1 ti1 to1 i1 j1 t1 k1=>?_;refine⟨_,rfl,wpAny_letOwnedTupleGo_zip (s:={ s with heap:=h1 }) z1 fun h2 z2 b2=>?_⟩;have up:∀ b o,b≠z->h1.get? b=some o->h2.get? b=some o:=fun b o nb q=>(b2.2 b nb).trans q;have k2:∀ b o,b ∉ [z,TI,TO,i,j]->s.heap.get? b=some o->h2.get? b=some o:=fun b o hb q=>by
     simp only[AN,AH,or_false,not_or] at hb;exact up b o hb.1 (k1 b o hb.1 hb.2.2.1 hb.2.2.2.1 hb.2.2.2.2 q)
   have lt:∀ b∈[z,TI,TO,i,j],b < s.heap.objs.size:=fun b hb=>by
     simp only[AN,AH,or_false] at hb
     rcases hb with rfl | rfl | rfl | rfl | rfl
     . exact Ak hz
     . exact Ak hTI
     . exact Ak hTO
     . obtain⟨o,vs,g,d⟩:=Sr.at_get hi;exact Ak g
     . obtain⟨o,vs,g,d⟩:=Sr.at_get hj;exact Ak g
   have t2:h2.get? s.heap.objs.size=some { cls:=.type "tuple",data:=.seq #[u',v'] }:=up _ _ (AQ (lt z (by simp))) t1;have st2:IsZip h2 z TI TO .none/\IsPair h2 TI (.ref i) (.ref j)/\(∃ a b,IsPair h2 TO a b)/\x.at_ h2 i (n+1)/\y.at_ h2 j (n+1) :=
     ⟨z2,up _ _ D.TIz ti1,⟨_,_,up _ _ D.TOz to1⟩,Sr.at_keep i1 fun o q=>up _ o D.iz q,Sr.at_keep j1 fun o q=>up _ o D.jz q⟩
   refine⟨.ref s.heap.objs.size,upd H s.heap.objs.size (.tup [u,v]),?_,rfl,⟨_,u,v,I.hok.fresh (Af _),rfl,rfl,fun zs h=>by rw[Sr.sq_inj h hx];exact gu,fun zs h=>by rw[Sr.sq_inj h hy];exact gv⟩,st2,fun b hb=>?_⟩
   . refine Inv.turnNew (s:=s) (h':=h2) (t':=s.toks) I hf k2 (Af _) (fun b hb ob q=>?_) ⟨by show 2<=sizeLine;decide,[u',v'],.cons ru (.cons rv .nil),⟨_,t2,rfl,rfl,_,rfl⟩⟩;simp only[AN,AH,or_false] at hb
     rcases hb with rfl | rfl | rfl | rfl | rfl
     . exact⟨_,z2⟩
     . exact⟨_,st2.2.1⟩
     . obtain⟨_,_,q⟩:=st2.2.2.1;exact⟨_,q⟩
     . obtain⟨o,vs,g,d⟩:=Sr.at_get st2.2.2.2.1;exact⟨o,g⟩
     . obtain⟨o,vs,g,d⟩:=Sr.at_get st2.2.2.2.2;exact⟨o,g⟩
   . rw[zaO (AB (lt b hb))];exact (hf b hb).1
 done:=by
   intro X hP hw hK hc n pins s σ H E I hf st hg;subst hP hw hK;obtain⟨xs,ys,hx,hy,he⟩:=hg;obtain⟨hz,hTI,⟨a,c,hTO⟩,hi,hj⟩:=st;obtain⟨its,rx,ix⟩:=Sr.sq_is I hx;obtain⟨jts,ry,iy⟩:=Sr.sq_is I hy;have fz:=(hf z (by simp)).1;have fTO:=(hf TO (by simp)).1;have fi:=(hf i (by simp)).1;have fj:=(hf j (by simp)).1;have l1:=rx.length;have l2:=ry.length;exact znl (I.ok.hd hc) D ⟨Sr.sq_ne hx fz,Sr.sq_ne hx fTO,Sr.sq_ne hx fi,Sr.sq_ne hx fj⟩ ⟨Sr.sq_ne hy fz,Sr.sq_ne hy fTO,Sr.sq_ne hy fi,Sr.sq_ne hy fj⟩ hz hTI hTO hi hj ix iy (by
     rcases he with h | h
     . exact .inl (by simp;omega)
     . exact .inr (by simp;omega)) fun h' k=>⟨rfl,Inv.turnAll (t':=s.toks) I hf fun b o hb q=>by
       simp only[AN,AH,or_false,not_or] at hb;exact k b o hb.1 hb.2.2.1 hb.2.2.2.1 hb.2.2.2.2 q⟩
 self:=fun _ _ _ _ _ st h=>wpAny_pyIter_zip st.1 h
section
variable {X:Cx} {K:Ae} {H:Hp} {io:List Addr} {ma mb:ME} {st st':Sto}
noncomputable def seqD(s:Sto):D->Option (List D×List (Nat×List D))
 | .ref n=>(zca s n).map fun ds=>(ds,[(n,ds)])
 | .tup ds=>some (ds,[])
 | _=>none
noncomputable def pairD(a b:List D):List D:=(a.zip b).map fun p=>.tup [p.1,p.2]
noncomputable def zipW(x y:D)(s:Sto):Option (Wk×Sto):=(seqD s x).bind fun (a,f)=>(seqD s y).map fun (b,g)=>(⟨pairD a b,f++g⟩,s)
noncomputable def mZip(ma mb:ME):MI:=fun ρ st=>(ma ρ st).bind fun (x,s1)=>(mb ρ s1).bind fun (y,s2)=>zipW x y s2
theorem zkW{d:D}{v:V}{ds:List D}{g:List (Nat×List D)}(S:StR K H io st)(R:Rep K H io v d)(h:seqD st d=some (ds,g)):∃ x:Sr,v=.ref x.ad/\(∃ xs,x.sq H xs) /\
   ∀ H1 ka s1,Ext io ka H H1->StR K H1 (io++ka) s1->(∀ p,p∈g->s1[p.1]?=some (.lst p.2)\/s1[p.1]?=some (.fz p.2))->∃ xs,x.sq H1 xs/\Reps K H1 (io++ka) xs ds:=by
 cases d with
 | ref n =>
   obtain⟨l,e,q⟩:=zaj h;cases q;obtain⟨p,rfl,hp⟩:=R;refine⟨.l p,rfl,?_,fun H1 ka s1 X1 S1 hs=>?_⟩
   . unfold zca at e
     split at e
     . rename_i o he;cases e;obtain⟨xs,q,_⟩:=S.ob n p _ hp he;exact⟨xs,.inl q⟩
     . rename_i o he;cases e;obtain⟨ob,xs,q,_⟩:=S.ob n p _ hp he;exact⟨xs,.inr ⟨ob,q⟩⟩
     . cases e
   . rcases hs (n,ds) Aj with q | q
     . obtain⟨xs,q',r⟩:=S1.ob n p _ (zch hp) q;exact⟨xs,.inl q',r⟩
     . obtain⟨ob,xs,q',r⟩:=S1.ob n p _ (zch hp) q;exact⟨xs,.inr ⟨ob,q'⟩,r⟩
 | tup ts =>
   cases h;obtain⟨p,xs,rfl,hp,r⟩:=R;exact⟨.t p,rfl,⟨xs,hp⟩,fun H1 ka s1 X1 S1 _=>⟨xs,X1.sqT S p xs hp,r.ext S X1⟩⟩
 | _=>cases h
theorem zj6{a b:List D}{i:Nat}{d:D}(h:(pairD a b)[i]?=some d):∃ x y,a[i]?=some x/\b[i]?=some y/\d=.tup [x,y]:=by
 unfold pairD at h;rw[AA] at h;obtain⟨⟨x,y⟩,e,q⟩:=zaj h;rw[List.getElem?_zip_eq_some] at e;exact⟨x,y,e.1,e.2,q.symm⟩
theorem boot_zip:bootBuiltins "zip"=some (.type "zip"):=by decide +kernel
theorem zpG{elts:List Expr}{x1}{tp:Pos}{a b:Expr}{p pos:Pos}(hg:Gl X "zip")(hm:X.mg "zip"=none)(ha:SE X a ma)(hb:SE X b mb)(hs:starEach [a,b] X.env=[(false,eval a X.env),(false,eval b X.env)]:=by rfl)
   (hs2:starEach [b] X.env=[(false,eval b X.env)]:=by rfl) (hpl:(backTo pos (starEach [b] X.env)).any (·.1)=false:=by rfl):SI X (.Tuple elts x1 tp) (.Call (.Name "zip" p) [a,b] [] pos) (mZip ma mb):=by
 rintro pins s σ H R I ⟨ρ,st,io,W,st',E,S,e,k⟩;obtain⟨⟨x,s1⟩,e1,e⟩:=zag e;obtain⟨⟨y,s2⟩,e2,e⟩:=zag e;obtain⟨⟨as,f⟩,e3,e⟩:=zag e;obtain⟨⟨bs,g⟩,e4,e⟩:=zaj e;cases e;have hs1:starEach [a,b] X.env=(false,eval a X.env)::starEach [b] X.env:=by rw[hs,hs2]
 refine Call_ (ziO I hg hm boot_zip (CQ (thn (zaa ha (zaa hb zah hs2) hs1 pos pins s σ H (fun vs H'=>∃ ka,Ext io ka H H'/\StR X.K H' (io++ka) st'/\Reps X.K H' (io++ka) vs [x,y]) I ⟨ρ,st,io,[x,y],st',E,S,zgh e1 (zgh e2 rfl),fun vs H1 k1 X1 S1 R1=>⟨k1,X1,S1,R1⟩⟩) ?_) hs1 hpl));rintro us t1 ⟨vs,H1,I1,r1,k1,X1,S1,R1⟩;obtain⟨v,u,rfl,Rx,Ry⟩:=R1.two;obtain⟨v',u',rfl,rv,ru⟩:=r1.two;obtain⟨xx,rfl,⟨xs,hx⟩,kx⟩:=zkW S1 Rx e3;obtain⟨yy,rfl,⟨ys,hy⟩,ky⟩:=zkW S1 Ry e4;cases rv;cases ru;obtain⟨its,vx,ix⟩:=Sr.sq_is I1 hx;obtain⟨jts,vy,iy⟩:=Sr.sq_is I1 hy;refine zkx ix iy fun h' hz hTI hTO hi hj kk=>wpAny_pyIter_zip hz ?_;refine⟨_,_,_,_,H1,rfl,I1.kept (t':=t1.toks) kk,zlu xx yy (Zp.new t1.heap.objs.size),⟨hz,hTI,⟨_,_,hTO⟩,hi,hj⟩,fun b hb=>?_,?_⟩
 . have hle:t1.heap.objs.size<=b:=by
     simp only[AN,AH,or_false] at hb
     rcases hb with rfl | rfl | rfl | rfl | rfl
     . exact BS _ 4
     . exact BS _ 2
     . exact BS _ 3
     . exact Af _
     . exact BS _ 1
   exact I1.fpOk hle (I1.hok.fresh hle)
 . refine k _ H1 k1 X1 S1 ?_;have st1:∀ {s3:Sto},stays ⟨pairD as bs,f++g⟩ s3->(∀ p,p∈f->s3[p.1]?=some (.lst p.2)\/s3[p.1]?=some (.fz p.2))/\∀ p,p∈g->s3[p.1]?=some (.lst p.2)\/s3[p.1]?=some (.fz p.2):=fun {s3} h=>⟨fun p hp=>h p (Bx _ hp),fun p hp=>h p (A2 _ hp)⟩
   have len:∀ {a b:List D},(pairD a b).length=min a.length b.length:=fun {a b}=>by unfold pairD;rw[Ag,Hc]
   refine⟨fun i d H2 k2 s3 hd X2 S2 hs=>?_,fun H2 k2 s3 X2 S2 hs=>?_,fun H2 k2 s3 i hi X2 S2 hs=>?_⟩
   . obtain⟨xs2,qx,rx⟩:=kx H2 k2 s3 X2 S2 (st1 hs).1;obtain⟨ys2,qy,ry⟩:=ky H2 k2 s3 X2 S2 (st1 hs).2;obtain⟨dx,dy,g1,g2,rfl⟩:=zj6 hd;obtain⟨u1,gu,ru⟩:=rx.get g1;obtain⟨v1,gv,rv⟩:=ry.get g2;refine⟨⟨xs2,ys2,u1,v1,qx,qy,gu,gv⟩,fun r H' yl=>?_⟩;obtain⟨q,u2,v2,hq,rfl,rfl,yu,yv⟩:=yl;have e5:=yu xs2 qx;have e6:=yv ys2 qy;rw[gu] at e5;rw[gv] at e6;cases e5;cases e6;obtain⟨E',S'⟩:=zej (o:=.tup [u1,v1]) S2 hq;rw[Ap] at S';refine⟨E',S',⟨q,_,rfl,zbv,?_⟩⟩;have r2:=ru.ext S2 E';have r3:=rv.ext S2 E';rw[Ap] at r2 r3;exact Reps.cons r2 (Reps.cons r3 Reps.nil)
   . obtain⟨xs2,qx,rx⟩:=kx H2 k2 s3 X2 S2 (st1 hs).1;obtain⟨ys2,qy,ry⟩:=ky H2 k2 s3 X2 S2 (st1 hs).2;refine⟨xs2,ys2,qx,qy,?_⟩;show xs2.length<=(pairD as bs).length\/ys2.length<=(pairD as bs).length;rw[len,rx.length,ry.length];omega
   . obtain⟨xs2,qx,rx⟩:=kx H2 k2 s3 X2 S2 (st1 hs).1;obtain⟨ys2,qy,ry⟩:=ky H2 k2 s3 X2 S2 (st1 hs).2;refine⟨xs2,ys2,qx,qy,?_⟩;have hi:(pairD as bs).length<=i:=hi;rw[len] at hi;rw[rx.length,ry.length];omega
end
noncomputable def Caps(X:Cx)(fs:List Str):List Nat->List Str->Prop
 | [],[]=>True
 | j::js,x::xs=>(X.N[j]?=some x/\x∈fs)/\Caps X fs js xs
 | _,_=>False
noncomputable def Outs(X:Cx):List Str->Prop
 | []=>True
 | x::xs=>(X.env.kindOf x=some .cell\/X.env.kindOf x=some .free)/\Outs X xs
theorem Outs.get{X:Cx}:∀ {fs:List Str} {x:Str},Outs X fs->x∈fs->X.env.kindOf x=some .cell\/X.env.kindOf x=some .free
 | [],_,_,m=>nomatch m
 | y::ys,x,h,m=>by
   rcases List.mem_cons.mp m with rfl | m
   . exact h.1
   . exact Outs.get h.2 m
theorem Caps.get{X:Cx}{fs:List Str}:∀ {fr:List Nat} {xs:List Str} {i j:Nat} {x:Str},Caps X fs fr xs->fr[i]?=some j->xs[i]?=some x->X.N[j]?=some x/\x∈fs
 | [],[],i,j,x,_,h,_=>by simp at h
 | [],_::_,i,j,x,h,_,_=>h.elim
 | _::_,[],i,j,x,h,_,_=>h.elim
 | k::ks,y::ys,0,j,x,h,h1,h2=>by
   simp at h1 h2;subst h1 h2;exact h.1
 | k::ks,y::ys,i+1,j,x,h,h1,h2=>Caps.get (i:=i) h.2 (by simpa using h1) (by simpa using h2)
theorem zcK{X:Cx}{scope:Scope}{N':List Str}{nt:Nat}{fr:List Nat}(fs:List Str)(kind:scope.kind=.function)(nd:(scope.names.map (·.1)).Nodup)(hf:scope.names.all (fun p=>!(p.2==AU) || fs.contains p.1)=true)
   (hb:fs.all (fun x=>scope.names.contains (x,AU))=true) (len:N'.length=nt+fr.length) (cap:Caps X fs fr (N'.drop nt)) (out:Outs X fs):CompS X scope N' nt fr:=by
 refine⟨kind,nd,len,fun i j x h1 h2=>?_,fun x hx=>?_⟩
 . have h2':(N'.drop nt)[i]?=some x:=by rw[List.getElem?_drop];exact h2
   obtain⟨a,b⟩:=cap.get h1 h2';refine⟨a,?_⟩;have:=List.all_eq_true.mp hb x b;simpa using this
 . have:=List.all_eq_true.mp hf _ hx;have hm:x∈fs:=by simpa using this
   exact out.get hm
theorem zd5:bootBuiltins "len"=some (.builtin "len"):=by decide +kernel
theorem zqY:bootBuiltins "abs"=some (.builtin "abs"):=by decide +kernel
theorem zqX:bootBuiltins "max"=some (.builtin "max"):=by decide +kernel
theorem zqW:bootBuiltins "min"=some (.builtin "min"):=by decide +kernel
theorem zdK:bootBuiltins "sorted"=some (.builtin "sorted"):=by decide +kernel
theorem zo6:bootBuiltins "all"=some (.builtin "all"):=by decide +kernel
theorem zhG:bootBuiltins "int"=some (.type "int"):=by decide +kernel
theorem zg0:bootBuiltins "bool"=some (.type "bool"):=by decide +kernel
theorem zo3:bootBuiltins "str"=some (.type "str"):=by decide +kernel
theorem zo5:bootBuiltins "list"=some (.type "list"):=by decide +kernel
theorem zct:bootBuiltins "tuple"=some (.type "tuple"):=by decide +kernel
noncomputable def mulA:G2:=orG mulD zmm
theorem zcV{X:Cx}:OpM X (binaryOp .Mult) mulA:=zhr zom zmf
theorem zk9{K:Ae}{H:Hp}{io:List Addr}:∀ (ns:List Int),Reps K H io (ns.map V.int) (ns.map D.int)
 | []=>rfl
 | n::ns=>⟨_,_,rfl,rfl,zk9 ns⟩
theorem zlE{K:Ae}{H:Hp}{a:Addr}{ns:List Int}{g:GN}{st:Sto}{E:XK}(hO:Only H)(hS:SqL K H a (ns.map V.int))(e:g [.kl (ns.map D.int)] []=some (.bl true,st)):spM K 1 g [.ref a] H (fun v _=>v=.bl true) E:=by
 have hF:SqF K H a (ns.map V.int):=by
   rcases hS with (h | h) | h
   . rcases hO a with z | ⟨o,xs,z⟩
     . rw[z] at h;cases h
     . rw[z] at h;cases h
   . exact .inl h
   . exact .inr h
 refine⟨_,[],[],_,_,rfl,Reps.cons (show Rep K H [] (.ref a) (.kl (ns.map D.int)) from ⟨a,_,rfl,hF,zk9 ns⟩) Reps.nil,⟨rfl,DZ,fun n b o h=>by simp at h⟩,e,fun v H' ka E' S' R'=>R'⟩
end L2.MP
namespace L2.MP
structure Y3(a b c:Prop):Prop where
 h1:a
 h2:b
 h3:c
open PySem
structure Gr(st st':Sto):Prop where
 len:st.length<=st'.length
 old:∀ k,k < st.length->st'[k]?=st[k]?
structure Fr(n:Nat)(st st':Sto):Prop where
 len:st.length<=st'.length
 old:∀ k,k < st.length->k≠n->st'[k]?=st[k]?
theorem Gr.refl(st:Sto):Gr st st:=⟨Af _,fun _ _=>rfl⟩
theorem Fr.refl(n:Nat)(st:Sto):Fr n st st:=⟨Af _,fun _ _ _=>rfl⟩
theorem Gr.fr{st st':Sto}(h:Gr st st')(n:Nat):Fr n st st':=⟨h.len,fun k hk _=>h.old k hk⟩
theorem Gr.trans{a b c:Sto}(h:Gr a b)(h':Gr b c):Gr a c:=⟨AR h.len h'.len,fun k hk=>(h'.old k (As hk h.len)).trans (h.old k hk)⟩
theorem Fr.trans{n:Nat}{a b c:Sto}(h:Fr n a b)(h':Fr n b c):Fr n a c:=⟨AR h.len h'.len,fun k hk nk=>(h'.old k (As hk h.len) nk).trans (h.old k hk nk)⟩
theorem Gr.app(st:Sto)(l:List O):Gr st (st++l):=⟨by simp,fun k hk=>AK hk⟩
theorem Fr.app(n:Nat)(st:Sto)(l:List O):Fr n st (st++l):=(Gr.app st l).fr n
theorem Fr.set(n:Nat)(st:Sto)(o:O):Fr n st (st.set n o):=⟨by simp,fun k _ hk=>by rw[AO (fun h=>hk h.symm)]⟩
theorem getElem?_lt{α:Type}{l:List α}{n:Nat}{x:α}(h:l[n]?=some x):n < l.length:=(List.getElem?_eq_some_iff.mp h).1
theorem za9(st:Sto)(o:O):(st++[o])[st.length]?=some o:=getElem?_len st o
theorem zdY{W:Wk}{g:MG}{m:MS}:∀ {ds:List D} {Inv:Nat->Rho->Sto->Prop} {ρ:Rho} {st:Sto},Inv 0 ρ st->(∀ k ρ s,k<=ds.length->Inv k ρ s->walked W s=true) ->
   (∀ k d ρ s,ds[k]?=some d->Inv k ρ s->∃ ρ1 s1 ρ2 s2,g d ρ s=some (ρ1,s1)/\m ρ1 s1=some (.nx ρ2,s2)/\Inv (k+1) ρ2 s2)->∃ ρ' s',ze3 W g m ds ρ st=some (.nx ρ',s')/\Inv ds.length ρ' s'
 | [],Inv,ρ,st,h0,wk,step=>⟨ρ,st,by unfold ze3;rw[if_pos (wk 0 ρ st (Af _) h0)],h0⟩
 | d::ds,Inv,ρ,st,h0,wk,step=>by
   obtain⟨ρ1,s1,ρ2,s2,e1,e2,h1⟩:=step 0 d ρ st rfl h0;obtain⟨ρ',s',e,h⟩:=zdY (W:=W) (g:=g) (m:=m) (ds:=ds) (Inv:=fun k=>Inv (k+1)) h1 (fun k ρ s hk h=>wk (k+1) ρ s (DF hk) h) (fun k d ρ s hd h=>step (k+1) d ρ s (by simpa using hd) h);refine⟨ρ',s',?_,h⟩;unfold ze3;rw[if_pos (wk 0 ρ st (AZ _) h0),e1];simp only[Ac,e2];exact e
theorem zo0{W:Wk}{g:MG}{c:MT}{m:ME}:∀ {ds:List D} {Inv:Nat->List D->Rho->Sto->Prop} {acc:List D} {ρ:Rho} {st:Sto},Inv 0 acc ρ st->(∀ k a ρ s,k<=ds.length->Inv k a ρ s->walked W s=true) ->
   (∀ k d a ρ s,ds[k]?=some d->Inv k a ρ s->∃ ρ1 s1 b s2,g d ρ s=some (ρ1,s1)/\c ρ1 s1=some (b,s2)/\((b=true/\∃ x s3,m ρ1 s2=some (x,s3)/\Inv (k+1) (a++[x]) ρ1 s3)\/(b=false/\Inv (k+1) a ρ1 s2))) ->
   ∃ xs ρ' s',mCI W g c m ds ρ st=some (xs,s')/\Inv ds.length (acc++xs) ρ' s'
 | [],Inv,acc,ρ,st,h0,wk,step=>⟨[],ρ,st,by unfold mCI;rw[if_pos (wk 0 acc ρ st (Af _) h0)],by rw[Ap];exact h0⟩
 | d::ds,Inv,acc,ρ,st,h0,wk,step=>by
   obtain⟨ρ1,s1,b,s2,e1,e2,h1⟩:=step 0 d acc ρ st rfl h0;have wk':∀ k a ρ s,k<=ds.length->Inv (k+1) a ρ s->walked W s=true:=fun k a ρ s hk h=>wk (k+1) a ρ s (DF hk) h;have st':∀ k d a ρ s,ds[k]?=some d->Inv (k+1) a ρ s->∃ ρ1 s1 b s2,g d ρ s=some (ρ1,s1)/\c ρ1 s1=some (b,s2)/\((b=true/\∃ x s3,m ρ1 s2=some (x,s3)/\Inv (k+1+1) (a++[x]) ρ1 s3)\/(b=false/\Inv (k+1+1) a ρ1 s2)):=fun k d a ρ s hd h=>step (k+1) d a ρ s (by simpa using hd) h
   rcases h1 with ⟨rfl,x,s3,e3,h1⟩ | ⟨rfl,h1⟩
   . obtain⟨xs,ρ',s',e,h⟩:=zo0 (W:=W) (g:=g) (c:=c) (m:=m) (ds:=ds) (Inv:=fun k=>Inv (k+1)) h1 wk' st';refine⟨x::xs,ρ',s',?_,by simpa using h⟩;unfold mCI;rw[if_pos (wk 0 acc ρ st (AZ _) h0),e1];simp only[Ac,e2,if_true,e3,e,Ai]
   . obtain⟨xs,ρ',s',e,h⟩:=zo0 (W:=W) (g:=g) (c:=c) (m:=m) (ds:=ds) (Inv:=fun k=>Inv (k+1)) h1 wk' st';refine⟨xs,ρ',s',?_,h⟩;unfold mCI;rw[if_pos (wk 0 acc ρ st (AZ _) h0),e1];simp only[Ac,e2,Aq,if_false,e]
theorem zjg{W:Wk}{g:MG}{c:MT}{m:ME}{α:Type}{f h:α->D}{R:Rho->Prop}:∀ {as:List α} {ρ:Rho} {st:Sto},R ρ->walked W st=true->(∀ a∈as,∀ ρ,R ρ->∃ ρ1,g (f a) ρ st=some (ρ1,st)/\c ρ1 st=some (true,st)/\m ρ1 st=some (h a,st)/\R ρ1) ->
   mCI W g c m (as.map f) ρ st=some (as.map h,st)
 | [],ρ,st,r,wk,_=>by unfold mCI;rw[Cs];simp only[wk,if_true,Cs]
 | a::as,ρ,st,r,wk,hs=>by
   obtain⟨ρ1,e1,e2,e3,r1⟩:=hs a Aj ρ r;have e:=zjg (W:=W) (g:=g) (c:=c) (m:=m) (f:=f) (h:=h) (R:=R) (as:=as) r1 wk fun b hb=>hs b (Ah _ hb);rw[Ar];unfold mCI;rw[if_pos wk,e1];simp only[Ac,e2,if_true,e3,e,Ai,Ar]
theorem zc7{ds xs:List D}{n:Nat}{s:Sto}(h:s[n]?=some (.lst xs)):walked ⟨ds,[(n,xs)]⟩ s=true:=by
 unfold walked;simp only[DB,Hy,Ek];exact zi1 h
theorem zaT{n:Nat}(h:n<=10000):fits n=true:=by
 unfold fits;exact decide_eq_true (AR h (by decide))
end L2.MP
namespace L2.MP
@[simp] theorem zbg{α:Type}(x:α)(y:Option α):orO (some x) y=some x:=rfl
@[simp] theorem zbs{α:Type}(y:Option α):orO none y=y:=rfl
end L2.MP
namespace L2.MP.Hn
open PySem L2.MP
noncomputable def zer:MS:=mSeq (mAsg (mCon (.int 0)) (gNm 2)) (mSeq (mIf (mTst (mBin ltD (mVar 1) (zaG lenD (zab (mVar 0) (mNil))))) (mAsg (mBin ixA (mVar 0) (mVar 1)) (gNm 2)) (zcG)) (mSeq (mAsg (mBin addD (mBin mulA (mCon (.int 2)) (mBin modD (zaG absC (zab (mVar 2) (mNil))) (mBin powB (mBin powB (mCon (.int 10)) (mCon (.int 60))) (mCon (.int 15))))) (zaG intC (zab (mBin ltD (mVar 2) (mCon (.int 0))) (mNil)))) (gNm 3)) (mSeq (mAsg (mBin modD (mVar 3) (mCon (.int 18446744073709551557))) (gNm 4)) (mSeq (mAsg (mBin modD (mBin addD (mBin addD (mBin mulA (mVar 4) (mCon (.int 6364136223846793005))) (mBin mulA (mCon (.int 97)) (mVar 1))) (mCon (.int 3))) (mCon (.int 18446744073709551616))) (gNm 5)) (mRet (mLst (zab (mBin mulA (mVar 3) (zaG intC (zab (mBin geD (mVar 3) (mBin mulA (mCon (.int 2)) (mBin powB (mCon (.int 10)) (mCon (.int 18))))) (mNil)))) (zab (mVar 5) (mNil)))))))))
noncomputable def zcP:GN:=fnM 6 zer
noncomputable def zc5:MS:=mSeq (mIf (mTst (mBin gtD (mBin ixA (mVar 0) (mCon (.int 0))) (mCon (.int 0)))) (mSeq (mAsg (mBin modD (mBin ixA (mVar 0) (mCon (.int 0))) (mVar 1)) (gNm 2)) (mSeq (putA (mVar 0) (mCon (.int 0)) (mBin znk (mBin ixA (mVar 0) (mCon (.int 0))) (mVar 1))) (mRet (mVar 2)))) (zcG)) (mSeq (putA (mVar 0) (mCon (.int 1)) (mBin modD (mBin addD (mBin mulA (mBin ixA (mVar 0) (mCon (.int 1))) (mCon (.int 6364136223846793005))) (mCon (.int 1442695040888963407))) (mCon (.int 18446744073709551616)))) (mRet (mBin znk (mBin mulA (mBin znk (mBin ixA (mVar 0) (mCon (.int 1))) (mCon (.int 4294967296))) (mVar 1)) (mCon (.int 4294967296)))))
noncomputable def zad:GN:=fnM 3 zc5
noncomputable def zfM:MS:=mRet (mBin ixA (mVar 1) (zaG zad (zab (mVar 0) (zab (zaG lenD (zab (mVar 1) (mNil))) (mNil)))))
noncomputable def zaq:GN:=fnM 2 zfM
noncomputable def zbu:ME:=mBin ixA (mVar 1) (zaG zad (zab (mVar 2) (zab (mCon (.int 26)) (mNil))))
noncomputable def zbN:MS:=mSeq (mAsg (zaG zad (zab (mVar 0) (zab (mCon (.int 4)) (mNil)))) (gNm 5)) (mSeq (mAsg (zpk (mCon (.str "")) (zab (ze4 (mR1 (zaG zaq (zab (mVar 0) (zab (mLst (zab (mCon (.int 1)) (zab (mCon (.int 1)) (zab (mCon (.int 2)) (zab (mCon (.int 3)) (zab (mCon (.int 8)) (mNil))))))) (mNil))))) 1 [2,0] (gNm 0) (zc6) (zbu)) (mNil))) (gNm 6)) (mSeq (mIf (zfw (mTst (mBin neD (mVar 3) (mLst (mNil)))) (mTst (mBin eqD (mVar 5) (mCon (.int 1))))) (mAsg (mSlA (mBin addD (zaG zaq (zab (mVar 0) (zab (mVar 3) (mNil)))) (mVar 6)) (zcn) (zcm (mCon (.int 8)))) (gNm 6)) (zcG)) (mSeq (mIf (zfw (mTst (mBin neD (mVar 3) (mLst (mNil)))) (mTst (mBin eqD (mVar 5) (mCon (.int 2))))) (mAsg (mBin addD (mSlA (zaG zaq (zab (mVar 0) (zab (mVar 3) (mNil)))) (zcn) (zcm (mNeg (mCon (.int 1))))) (mSlA (mVar 6) (zcn) (zcm (mCon (.int 1))))) (gNm 6)) (zcG)) (mIf (zfw (mTst (mBin ltD (zaG lenD (zab (mVar 3) (mNil))) (mVar 1))) (mTst (mBin ziC (mVar 6) (mVar 3)))) (mExp (mApp (mVar 3) (zab (mVar 6) (mNil)))) (zcG)))))
noncomputable def zdx:MS:=mSeq (mAsg (mCon (.str "abcdefghijklmnopqrstuvwxyz")) (gNm 2)) (mSeq (mAsg (mLst (mNil)) (gNm 3)) (mSeq (mFor (mR1 (mBin mulA (mCon (.int 2)) (mVar 1))) (gNm 4) (zbN)) (mRet (mVar 3))))
noncomputable def zco:GN:=fnM 7 zdx
noncomputable def zbP:ME:=mTup (zab (mVar 0) (zab (mBin addD (mCon (.int 1)) (zaG zad (zab (mVar 1) (zab (zaG zaq (zab (mVar 1) (zab (mLst (zab (mCon (.int 1)) (zab (mCon (.int 2)) (zab (mCon (.int 4)) (mNil))))) (mNil)))) (mNil))))) (mNil)))
noncomputable def zbi:ME:=zaG zaq (zab (mVar 1) (zab (mVar 2) (mNil)))
noncomputable def zbO:MS:=mSeq (mAsg (mBin mulA (mBin ixA (mVar 4) (zaG zad (zab (mVar 0) (zab (mCon (.int 36)) (mNil))))) (zaG intC (zab (mBin gtD (zaG zad (zab (mVar 0) (zab (mCon (.int 4)) (mNil)))) (mCon (.int 0))) (mNil)))) (gNm 8)) (mSeq (mAsg (mBin addD (mTup (zab (mVar 8) (mNil))) (zaG zeu (zab (ze4 (mR1 (mCon (.int 4))) 1 [0,5] (gNm 0) (zc6) (zbi)) (mNil)))) (gNm 9)) (mSeq (mIf (zfw (mTst (mBin neD (mVar 6) (mLst (mNil)))) (mTst (mBin eqD (zaG zad (zab (mVar 0) (zab (mCon (.int 8)) (mNil)))) (mCon (.int 0))))) (mAsg (zaG zaq (zab (mVar 0) (zab (mVar 6) (mNil)))) (gNm 9)) (zcG)) (mExp (mApp (mVar 6) (zab (mVar 9) (mNil))))))
noncomputable def zdy:MS:=mSeq (mAsg (zaG zcT (zab (zaG zco (zab (mVar 0) (zab (zaG zaq (zab (mVar 0) (zab (mLst (zab (mCon (.int 1)) (zab (mCon (.int 2)) (zab (mCon (.int 2)) (zab (mCon (.int 3)) (zab (mCon (.int 5)) (zab (mCon (.int 0)) (mNil)))))))) (mNil)))) (mNil)))) (mNil))) (gNm 2)) (mSeq (mAsg (zaG zeu (zab (ze4 (mW (mVar 2)) 1 [0] (gNm 0) (zc6) (zbP)) (mNil))) (gNm 3)) (mSeq (mAsg (mCon (.str "abcdefghijklmnopqrstuvwxyz0123456789")) (gNm 4)) (mSeq (mAsg (mBin addD (mBin addD (mBin addD (mLst (zab (mCon (.str "")) (mNil))) (mVar 2)) (mVar 2)) (mVar 2)) (gNm 5)) (mSeq (mAsg (mLst (mNil)) (gNm 6)) (mSeq (mFor (mR1 (mBin addD (mCon (.int 1)) (zaG zad (zab (mVar 0) (zab (mVar 1) (mNil)))))) (gNm 7) (zbO)) (mRet (mTup (zab (zaG zaq (zab (mVar 0) (zab (mLst (zab (mCon (.int 1)) (zab (mCon (.int 2)) (zab (mCon (.int 2)) (zab (mCon (.int 3)) (zab (mCon (.int 4)) (mNil))))))) (mNil)))) (zab (mVar 3) (zab (zaG zeu (zab (mVar 6) (mNil))) (mNil)))))))))))
noncomputable def zcp:GN:=fnM 10 zdy
noncomputable def zfN:MS:=mSeq (mAsg (zaG zaq (zab (mVar 0) (zab (mLst (zab (mCon (.int 4)) (zab (mCon (.int 4)) (zab (mCon (.int 4)) (zab (mCon (.int 6)) (zab (mCon (.int 6)) (zab (mCon (.int 6)) (zab (mCon (.int 6)) (zab (mCon (.int 12)) (mNil)))))))))) (mNil)))) (gNm 1)) (mRet (mTup (zab (mBin addD (mCon (.int 1)) (zaG zad (zab (mVar 0) (zab (mVar 1) (mNil))))) (zab (mBin addD (mCon (.int 1)) (zaG zad (zab (mVar 0) (zab (mVar 1) (mNil))))) (mNil)))))
noncomputable def zcq:GN:=fnM 2 zfN
noncomputable def zbp:MS:=putA (mVar 4) (mTup (zab (zaG zad (zab (mVar 0) (zab (mBin ixA (mVar 2) (mCon (.int 0))) (mNil)))) (zab (zaG zad (zab (mVar 0) (zab (mBin ixA (mVar 2) (mCon (.int 1))) (mNil)))) (mNil)))) (zaG zad (zab (mVar 0) (zab (zaG lenD (zab (mBin ixA (mVar 1) (mCon (.int 2))) (mNil))) (mNil))))
noncomputable def zbK:ME:=mBin addD (mVar 0) (mTup (zab (mVar 1) (mNil)))
noncomputable def zcM:MS:=mSeq (mAsg (zhJ true) (gNm 4)) (mSeq (mFor (mR1 (zaG zad (zab (mVar 0) (zab (mBin addD (mVar 3) (mCon (.int 1))) (mNil))))) (gNm 5) (zbp)) (mRet (zaG zeu (zab (zaG zcT (zab (ze4 (zmr (mVar 4)) 2 [] (gTp 2 (gC (gNm 0) (gC (gNm 1) (gN0)))) (zc6) (zbK)) (mNil))) (mNil)))))
noncomputable def za6:GN:=fnM 6 zcM
noncomputable def zes:MS:=mSeq (mPar 2 3 (zab (zaG zcp (zab (mVar 0) (zab (mVar 1) (mNil)))) (zab (zaG zcq (zab (mVar 0) (mNil))) (mNil)))) (mRet (mTup (zab (mVar 2) (zab (mVar 3) (zab (zaG za6 (zab (mVar 0) (zab (mVar 2) (zab (mVar 3) (zab (zaG zaq (zab (mVar 0) (zab (mLst (zab (mCon (.int 1)) (zab (mCon (.int 1)) (zab (mCon (.int 3)) (zab (mCon (.int 6)) (mNil)))))) (mNil)))) (mNil)))))) (mNil))))))
noncomputable def zcQ:GN:=fnM 4 zes
end L2.MP.Hn
namespace L2.MP
open PySem
section
variable {ρ ρ1:Rho} {st s1:Sto} {m n ma mb:ME} {mm:MA} {ms mq:MS} {mt mu:MT} {g:G2} {gn:GN} {d:D} {i j:Nat} {ds:List D} {mg:MG} {mgs:MGs} {ml mh:MO}
@[simp] theorem zaV:mVar i ρ st=match ρ[i]? with
 | some (some d)=>some (d,st)
 | _=>none:=rfl
@[simp] theorem za4:mCon d ρ st=some (d,st):=rfl
@[simp] theorem zaN:mBin g ma mb ρ st=(ma ρ st).bind fun p=>(mb ρ p.2).bind fun q=>g p.1 q.1 q.2:=rfl
@[simp] theorem zaQ:mTst m ρ st=(m ρ st).bind fun p=>match p.1 with
 | .bl b=>some (b,p.2)
 | _=>none:=rfl
@[simp] theorem zaz:zgR mt ρ st=(mt ρ st).map fun p=>(!p.1,p.2):=rfl
@[simp] theorem zax:zfw mt mu ρ st=(mt ρ st).bind fun p=>if p.1=true then mu ρ p.2 else some (false,p.2):=rfl
@[simp] theorem zaS:mOrT mt mu ρ st=(mt ρ st).bind fun p=>if p.1=true then some (true,p.2) else mu ρ p.2:=rfl
@[simp] theorem zaE:ziI m n ρ st=(mTst m ρ st).bind fun p=>if p.1=true then n ρ p.2 else some (.bl false,p.2):=rfl
@[simp] theorem zaC:zoF m ρ st=(mTst m ρ st).map fun p=>(.bl !p.1,p.2):=rfl
@[simp] theorem zat:zaG gn mm ρ st=(mm ρ st).bind fun p=>gn p.1 p.2:=rfl
@[simp] theorem zas:zab m mm ρ st=(m ρ st).bind fun p=>(mm ρ p.2).bind fun q=>some (p.1::q.1,q.2):=rfl
@[simp] theorem zaL:mNil ρ st=some ([],st):=rfl
@[simp] theorem zaX:mTup mm ρ st=(mm ρ st).bind fun p=>if fits p.1.length=true then some (.tup p.1,p.2) else none:=rfl
@[simp] theorem zaP:mLst mm ρ st=(mm ρ st).bind fun p=>if fits p.1.length=true then some (.ref p.2.length,p.2++[.lst p.1]) else none:=rfl
@[simp] theorem zaR:mRet m ρ st=(m ρ st).map fun p=>(.rt p.1,p.2):=rfl
@[simp] theorem za3:mExp m ρ st=(m ρ st).map fun p=>(.nx ρ,p.2):=rfl
@[simp] theorem zaK:mAsg m mg ρ st=(m ρ st).bind fun p=>(mg p.1 ρ p.2).map fun q=>(.nx q.1,q.2):=rfl
@[simp] theorem zb5:gNm i d ρ st=some (ρ.set i (some d),st):=rfl
@[simp] theorem zaw:zcG ρ st=some (.nx ρ,st):=rfl
@[simp] theorem za0:mNeg m ρ st=(m ρ st).bind fun p=>negD p.1 p.2:=rfl
@[simp] theorem zbH:mIf mt ms mq ρ st=(mt ρ st).bind fun p=>if p.1=true then ms ρ p.2 else mq ρ p.2:=rfl
@[simp] theorem zaW:putA ma mb m ρ st=orO (mAsg m (gSb setD ma mb) ρ st) (zpl ma mb m ρ st):=rfl
@[simp] theorem zb2{g3:G3}:gSb g3 ma mb d ρ st=(ma ρ st).bind fun p=>(mb ρ p.2).bind fun q=>(g3 p.1 q.1 d q.2).map fun s=>(ρ,s):=rfl
@[simp] theorem zb1:gTp i mgs d ρ st=match d with
 | .tup ds=>if ds.length=i then mgs ds ρ st else none
 | _=>none:=rfl
@[simp] theorem za2:gN0 [] ρ st=some (ρ,st):=rfl
@[simp] theorem zb6:gC mg mgs (d::ds) ρ st=(mg d ρ st).bind fun p=>mgs ds p.1 p.2:=rfl
theorem ap_w:mW m ρ st=(m ρ st).bind fun p=>zlq p.1 p.2:=rfl
@[simp] theorem zbM:mR1 m ρ st=(m ρ st).bind fun p=>match p.1 with
 | .int j=>if small j=true then some (⟨run 0 j.toNat,[]⟩,p.2) else none
 | _=>none:=rfl
@[simp] theorem zaB:zc6 ρ st=some (true,st):=rfl
theorem zau{mi:MI}{k:Nat}{fr:List Nat}:ze4 mi k fr mg mt m ρ st=(mi ρ st).bind fun p=>(mCI p.1 mg mt m p.1.ds (rho0 ρ k fr) p.2).bind fun q=>if fits q.1.length=true then some (.ref q.2.length,q.2++[.lst q.1]) else none:=rfl
@[simp] theorem zaM{mi:MI}:mFor mi mg ms ρ st=(mi ρ st).bind fun p=>ze3 p.1 mg ms p.1.ds ρ p.2:=rfl
theorem zaY:mSlA m ml mh ρ st=(m ρ st).bind fun p=>(ml ρ p.2).bind fun q=>(mh ρ q.2).bind fun r=>slA p.1 q.1 r.1 r.2:=rfl
@[simp] theorem zb4:zcn ρ st=some (none,st):=rfl
@[simp] theorem zb3:zcm m ρ st=(m ρ st).bind fun p=>match p.1 with
 | .int i=>some (some i,p.2)
 | _=>none:=rfl
@[simp] theorem za1{T:String}:mIsi T m ρ st=(m ρ st).bind fun p=>(tyName p.2 p.1).map fun t=>(.bl (subT t T),p.2):=rfl
theorem zaD:zpk m mm ρ st=(m ρ st).bind fun p=>match p.1 with
 | .str _=>(mm ρ p.2).bind fun q=>znj p.1 q.1 q.2
 | _=>none:=rfl
@[simp] theorem za5:mApp m mm ρ st=(m ρ st).bind fun p=>match p.1 with
 | .ref n=>(zca p.2 n).bind fun _=>(mm ρ p.2).bind fun q=>zcW p.1 q.1 q.2
 | _=>none:=rfl
@[simp] theorem zaZ:mPar i j mm ρ st=(mm ρ st).bind fun p=>match p.1 with
 | [x,y]=>some (.nx ((ρ.set i (some x)).set j (some y)),p.2)
 | _=>none:=rfl
theorem zam:zmr m ρ st=(m ρ st).bind fun p=>znm p.1 p.2:=rfl
@[simp] theorem zaU:mZip ma mb ρ st=(ma ρ st).bind fun p=>(mb ρ p.2).bind fun q=>zipW p.1 q.1 q.2:=rfl
@[simp] theorem zan:zhJ true ρ st=some (.ref st.length,st++[.dt []]):=rfl
@[simp] theorem zao:zhJ false ρ st=some (.ref st.length,st++[.dk []]):=rfl
theorem zaH{r:Option (Fl×Sto)}(h:ms ρ st=some (.nx ρ1,s1))(k:mq ρ1 s1=r):mSeq ms mq ρ st=r:=by
 unfold mSeq;rw[h];exact k
theorem zcR{s:Sto}(h:ms ρ st=some (.rt d,s)):mSeq ms mq ρ st=some (.rt d,s):=by
 unfold mSeq;rw[h];rfl
theorem zcS{N:Nat}{s:Sto}(h:ms (rho N ds) st=some (.rt d,s)):fnM N ms ds st=some (d,s):=by
 unfold fnM;rw[h];rfl
theorem zcA{k:Nat}(h:k<=10000:=by decide):fits k=true:=zaT h
@[simp] theorem zb0:fits 0=true:=zcA
@[simp] theorem zbZ:fits 1=true:=zcA
@[simp] theorem zbL:fits 2=true:=zcA
@[simp] theorem zbY:fits 3=true:=zcA
@[simp] theorem zbX:fits 4=true:=zcA
@[simp] theorem zbW:fits 5=true:=zcA
@[simp] theorem zbV:fits 6=true:=zcA
@[simp] theorem zbU:fits 7=true:=zcA
@[simp] theorem zbT:fits 8=true:=zcA
theorem zcy{k:Int}(h0:0<=k)(h1:k<=1000000):small k=true:=by
 unfold small;simp;omega
theorem zqI{n:Nat}{ds:List D}{k:Int}{x:D}(h:st[n]?=some (.lst ds))(h0:0<=k)(hx:ds[k.toNat]?=some x):ixA (.ref n) (.int k) st=some (x,st):=by
 have hl:=getElem?_lt hx;have h1:k < ds.length:=by omega
 simp[ixA,orG,idxD,zca,h,atI,ixN,h0,h1,zbg];exact (List.getElem?_eq_some_iff.mp hx).2
theorem zb8{ds:List D}{k:Int}{x:D}(h0:0<=k)(hx:ds[k.toNat]?=some x):ixA (.tup ds) (.int k) st=some (x,st):=by
 have hl:=getElem?_lt hx;have h1:k < ds.length:=by omega
 simp[ixA,orG,idxD,atI,ixN,h0,h1,zbg];exact (List.getElem?_eq_some_iff.mp hx).2
theorem zrZ{ds:List D}{k:Int}{x:D}(h0:0<=k)(hx:ds[k.toNat]?=some x):ixA (.kl ds) (.int k) st=some (x,st):=by
 have hl:=getElem?_lt hx;have h1:k < ds.length:=by omega
 simp[ixA,orG,idxD,atI,ixN,h0,h1,zbg];exact (List.getElem?_eq_some_iff.mp hx).2
theorem zkl{z:Str}{k:Int}{c:Nat}(hz:z.length<=10000)(h0:0<=k)(hx:z.cps[k.toNat]?=some c):ixA (.str z) (.int k) st=some (.str ⟨#[c]⟩,st):=by
 have hl:k.toNat < z.cps.size:=(Array.getElem?_eq_some_iff.mp hx).1;have h1:k < z.cps.size:=by omega
 have hf:fits z.length=true:=zaT hz;simp[ixA,orG,idxD,atI,ixN,h0,h1,zbg,hf];exact (Array.getElem?_eq_some_iff.mp hx).2
theorem zk6{n:Nat}(h:st[n]?=some (.lst ds)):lenD [.ref n] st=some (.int ds.length,st):=by simp[lenD,zca,h]
theorem zdv:lenD [.tup ds] st=some (.int ds.length,st):=rfl
theorem zmw:lenD [.kl ds] st=some (.int ds.length,st):=rfl
theorem zdF{n:Nat}(h:st[n]?=some (.lst ds)):zeu [.ref n] st=some (.tup ds,st):=by simp[zeu,zca,h]
@[simp] theorem add_int(a b:Int):addD (.int a) (.int b) st=some (.int (a+b),st):=rfl
@[simp] theorem sub_int(a b:Int):subD (.int a) (.int b) st=some (.int (a - b),st):=rfl
theorem mul_int{a b:Int}(h:-1000000<=a/\a<=1000000):mulA (.int a) (.int b) st=some (.int (a*b),st):=by
 have:in64 a=true:=by unfold in64;simp;omega
 simp[mulA,orG,mulD,intD,this,zbg]
theorem zg6{a b:List D}(ha:a≠[])(h:a.length+b.length<=10000):addD (.tup a) (.tup b) st=some (.tup (a++b),st):=by
 have:fits (a.length+b.length)=true:=zaT h
 cases a with
 | nil=>exact absurd rfl ha
 | cons x a=>simp[addD,this] at *
theorem zeq{a b:Nat}{x y:List D}(ha:st[a]?=some (.lst x))(hb:st[b]?=some (.lst y))(h:x.length+y.length<=10000):addD (.ref a) (.ref b) st=some (.ref st.length,st++[.lst (x++y)]):=by
 have:fits (x.length+y.length)=true:=zaT h;simp[addD,ha,hb,this]
theorem add_str{a b:Str}(h:a.length+b.length<=10000):addD (.str a) (.str b) st=some (.str (a++b),st):=by
 have:fits (a.length+b.length)=true:=zaT h;simp[addD,this]
theorem append_at{n:Nat}{x:D}(h:st[n]?=some (.lst ds))(hl:ds.length<=10000):zcW (.ref n) [x] st=some (.non,st.set n (.lst (ds++[x]))):=by
 have:ds.length < sizeLine:=Cd hl (by decide);simp[zcW,h,this]
end
end L2.MP
set_option linter.unusedSimpArgs false
namespace L2.MP.Hn
open PySem L2.MP
def zbE(n:Nat)(st:Sto):Prop:=∃ a b:Int,st[n]?=some (.lst [.int a,.int b])/\0<=a/\0<=b/\b < 18446744073709551616
theorem zbE.lt{n:Nat}{st:Sto}(h:zbE n st):n < st.length:=by
 obtain⟨a,b,e,_⟩:=h;exact getElem?_lt e
theorem zbE.gr{n:Nat}{st st':Sto}(h:zbE n st)(g:Gr st st'):zbE n st':=by
 obtain⟨a,b,e,r⟩:=h;exact⟨a,b,by rw[g.old n (getElem?_lt e)];exact e,r⟩
theorem zqU{x m:Int}(h0:0<=x)(h1:x < 4294967296)(hm:0 < m):0<=x*m / 4294967296/\x*m / 4294967296 < m:=by
 have h2:x*m < 4294967296*m:=Int.mul_lt_mul_of_pos_right h1 hm;have h3:0<=x*m:=Int.mul_nonneg h0 (Dc hm);omega
theorem zbt{n:Nat}{st:Sto}{many:Int}(h:zbE n st)(h1:0 < many)(h2:many < 18446744073709551616):∃ (r:Int) (st':Sto),zad [.ref n,.int many] st=some (.int r,st')/\0<=r/\r < many/\zbE n st'/\Fr n st st'/\st'.length=st.length:=by
 obtain⟨a,b,e,ha,hb,hb2⟩:=h;have hn:=getElem?_lt e;have hm2:many < 340282366920938463463374607431768211456:=by omega
 by_cases hp:0 < a
 . refine⟨a % many,st.set n (.lst [.int (a / many),.int b]),?_,CH _ (by omega),CI _ h1,⟨a / many,b,by simp[hn],Int.ediv_nonneg ha (by omega),hb,hb2⟩,Fr.set _ _ _,by simp⟩;simp[zad,zc5,fnM,mSeq,mIf,mTst,mBin,mVar,mCon,zaG,zab,mNil,mRet,mAsg,gNm,zcG,ixA,orG,zbg,zbs,idxD,zqV,zca,atI,ixN,ltD,leD,gtD,geD,cmpD,addD,subD,modD,znk,mulA,mulD,zmm,powB,intD,tt2,intC,absC,lenD,putA,gSb,setD,rho,zaP,zbL,e,hp,h1,hm2]
 . have hz:a=0:=by omega
   subst hz;have q0:0<=(b*6364136223846793005+1442695040888963407) % 18446744073709551616:=CH _ (by decide);have q1:(b*6364136223846793005+1442695040888963407) % 18446744073709551616 < 18446744073709551616:=CI _ (by decide);generalize hq:(b*6364136223846793005+1442695040888963407) % 18446744073709551616=q at q0 q1;have q2:0<=q / 4294967296:=by omega
   have q3:q / 4294967296 < 4294967296:=by omega
   obtain⟨r0,r1⟩:=zqU q2 q3 h1;refine⟨q / 4294967296*many / 4294967296,st.set n (.lst [.int 0,.int q]),?_,r0,r1,⟨0,q,by simp[hn],by omega,q0,q1⟩,Fr.set _ _ _,by simp⟩;have i1:in64 b=true:=by unfold in64;simp;omega
   have i2:in64 (q / 4294967296)=true:=by unfold in64;simp;omega
   have hs:∀ o,(List.set st n o)[n]?=some o:=fun o=>by simp[hn]
   simp[zad,zc5,fnM,mSeq,mIf,mTst,mBin,mVar,mCon,zaG,zab,mNil,mRet,mAsg,gNm,zcG,ixA,orG,zbg,zbs,idxD,zqV,zca,atI,ixN,ltD,leD,gtD,geD,cmpD,addD,subD,modD,znk,mulA,mulD,zmm,powB,intD,tt2,intC,absC,lenD,putA,gSb,setD,rho,zaP,zbL,e,hs,i1,i2,hq]
theorem of_ok{n l:Nat}{st:Sto}{ds:List D}(h:zbE n st)(hl:st[l]?=some (.lst ds))(hne:0 < ds.length)(hlen:ds.length < 1000000)(hln:l≠n) :
   ∃ d st',zaq [.ref n,.ref l] st=some (d,st')/\d∈ds/\zbE n st'/\Fr n st st':=by
 obtain⟨r,s1,e1,r0,r1,p1,f1,_⟩:=zbt (many:=ds.length) h (by omega) (by omega);have hx:r.toNat < ds.length:=by omega
 have hl1:s1[l]?=some (.lst ds):=(f1.old l (getElem?_lt hl) hln).trans hl;refine⟨ds[r.toNat],s1,zcS ?_,B8 hx,p1,f1⟩;unfold zfM;simp[rho,zaV,za4,zaN,zaQ,zaz,zax,zaS,zaE,zaC,zat,zas,zaL,zaX,zaP,zaR,za3,zaK,zb5,zaw,za0,zbH,zaW,zb2,zb1,za2,zb6,ap_w,zbM,zaB,zau,zaM,zaY,zb4,zb3,za1,zaD,za5,zaZ,zam,zaU,zan,zao,zbg,zbs,zb0,zbZ,zbL,zbY,zbX,zbW,zbV,zbU,zbT,Ac,Ai,add_int,sub_int,ltD,leD,gtD,geD,cmpD,intC,rho0,zk6 hl,e1];exact zqI hl1 r0 (Am hx)
theorem zhw{n:Nat}{st:Sto}(ds:List D)(h:zbE n st)(hne:0 < ds.length)(hlen:ds.length < 1000000):∃ d st',zaq [.ref n,.ref st.length] (st++[.lst ds])=some (d,st')/\d∈ds/\zbE n st'/\Fr n st st':=by
 obtain⟨d,s,e,hd,p,f⟩:=of_ok (l:=st.length) (h.gr (Gr.app st [.lst ds])) (za9 st _) hne hlen (AQ h.lt);exact⟨d,s,e,hd,p,(Fr.app n st _).trans f⟩
theorem zmO{n:Nat}{st:Sto}(h:zbE n st):∃ (w h':Int) (st':Sto),zcq [.ref n] st=some (.tup [.int w,.int h'],st')/\1<=w/\w<=12/\1<=h'/\h'<=12/\zbE n st'/\Fr n st st':=by
 obtain⟨d,s1,e1,hd,p1,f1⟩:=zhw [.int 4,.int 4,.int 4,.int 6,.int 6,.int 6,.int 6,.int 12] h (by decide) (by decide);obtain⟨m,rfl,hm⟩:∃ m:Int,d=.int m/\0 < m/\m<=12:=by
   simp at hd
   rcases hd with rfl | rfl | rfl <;> exact⟨_,rfl,by decide,by decide⟩
 obtain⟨a,s2,e2,a0,a1,p2,f2,_⟩:=zbt (many:=m) p1 hm.1 (by omega);obtain⟨b,s3,e3,b0,b1,p3,f3,_⟩:=zbt (many:=m) p2 hm.1 (by omega);refine⟨1+a,1+b,s3,zcS ?_,by omega,by omega,by omega,by omega,p3,(f1.trans f2).trans f3⟩;refine zaH (ρ1:=[some (.ref n),some (.int m)]) (s1:=s1) (by simp[rho,zaV,za4,zaN,zaQ,zaz,zax,zaS,zaE,zaC,zat,zas,zaL,zaX,zaP,zaR,za3,zaK,zb5,zaw,za0,zbH,zaW,zb2,zb1,za2,zb6,ap_w,zbM,zaB,zau,zaM,zaY,zb4,zb3,za1,zaD,za5,zaZ,zam,zaU,zan,zao,zbg,zbs,zb0,zbZ,zbL,zbY,zbX,zbW,zbV,zbU,zbT,Ac,Ai,add_int,sub_int,ltD,leD,gtD,geD,cmpD,intC,rho0,e1]) ?_;simp[rho,zaV,za4,zaN,zaQ,zaz,zax,zaS,zaE,zaC,zat,zas,zaL,zaX,zaP,zaR,za3,zaK,zb5,zaw,za0,zbH,zaW,zb2,zb1,za2,zb6,ap_w,zbM,zaB,zau,zaM,zaY,zb4,zb3,za1,zaD,za5,zaZ,zam,zaU,zan,zao,zbg,zbs,zb0,zbZ,zbL,zbY,zbX,zbW,zbV,zbU,zbT,Ac,Ai,add_int,sub_int,ltD,leD,gtD,geD,cmpD,intC,rho0,e2,e3]
theorem pows:∃ P M Q:Int,0 < M/\(∀ st:Sto,powB (.int 10) (.int 60) st=some (.int P,st))/\(∀ st:Sto,powB (.int P) (.int 15) st=some (.int M,st))/\∀ st:Sto,powB (.int 10) (.int 18) st=some (.int Q,st) :=
 ⟨10 ^ 60,(10 ^ 60) ^ 15,10 ^ 18,by decide,fun st=>rfl,fun st=>rfl,fun st=>rfl⟩
theorem zp7{ns:List Int}{k:Int}{st:Sto}(h0:0<=k)(h1:k < 1000):∃ st',zcP [.kl (ns.map D.int),.int k] st=some (.ref st.length,st')/\zbE st.length st'/\Gr st st':=by
 obtain⟨P,M,Q,hM,p1,p2,p3⟩:=pows;have cell:∃ c:Int,mIf (mTst (mBin ltD (mVar 1) (zaG lenD (zab (mVar 0) (mNil))))) (mAsg (mBin ixA (mVar 0) (mVar 1)) (gNm 2)) (zcG) [some (.kl (ns.map D.int)),some (.int k),some (.int 0),none,none,none] st =
     some (.nx [some (.kl (ns.map D.int)),some (.int k),some (.int c),none,none,none],st):=by
   by_cases hk:k < ns.length
   . have hx:k.toNat < ns.length:=by omega
     refine⟨ns[k.toNat],?_⟩;have e:ixA (.kl (ns.map D.int)) (.int k) st=some (.int ns[k.toNat],st):=zrZ h0 (by rw[AA,Am hx];rfl);simp[rho,zaV,za4,zaN,zaQ,zaz,zax,zaS,zaE,zaC,zat,zas,zaL,zaX,zaP,zaR,za3,zaK,zb5,zaw,za0,zbH,zaW,zb2,zb1,za2,zb6,ap_w,zbM,zaB,zau,zaM,zaY,zb4,zb3,za1,zaD,za5,zaZ,zam,zaU,zan,zao,zbg,zbs,zb0,zbZ,zbL,zbY,zbX,zbW,zbV,zbU,zbT,Ac,Ai,add_int,sub_int,ltD,leD,gtD,geD,cmpD,intC,rho0,zmw,hk,e]
   . refine⟨0,?_⟩;simp[rho,zaV,za4,zaN,zaQ,zaz,zax,zaS,zaE,zaC,zat,zas,zaL,zaX,zaP,zaR,za3,zaK,zb5,zaw,za0,zbH,zaW,zb2,zb1,za2,zb6,ap_w,zbM,zaB,zau,zaM,zaY,zb4,zb3,za1,zaD,za5,zaZ,zam,zaU,zan,zao,zbg,zbs,zb0,zbZ,zbL,zbY,zbX,zbW,zbV,zbU,zbT,Ac,Ai,add_int,sub_int,ltD,leD,gtD,geD,cmpD,intC,rho0,zmw,hk]
 obtain⟨c,ec⟩:=cell;have hR:∃ R:Int,0<=R/\modD (.int (if c < 0 then -c else c)) (.int M) st=some (.int R,st):=⟨(if c < 0 then -c else c) % M,CH _ (by omega),by simp[modD,intD,hM]⟩
 obtain⟨R,hR0,eR⟩:=hR;have hN:∃ N:Int,0<=N/\2*R+(if c < 0 then 1 else 0)=N:=⟨_,by split <;> omega,rfl⟩
 obtain⟨N,hN0,eN⟩:=hN;have hb0:0<=N % 18446744073709551557:=CH _ (by decide);have hb1:N % 18446744073709551557 < 18446744073709551557:=CI _ (by decide);generalize hB:N % 18446744073709551557=B at hb0 hb1;have hx0:0<=(B*6364136223846793005+97*k+3) % 18446744073709551616:=CH _ (by decide);have hx1:(B*6364136223846793005+97*k+3) % 18446744073709551616 < 18446744073709551616:=CI _ (by decide);generalize hX:(B*6364136223846793005+97*k+3) % 18446744073709551616=X at hx0 hx1;have iB:in64 B=true:=by unfold in64;simp;omega
 have i97:in64 97=true:=by decide
 have i2:in64 2=true:=by decide
 have hY:∃ Y:Int,0<=Y/\mulA (.int N) (.int (if 2*Q<=N then 1 else 0)) st=some (.int Y,st):=by
   by_cases hq:2*Q<=N
   . refine⟨N*1,by omega,?_⟩;have:in64 1=true:=by decide
     simp[hq,mulA,orG,mulD,intD,this,zbg]
   . refine⟨N*0,by omega,?_⟩;have:in64 0=true:=by decide
     simp[hq,mulA,orG,mulD,intD,this,zbg]
 obtain⟨Y,hY0,eY⟩:=hY;refine⟨st++[.lst [.int Y,.int X]],zcS ?_,⟨Y,X,za9 _ _,hY0,hx0,hx1⟩,Gr.app _ _⟩;unfold zer;refine zaH (ρ1:=[some (.kl (ns.map D.int)),some (.int k),some (.int 0),none,none,none]) (s1:=st) (by simp[rho,zaV,za4,zaN,zaQ,zaz,zax,zaS,zaE,zaC,zat,zas,zaL,zaX,zaP,zaR,za3,zaK,zb5,zaw,za0,zbH,zaW,zb2,zb1,za2,zb6,ap_w,zbM,zaB,zau,zaM,zaY,zb4,zb3,za1,zaD,za5,zaZ,zam,zaU,zan,zao,zbg,zbs,zb0,zbZ,zbL,zbY,zbX,zbW,zbV,zbU,zbT,Ac,Ai,add_int,sub_int,ltD,leD,gtD,geD,cmpD,intC,rho0]) ?_;refine zaH ec ?_;refine zaH (ρ1:=[some (.kl (ns.map D.int)),some (.int k),some (.int c),some (.int N),none,none]) (s1:=st) (by
   simp[rho,zaV,za4,zaN,zaQ,zaz,zax,zaS,zaE,zaC,zat,zas,zaL,zaX,zaP,zaR,za3,zaK,zb5,zaw,za0,zbH,zaW,zb2,zb1,za2,zb6,ap_w,zbM,zaB,zau,zaM,zaY,zb4,zb3,za1,zaD,za5,zaZ,zam,zaU,zan,zao,zbg,zbs,zb0,zbZ,zbL,zbY,zbX,zbW,zbV,zbU,zbT,Ac,Ai,add_int,sub_int,ltD,leD,gtD,geD,cmpD,intC,rho0,p1,p2,absC,eR,mulA,orG,mulD,intD,i2,eN]) ?_
 refine zaH (ρ1:=[some (.kl (ns.map D.int)),some (.int k),some (.int c),some (.int N),some (.int B),none]) (s1:=st) (by simp[rho,zaV,za4,zaN,zaQ,zaz,zax,zaS,zaE,zaC,zat,zas,zaL,zaX,zaP,zaR,za3,zaK,zb5,zaw,za0,zbH,zaW,zb2,zb1,za2,zb6,ap_w,zbM,zaB,zau,zaM,zaY,zb4,zb3,za1,zaD,za5,zaZ,zam,zaU,zan,zao,zbg,zbs,zb0,zbZ,zbL,zbY,zbX,zbW,zbV,zbU,zbT,Ac,Ai,add_int,sub_int,ltD,leD,gtD,geD,cmpD,intC,rho0,modD,intD,hB]) ?_;refine zaH (ρ1:=[some (.kl (ns.map D.int)),some (.int k),some (.int c),some (.int N),some (.int B),some (.int X)]) (s1:=st) (by simp[rho,zaV,za4,zaN,zaQ,zaz,zax,zaS,zaE,zaC,zat,zas,zaL,zaX,zaP,zaR,za3,zaK,zb5,zaw,za0,zbH,zaW,zb2,zb1,za2,zb6,ap_w,zbM,zaB,zau,zaM,zaY,zb4,zb3,za1,zaD,za5,zaZ,zam,zaU,zan,zao,zbg,zbs,zb0,zbZ,zbL,zbY,zbX,zbW,zbV,zbU,zbT,Ac,Ai,add_int,sub_int,ltD,leD,gtD,geD,cmpD,intC,rho0,modD,mulA,orG,mulD,intD,iB,i97,hX]) ?_;have eY':mulA (.int N) (.int (if decide (2*Q<=N)=true then 1 else 0)) st=some (.int Y,st):=by simpa using eY
 have e2Q:mulA (.int 2) (.int Q) st=some (.int (2*Q),st):=mul_int (by omega);simp[rho,zaV,za4,zaN,zaQ,zaz,zax,zaS,zaE,zaC,zat,zas,zaL,zaX,zaP,zaR,za3,zaK,zb5,zaw,za0,zbH,zaW,zb2,zb1,za2,zb6,ap_w,zbM,zaB,zau,zaM,zaY,zb4,zb3,za1,zaD,za5,zaZ,zam,zaU,zan,zao,zbg,zbs,zb0,zbZ,zbL,zbY,zbX,zbW,zbV,zbU,zbT,Ac,Ai,add_int,sub_int,ltD,leD,gtD,geD,cmpD,intC,rho0,p3,e2Q,eY]
end L2.MP.Hn
namespace L2.MP
open PySem PySem.Builtin PySem.Builtin.Str
theorem zpE(j:Int)(n:Nat):strSliceIndices none (some j) 1 n=AX (max 0 (min (if j < 0 then j+n else j) n)).toNat:=by
 unfold strSliceIndices sliceRange;have h1:(1:Int) > 0:=by decide
 simp only[h1,if_true];generalize max 0 (min (if j < 0 then j+(n:Int) else j) (n:Int))=c
 by_cases hc:0 < c
 . simp only[hc,if_true,Int.ediv_one];have e:(c - 0+1 - 1).toNat=c.toNat:=by omega
   rw[e];apply GJ
   . simp
   . intro i h1 h2;simp
 . simp only[hc,if_false];have e:c.toNat=0:=by omega
   simp[e]
theorem zgI{z:Array Nat}:∀ {k:Nat},k<=z.size->(AX k).filterMap (fun i=>z[i]?)=z.toList.take k
 | 0,_=>by simp
 | k+1,h=>by
   rw[List.range_succ,List.filterMap_append,zgI (k:=k) (by omega),List.take_succ]
   congr 1
   have hk:k < z.size:=by omega
   simp[AF hk,B4]
theorem zcg(z:Str)(j:Int):(Bs z none (some j)).cps.toList=z.cps.toList.take (max 0 (min (if j < 0 then j+z.length else j) z.length)).toNat:=by
 unfold Bs;rw[zpE];have hk:(max 0 (min (if j < 0 then j+(z.length:Int) else j) (z.length:Int))).toNat<=z.cps.size:=by
   show _<=z.length;omega
 generalize (max 0 (min (if j < 0 then j+(z.length:Int) else j) (z.length:Int))).toNat=k at hk
 split
 . rename_i hc;simp at hc;rw[hc];have:z.length=z.cps.toList.length:=rfl;rw[this,DH]
 . show (((AX k).filterMap fun i=>z.cps[i]?).toArray).toList=_;rw[zgI hk]
theorem join_nil:∀ cs:List Nat,(Str.join ("":Str) (cs.map fun c=>⟨#[c]⟩)).cps.toList=cs
 | []=>rfl
 | [c]=>rfl
 | c::d::cs=>by
   have ih:=join_nil (d::cs);show ((⟨#[c]⟩++("":Str)++Str.join ("":Str) ((d::cs).map fun c=>⟨#[c]⟩):Str)).cps.toList=_;have e:∀ a b:Str,(a++b).cps.toList=a.cps.toList++b.cps.toList:=fun a b=>by
     show (a.cps++b.cps).toList=_;simp
   rw[e,e,ih];rfl
theorem app_list(a b:Str):(a++b).cps.toList=a.cps.toList++b.cps.toList:=by
 show (a.cps++b.cps).toList=_;simp
theorem len_list(a:Str):a.length=a.cps.toList.length:=rfl
end L2.MP
namespace L2.MP
open PySem
theorem zex{f:D->Option PyData}(hf:∀ x:Str,Bi x=true->f (.str x)=some (.str x)):∀ {ss:List Str},(∀ x∈ss,Bi x=true)->toPs f (ss.map D.str)=some (ss.map DQ)
 | [],_=>rfl
 | x::ss,h=>by
   rw[Ar,toPs,hf x (h x Aj),Ac,zex hf fun y hy=>h y (Ah _ hy)];rfl
theorem zhX{n:Nat}{st:Sto}{x:Str}(h:Bi x=true):toP (n+1) st (.str x)=some (.str x):=by
 rw[toP];simp[h]
theorem zey{n:Nat}{st:Sto}{k:Nat}{ss:List Str}(hk:st[k]?=some (.lst (ss.map D.str)))(h:∀ x∈ss,Bi x=true):toP (n+2) st (.ref k)=some (.list (ss.map DQ)):=by
 rw[toP];simp only[zca,hk,Ac];rw[zex (fun x hx=>zhX hx) h];rfl
theorem ne_nil{st:Sto}{f g:Nat}{ss:List Str}(hf:st[f]?=some (.lst (ss.map D.str)))(hg:st[g]?=some (.lst []))(h:∀ x∈ss,Bi x=true):neD (.ref f) (.ref g) st=some (.bl (!ss.isEmpty),st):=by
 unfold neD;rw[zey (n:=98) hf h,zey (n:=98) (ss:=[]) hg (by simp)]
 cases ss <;> rfl
theorem zlm(x:Str):∀ ss:List Str,(ss.map DQ).any (fun y=>BM y (.str x))=decide (x∈ss)
 | []=>rfl
 | y::ss=>by
   rw[Ar,CV,zlm x ss];have:BM (.str y) (.str x)=(y==x):=by simp[BM]
   rw[this]
   by_cases hyx:y=x
   . simp[hyx]
   . simp[hyx,BL hyx]
theorem ziB{st:Sto}{f:Nat}{x:Str}{ss:List Str}(hf:st[f]?=some (.lst (ss.map D.str)))(h:∀ x∈ss,Bi x=true)(hx:Bi x=true):ziC (.str x) (.ref f) st=some (.bl (!decide (x∈ss)),st):=by
 unfold ziC orG inD;rw[zey (n:=48) hf h,zhX (n:=49) hx];simp only[Ac,memP,Ai,zlm,zbg];rfl
theorem eq_int(a b:Int)(st:Sto):eqD (.int a) (.int b) st=some (.bl (a==b),st):=by
 unfold eqD;rw[toP,toP];simp[BM]
end L2.MP
namespace L2.MP.Hn
open PySem L2.MP
structure NameOk(x:Str):Prop where
 lo:1<=x.cps.toList.length
 hi:x.cps.toList.length<=8
 ab:∀ c∈x.cps.toList,97<=c/\c<=122
theorem NameOk.str{x:Str}(h:NameOk x):Bi x=true:=by
 unfold Bi;rw[Ge];intro c hc;have:=h.ab c (by simpa using hc);simp;omega
noncomputable abbrev zbl:Str:="abcdefghijklmnopqrstuvwxyz"
theorem ziN:∀ k:Nat,k < 26->zbl.cps[k]?=some (97+k):=by decide +kernel
theorem zoZ{n:Nat}{st:Sto}{v:Option D}(h:zbE n st)(j:Nat)(hj:j<=1000):∃ (cs:List Nat) (st':Sto),mCI ⟨run 0 j,[]⟩ (gNm 0) zc6 zbu (run 0 j) [v,some (.str zbl),some (.ref n)] st=some (cs.map fun c=>.str ⟨#[c]⟩,st')/\cs.length=j/\(∀ c∈cs,97<=c/\c<=122)/\zbE n st'/\Fr n st st':=by
 have key:=zo0 (W:=⟨run 0 j,[]⟩) (g:=gNm 0) (c:=zc6) (m:=zbu) (ds:=run 0 j) (acc:=[]) (st:=st) (ρ:=[v,some (.str zbl),some (.ref n)])
   (Inv:=fun k a ρ s=>(∃ x,ρ=[x,some (.str zbl),some (.ref n)])/\(∃ cs:List Nat,a=cs.map (fun c=>D.str ⟨#[c]⟩)/\cs.length=k/\∀ c∈cs,97<=c/\c<=122)/\zbE n s/\Fr n st s)
   ⟨⟨v,rfl⟩,⟨[],rfl,rfl,by simp⟩,h,Fr.refl _ _⟩ (fun _ _ _ _ _ _=>rfl) (fun k d a ρ s hd hI=>by
     obtain⟨⟨x,rfl⟩,⟨cs,rfl,hl,hc⟩,hp,hf⟩:=hI;obtain⟨r,s1,e1,r0,r1,p1,f1,_⟩:=zbt (many:=26) hp (by decide) (by decide);have hk:r.toNat < 26:=by omega
     have ex:ixA (.str zbl) (.int r) s1=some (.str ⟨#[97+r.toNat]⟩,s1):=zkl (by decide) r0 (ziN _ hk);refine⟨[some d,some (.str zbl),some (.ref n)],s,true,s,by simp[rho,zaV,za4,zaN,zaQ,zaz,zax,zaS,zaE,zaC,zat,zas,zaL,zaX,zaP,zaR,za3,zaK,zb5,zaw,za0,zbH,zaW,zb2,zb1,za2,zb6,ap_w,zbM,zaB,zau,zaM,zaY,zb4,zb3,za1,zaD,za5,zaZ,zam,zaU,zan,zao,zbg,zbs,zb0,zbZ,zbL,zbY,zbX,zbW,zbV,zbU,zbT,Ac,Ai,add_int,sub_int,ltD,leD,gtD,geD,cmpD,intC,rho0],rfl,.inl ⟨rfl,.str ⟨#[97+r.toNat]⟩,s1,?_,⟨_,rfl⟩,⟨cs++[97+r.toNat],by simp,by simp[hl],?_⟩,p1,hf.trans f1⟩⟩
     . unfold zbu;simp[rho,zaV,za4,zaN,zaQ,zaz,zax,zaS,zaE,zaC,zat,zas,zaL,zaX,zaP,zaR,za3,zaK,zb5,zaw,za0,zbH,zaW,zb2,zb1,za2,zb6,ap_w,zbM,zaB,zau,zaM,zaY,zb4,zb3,za1,zaD,za5,zaZ,zam,zaU,zan,zao,zbg,zbs,zb0,zbZ,zbL,zbY,zbX,zbW,zbV,zbU,zbT,Ac,Ai,add_int,sub_int,ltD,leD,gtD,geD,cmpD,intC,rho0,e1,ex]
     . intro c hm
       rcases List.mem_append.mp hm with hm | hm
       . exact hc c hm
       . rw[List.mem_singleton.mp hm]
         omega)
 obtain⟨xs,ρ',s',e,_,⟨cs,hx,hl,hc⟩,hp,hf⟩:=key;rw[Fc] at hx;subst hx;exact⟨cs,s',e,by rw[hl,zcU],hc,hp,hf⟩
theorem zlM{z:Str}{j:Int}{st:Sto}(hz:z.length<=10000):slA (.str z) none (some j) st=some (.str (Bs z none (some j)),st):=by
 have:fits z.length=true:=zaT hz;simp[slA,slD,slS,this,zbs]
theorem zfX{l:List Nat}{k c:Nat}(h:c∈l.take k):c∈l:=DR h
theorem zeg:∀ cs:List Nat,((cs.map fun c=>(⟨#[c]⟩:Str)).map (·.length)).sum=cs.length
 | []=>rfl
 | c::cs=>by
   have ih:=zeg cs;simp only[Ar,List.sum_cons,A6];rw[ih];show 1+_=_;omega
theorem joined{cs:List Nat}{st:Sto}{l:Nat}(hl:st[l]?=some (.lst (cs.map fun c=>.str ⟨#[c]⟩)))(hc:cs.length<=1000):∃ z:Str,znj (.str "") [.ref l] st=some (.str z,st)/\z.cps.toList=cs:=by
 refine⟨Txt.join "" (cs.map fun c=>⟨#[c]⟩),?_,?_⟩
 . have e:cs.map (fun c=>D.str ⟨#[c]⟩)=(cs.map fun c=>(⟨#[c]⟩:Str)).map D.str:=by simp
   unfold znj;simp only[zca,hl,Ac];rw[e,zff];simp only[Ac];rw[if_pos];apply decide_eq_true;have h0:(("":Str)).length=0:=by decide
   rw[h0,Nat.mul_zero,EF];rw[zeg];omega
 . show (Builtin.Str.glued "" _).cps.toList=cs;rw[StrLaws.glued_eq_join];exact join_nil cs
structure NInv(n f:Nat)(many:Int)(st0:Sto)(ss:List Str)(s:Sto):Prop where
 at_:s[f]?=some (.lst (ss.map D.str))
 ok:∀ x∈ss,NameOk x
 nd:ss.Nodup
 len:(ss.length:Int)<=many
 pot:zbE n s
 fr:Fr n st0 s
theorem NInv.fr'{n f:Nat}{many:Int}{st0:Sto}{ss:List Str}{s s':Sto}(h:NInv n f many st0 ss s)(hf:f≠n)(p:zbE n s')(g:Fr n s s'):NInv n f many st0 ss s' :=
 ⟨(g.old f (getElem?_lt h.at_) hf).trans h.at_,h.ok,h.nd,h.len,p,h.fr.trans g⟩
theorem NInv.app{n f:Nat}{many:Int}{st0:Sto}{ss:List Str}{s:Sto}(h:NInv n f many st0 ss s)(hf:f≠n)(l:List O):NInv n f many st0 ss (s++l):=h.fr' hf (h.pot.gr (Gr.app _ _)) (Fr.app _ _ _)
theorem ziA{n f:Nat}{many:Int}{st0:Sto}{ss:List Str}{s:Sto}(h:NInv n f many st0 ss s)(hf:f≠n)(hne:ss≠[])(hm:many<=1000):∃ (y:Str) (s':Sto),zaq [.ref n,.ref f] s=some (.str y,s')/\NameOk y/\NInv n f many st0 ss s':=by
 have hl:=h.len;obtain⟨d,s1,e1,hd,p1,f1⟩:=of_ok h.pot h.at_ (by rw[Ag];exact List.length_pos_iff.mpr hne) (by rw[Ag];omega) hf;obtain⟨y,hy,rfl⟩:=List.mem_map.mp hd;exact⟨y,s1,e1,h.ok y hy,h.fr' hf p1 f1⟩
theorem ziF{n f:Nat}{many:Int}{st0 s:Sto}{ss:List Str}{v4 v5 v6:Option D}(h:NInv n f many st0 ss s)(hf:f≠n)(hf0:st0.length<=f)(hm:many<=1000) :
   ∃ (ss':List Str) (w5 w6:Option D) (s':Sto),zbN [some (.ref n),some (.int many),some (.str zbl),some (.ref f),v4,v5,v6] s=some (.nx [some (.ref n),some (.int many),some (.str zbl),some (.ref f),v4,w5,w6],s')/\NInv n f many st0 ss' s':=by
 obtain⟨w,s1,e1,w0,w1,p1,f1,_⟩:=zbt (many:=4) h.pot (by decide) (by decide);have h1:=h.fr' hf p1 f1;obtain⟨d,s2,e2,hd,p2,f2⟩:=zhw [.int 1,.int 1,.int 2,.int 3,.int 8] p1 (by decide) (by decide);obtain⟨j,rfl,hj1,hj8⟩:∃ j:Int,d=.int j/\1<=j/\j<=8:=by
   simp at hd
   rcases hd with rfl | rfl | rfl | rfl <;> exact⟨_,rfl,by decide,by decide⟩
 have h2:=h1.fr' hf p2 f2;obtain⟨cs,s3,e3,hl3,hc3,p3,f3⟩:=zoZ (v:=none) p2 j.toNat (by omega);have h3:=h2.fr' hf p3 f3;have h4:=h3.app hf [.lst (cs.map fun c=>D.str ⟨#[c]⟩)];obtain⟨z,ez,hz⟩:=joined (za9 s3 (.lst (cs.map fun c=>D.str ⟨#[c]⟩))) (by omega);have nz:NameOk z:=⟨by rw[hz];omega,by rw[hz];omega,by rw[hz];exact hc3⟩
 have sj:small j=true:=zcy (by omega) (by omega);have fc:fits cs.length=true:=zaT (by omega);unfold zbN;generalize hs4:s3++[O.lst (cs.map fun c=>D.str ⟨#[c]⟩)]=s4 at h4 ez
 -- the first if
 have if1:∃ (z':Str) (s5:Sto),mIf (zfw (mTst (mBin neD (mVar 3) (mLst (mNil)))) (mTst (mBin eqD (mVar 5) (mCon (.int 1))))) (mAsg (mSlA (mBin addD (zaG zaq (zab (mVar 0) (zab (mVar 3) (mNil)))) (mVar 6)) (zcn) (zcm (mCon (.int 8)))) (gNm 6)) (zcG)
     [some (.ref n),some (.int many),some (.str zbl),some (.ref f),v4,some (.int w),some (.str z)] s4=some (.nx [some (.ref n),some (.int many),some (.str zbl),some (.ref f),v4,some (.int w),some (.str z')],s5)/\NameOk z'/\NInv n f many st0 ss s5:=by
   have h5:=h4.app hf [.lst []];have en:=ne_nil h5.at_ (za9 s4 (.lst [])) fun x hx=>(h5.ok x hx).str
   by_cases hc:ss≠[]/\w=1
   . obtain⟨hne,rfl⟩:=hc;obtain⟨y,s6,e6,ny,h6⟩:=ziA h5 hf hne hm;have hlen:(y++z).length<=10000:=by rw[len_list,app_list,AE];have:=ny.hi;have:=nz.hi;omega
     have ea:addD (.str y) (.str z) s6=some (.str (y++z),s6):=add_str (by rw[len_list,len_list];have:=ny.hi;have:=nz.hi;omega);have es:=zlM (z:=y++z) (j:=8) (st:=s6) hlen;refine⟨Bs (y++z) none (some 8),s6,?_,⟨?_,?_,?_⟩,h6⟩
     . have he:ss.isEmpty=false:=by cases ss with
         | nil=>exact absurd rfl hne
         | cons a b=>rfl
       simp[rho,zaV,za4,zaN,zaQ,zaz,zax,zaS,zaE,zaC,zat,zas,zaL,zaX,zaP,zaR,za3,zaK,zb5,zaw,za0,zbH,zaW,zb2,zb1,za2,zb6,ap_w,zbM,zaB,zau,zaM,zaY,zb4,zb3,za1,zaD,za5,zaZ,zam,zaU,zan,zao,zbg,zbs,zb0,zbZ,zbL,zbY,zbX,zbW,zbV,zbU,zbT,Ac,Ai,add_int,sub_int,ltD,leD,gtD,geD,cmpD,intC,rho0,en,he,eq_int,e6,ea,es]
     . rw[zcg,Bm,app_list,AE,len_list,app_list,AE];have q:=ny.lo;simp at q ⊢;omega
     . rw[zcg,Bm];simp;omega
     . intro c hc;rw[zcg,app_list] at hc
       rcases List.mem_append.mp (zfX hc) with hc | hc
       . exact ny.ab c hc
       . exact nz.ab c hc
   . refine⟨z,s4++[.lst []],?_,nz,h5⟩
     by_cases he:ss=[]
     . subst he;simp[rho,zaV,za4,zaN,zaQ,zaz,zax,zaS,zaE,zaC,zat,zas,zaL,zaX,zaP,zaR,za3,zaK,zb5,zaw,za0,zbH,zaW,zb2,zb1,za2,zb6,ap_w,zbM,zaB,zau,zaM,zaY,zb4,zb3,za1,zaD,za5,zaZ,zam,zaU,zan,zao,zbg,zbs,zb0,zbZ,zbL,zbY,zbX,zbW,zbV,zbU,zbT,Ac,Ai,add_int,sub_int,ltD,leD,gtD,geD,cmpD,intC,rho0,en]
     . have he':ss.isEmpty=false:=by cases ss with
         | nil=>exact absurd rfl he
         | cons a b=>rfl
       have hw:¬ w=1:=fun q=>hc ⟨he,q⟩;have hw':(w==1)=false:=by simp[hw]
       simp[rho,zaV,za4,zaN,zaQ,zaz,zax,zaS,zaE,zaC,zat,zas,zaL,zaX,zaP,zaR,za3,zaK,zb5,zaw,za0,zbH,zaW,zb2,zb1,za2,zb6,ap_w,zbM,zaB,zau,zaM,zaY,zb4,zb3,za1,zaD,za5,zaZ,zam,zaU,zan,zao,zbg,zbs,zb0,zbZ,zbL,zbY,zbX,zbW,zbV,zbU,zbT,Ac,Ai,add_int,sub_int,ltD,leD,gtD,geD,cmpD,intC,rho0,en,he',eq_int,hw']
 obtain⟨z5,s5,i5,nz5,h5⟩:=if1
 -- the second if
 have if2:∃ (z':Str) (s6:Sto),mIf (zfw (mTst (mBin neD (mVar 3) (mLst (mNil)))) (mTst (mBin eqD (mVar 5) (mCon (.int 2))))) (mAsg (mBin addD (mSlA (zaG zaq (zab (mVar 0) (zab (mVar 3) (mNil)))) (zcn) (zcm (mNeg (mCon (.int 1))))) (mSlA (mVar 6) (zcn) (zcm (mCon (.int 1))))) (gNm 6)) (zcG)
     [some (.ref n),some (.int many),some (.str zbl),some (.ref f),v4,some (.int w),some (.str z5)] s5=some (.nx [some (.ref n),some (.int many),some (.str zbl),some (.ref f),v4,some (.int w),some (.str z')],s6)/\NameOk z'/\NInv n f many st0 ss s6:=by
   have h6:=h5.app hf [.lst []];have en:=ne_nil h6.at_ (za9 s5 (.lst [])) fun x hx=>(h6.ok x hx).str
   by_cases hc:ss≠[]/\w=2
   . obtain⟨hne,rfl⟩:=hc;obtain⟨y,s7,e7,ny,h7⟩:=ziA h6 hf hne hm;have e8:=zlM (z:=y) (j:=-1) (st:=s7) (by rw[len_list];have:=ny.hi;omega);have e9:=zlM (z:=z5) (j:=1) (st:=s7) (by rw[len_list];have:=nz5.hi;omega);have l8:(Bs y none (some (-1))).cps.toList.length<=7:=by
       rw[zcg,Bm,len_list];have q:=ny.hi;simp at q ⊢;omega
     have l9:(Bs z5 none (some 1)).cps.toList.length=1:=by
       rw[zcg,Bm,len_list];have q:=nz5.lo;simp at q ⊢;omega
     have ea:addD (.str (Bs y none (some (-1)))) (.str (Bs z5 none (some 1))) s7=some (.str (Bs y none (some (-1))++Bs z5 none (some 1)),s7):=add_str (by rw[len_list,len_list];omega);refine⟨Bs y none (some (-1))++Bs z5 none (some 1),s7,?_,⟨?_,?_,?_⟩,h7⟩
     . have he:ss.isEmpty=false:=by cases ss with
         | nil=>exact absurd rfl hne
         | cons a b=>rfl
       simp[rho,zaV,za4,zaN,zaQ,zaz,zax,zaS,zaE,zaC,zat,zas,zaL,zaX,zaP,zaR,za3,zaK,zb5,zaw,za0,zbH,zaW,zb2,zb1,za2,zb6,ap_w,zbM,zaB,zau,zaM,zaY,zb4,zb3,za1,zaD,za5,zaZ,zam,zaU,zan,zao,zbg,zbs,zb0,zbZ,zbL,zbY,zbX,zbW,zbV,zbU,zbT,Ac,Ai,add_int,sub_int,ltD,leD,gtD,geD,cmpD,intC,rho0,en,he,eq_int,e7,ea,e8,e9,negD]
     . rw[app_list,AE];omega
     . rw[app_list,AE];omega
     . intro c hc;rw[app_list] at hc
       rcases List.mem_append.mp hc with hc | hc
       . rw[zcg] at hc;exact ny.ab c (zfX hc)
       . rw[zcg] at hc;exact nz5.ab c (zfX hc)
   . refine⟨z5,s5++[.lst []],?_,nz5,h6⟩
     by_cases he:ss=[]
     . subst he;simp[rho,zaV,za4,zaN,zaQ,zaz,zax,zaS,zaE,zaC,zat,zas,zaL,zaX,zaP,zaR,za3,zaK,zb5,zaw,za0,zbH,zaW,zb2,zb1,za2,zb6,ap_w,zbM,zaB,zau,zaM,zaY,zb4,zb3,za1,zaD,za5,zaZ,zam,zaU,zan,zao,zbg,zbs,zb0,zbZ,zbL,zbY,zbX,zbW,zbV,zbU,zbT,Ac,Ai,add_int,sub_int,ltD,leD,gtD,geD,cmpD,intC,rho0,en]
     . have he':ss.isEmpty=false:=by cases ss with
         | nil=>exact absurd rfl he
         | cons a b=>rfl
       have hw:¬ w=2:=fun q=>hc ⟨he,q⟩;have hw':(w==2)=false:=by simp[hw]
       simp[rho,zaV,za4,zaN,zaQ,zaz,zax,zaS,zaE,zaC,zat,zas,zaL,zaX,zaP,zaR,za3,zaK,zb5,zaw,za0,zbH,zaW,zb2,zb1,za2,zb6,ap_w,zbM,zaB,zau,zaM,zaY,zb4,zb3,za1,zaD,za5,zaZ,zam,zaU,zan,zao,zbg,zbs,zb0,zbZ,zbL,zbY,zbX,zbW,zbV,zbU,zbT,Ac,Ai,add_int,sub_int,ltD,leD,gtD,geD,cmpD,intC,rho0,en,he',eq_int,hw']
 obtain⟨z6,s6,i6,nz6,h6⟩:=if2;have stp1:mAsg (zaG zad (zab (mVar 0) (zab (mCon (.int 4)) (mNil)))) (gNm 5) [some (.ref n),some (.int many),some (.str zbl),some (.ref f),v4,v5,v6] s=some (.nx [some (.ref n),some (.int many),some (.str zbl),some (.ref f),v4,some (.int w),v6],s1):=by simp[rho,zaV,za4,zaN,zaQ,zaz,zax,zaS,zaE,zaC,zat,zas,zaL,zaX,zaP,zaR,za3,zaK,zb5,zaw,za0,zbH,zaW,zb2,zb1,za2,zb6,ap_w,zbM,zaB,zau,zaM,zaY,zb4,zb3,za1,zaD,za5,zaZ,zam,zaU,zan,zao,zbg,zbs,zb0,zbZ,zbL,zbY,zbX,zbW,zbV,zbU,zbT,Ac,Ai,add_int,sub_int,ltD,leD,gtD,geD,cmpD,intC,rho0,e1]
 have stp2:mAsg (zpk (mCon (.str "")) (zab (ze4 (mR1 (zaG zaq (zab (mVar 0) (zab (mLst (zab (mCon (.int 1)) (zab (mCon (.int 1)) (zab (mCon (.int 2)) (zab (mCon (.int 3)) (zab (mCon (.int 8)) (mNil))))))) (mNil))))) 1 [2,0] (gNm 0) (zc6) (zbu)) (mNil))) (gNm 6)
     [some (.ref n),some (.int many),some (.str zbl),some (.ref f),v4,some (.int w),v6] s1=some (.nx [some (.ref n),some (.int many),some (.str zbl),some (.ref f),v4,some (.int w),some (.str z)],s4):=by
   simp[rho,zaV,za4,zaN,zaQ,zaz,zax,zaS,zaE,zaC,zat,zas,zaL,zaX,zaP,zaR,za3,zaK,zb5,zaw,za0,zbH,zaW,zb2,zb1,za2,zb6,ap_w,zbM,zaB,zau,zaM,zaY,zb4,zb3,za1,zaD,za5,zaZ,zam,zaU,zan,zao,zbg,zbs,zb0,zbZ,zbL,zbY,zbX,zbW,zbV,zbU,zbT,Ac,Ai,add_int,sub_int,ltD,leD,gtD,geD,cmpD,intC,rho0,e2,sj,e3,fc,hs4,ez]
 have last:∃ (ss':List Str) (s7:Sto),mIf (zfw (mTst (mBin ltD (zaG lenD (zab (mVar 3) (mNil))) (mVar 1))) (mTst (mBin ziC (mVar 6) (mVar 3)))) (mExp (mApp (mVar 3) (zab (mVar 6) (mNil)))) (zcG)
     [some (.ref n),some (.int many),some (.str zbl),some (.ref f),v4,some (.int w),some (.str z6)] s6=some (.nx [some (.ref n),some (.int many),some (.str zbl),some (.ref f),v4,some (.int w),some (.str z6)],s7)/\NInv n f many st0 ss' s7:=by
   have el:=zk6 h6.at_;have ei:=ziB h6.at_ (fun x hx=>(h6.ok x hx).str) nz6.str
   by_cases hlt:(ss.length:Int) < many
   . by_cases hin:z6∈ss
     . exact⟨ss,s6,by simp[rho,zaV,za4,zaN,zaQ,zaz,zax,zaS,zaE,zaC,zat,zas,zaL,zaX,zaP,zaR,za3,zaK,zb5,zaw,za0,zbH,zaW,zb2,zb1,za2,zb6,ap_w,zbM,zaB,zau,zaM,zaY,zb4,zb3,za1,zaD,za5,zaZ,zam,zaU,zan,zao,zbg,zbs,zb0,zbZ,zbL,zbY,zbX,zbW,zbV,zbU,zbT,Ac,Ai,add_int,sub_int,ltD,leD,gtD,geD,cmpD,intC,rho0,el,ei,hlt,hin],h6⟩
     . have hfl:=getElem?_lt h6.at_;have ea:=append_at (x:=.str z6) h6.at_ (by rw[Ag];omega);refine⟨ss++[z6],s6.set f (.lst (ss.map D.str++[.str z6])),by simp[rho,zaV,za4,zaN,zaQ,zaz,zax,zaS,zaE,zaC,zat,zas,zaL,zaX,zaP,zaR,za3,zaK,zb5,zaw,za0,zbH,zaW,zb2,zb1,za2,zb6,ap_w,zbM,zaB,zau,zaM,zaY,zb4,zb3,za1,zaD,za5,zaZ,zam,zaU,zan,zao,zbg,zbs,zb0,zbZ,zbL,zbY,zbX,zbW,zbV,zbU,zbT,Ac,Ai,add_int,sub_int,ltD,leD,gtD,geD,cmpD,intC,rho0,el,ei,hlt,hin,ea,zca,h6.at_],?_⟩;refine⟨by simp[hfl],fun x hx=>?_,?_,by simp;omega,?_,?_⟩
       . rcases List.mem_append.mp hx with hx | hx
         . exact h6.ok x hx
         . rw[List.mem_singleton.mp hx];exact nz6
       . rw[Er];refine⟨h6.nd,by simp,fun a ha b hb=>?_⟩;rw[List.mem_singleton.mp hb];rintro rfl;exact hin ha
       . obtain⟨a,b,e,r⟩:=h6.pot;exact⟨a,b,by rw[AO hf];exact e,r⟩
       . exact⟨by have:=h6.fr.len;simpa using this,fun k hk nk=>by rw[AO (by omega)];exact h6.fr.old k hk nk⟩
   . exact⟨ss,s6,by simp[rho,zaV,za4,zaN,zaQ,zaz,zax,zaS,zaE,zaC,zat,zas,zaL,zaX,zaP,zaR,za3,zaK,zb5,zaw,za0,zbH,zaW,zb2,zb1,za2,zb6,ap_w,zbM,zaB,zau,zaM,zaY,zb4,zb3,za1,zaD,za5,zaZ,zam,zaU,zan,zao,zbg,zbs,zb0,zbZ,zbL,zbY,zbX,zbW,zbV,zbU,zbT,Ac,Ai,add_int,sub_int,ltD,leD,gtD,geD,cmpD,intC,rho0,el,hlt],h6⟩
 obtain⟨ss',s7,e7,h7⟩:=last;refine⟨ss',some (.int w),some (.str z6),s7,?_,h7⟩;exact zaH stp1 (zaH stp2 (zaH i5 (zaH i6 e7)))
theorem zml{n:Nat}{st:Sto}{many:Int}(h:zbE n st)(h0:0<=many)(h1:many<=100):∃ (ss:List Str) (st':Sto),zco [.ref n,.int many] st=some (.ref st.length,st')/\st'[st.length]?=some (.lst (ss.map D.str))/\(∀ x∈ss,NameOk x)/\ss.Nodup/\(ss.length:Int)<=many/\zbE n st'/\Fr n st st':=by
 have hf:st.length≠n:=AQ h.lt;have key:=zdY (W:=⟨run 0 (2*many).toNat,[]⟩) (g:=gNm 4) (m:=zbN) (ds:=run 0 (2*many).toNat) (ρ:=[some (.ref n),some (.int many),some (.str zbl),some (.ref st.length),none,none,none]) (st:=st++[.lst []])
   (Inv:=fun k ρ s=>∃ (ss:List Str) (a b c:Option D),ρ=[some (.ref n),some (.int many),some (.str zbl),some (.ref st.length),a,b,c]/\NInv n st.length many st ss s)
   ⟨[],none,none,none,rfl,⟨za9 st _,by simp,by simp,by simpa using h0,h.gr (Gr.app _ _),Fr.app _ _ _⟩⟩ (fun _ _ _ _ _=>rfl) (fun k d ρ s hd hI=>by
     obtain⟨ss,a,b,c,rfl,hN⟩:=hI;obtain⟨ss',w5,w6,s',e,hN'⟩:=ziF (v4:=some d) (v5:=b) (v6:=c) hN hf (Af _) (by omega);exact⟨_,s,_,s',rfl,e,ss',some d,w5,w6,rfl,hN'⟩)
 obtain⟨ρ',s',e,ss,a,b,c,rfl,hN⟩:=key;refine⟨ss,s',zcS ?_,hN.at_,hN.ok,hN.nd,hN.len,hN.pot,hN.fr⟩;unfold zdx;refine zaH (ρ1:=[some (.ref n),some (.int many),some (.str zbl),none,none,none,none]) (s1:=st) (by simp[rho,zaV,za4,zaN,zaQ,zaz,zax,zaS,zaE,zaC,zat,zas,zaL,zaX,zaP,zaR,za3,zaK,zb5,zaw,za0,zbH,zaW,zb2,zb1,za2,zb6,ap_w,zbM,zaB,zau,zaM,zaY,zb4,zb3,za1,zaD,za5,zaZ,zam,zaU,zan,zao,zbg,zbs,zb0,zbZ,zbL,zbY,zbX,zbW,zbV,zbU,zbT,Ac,Ai,add_int,sub_int,ltD,leD,gtD,geD,cmpD,intC,rho0]) ?_;refine zaH (ρ1:=[some (.ref n),some (.int many),some (.str zbl),some (.ref st.length),none,none,none]) (s1:=st++[.lst []]) (by simp[rho,zaV,za4,zaN,zaQ,zaz,zax,zaS,zaE,zaC,zat,zas,zaL,zaX,zaP,zaR,za3,zaK,zb5,zaw,za0,zbH,zaW,zb2,zb1,za2,zb6,ap_w,zbM,zaB,zau,zaM,zaY,zb4,zb3,za1,zaD,za5,zaZ,zam,zaU,zan,zao,zbg,zbs,zb0,zbZ,zbL,zbY,zbX,zbW,zbV,zbU,zbT,Ac,Ai,add_int,sub_int,ltD,leD,gtD,geD,cmpD,intC,rho0]) ?_;have sm:small (2*many)=true:=zcy (by omega) (by omega);have em:mulA (.int 2) (.int many) (st++[.lst []])=some (.int (2*many),st++[.lst []]):=mul_int (by omega);refine zaH (ρ1:=[some (.ref n),some (.int many),some (.str zbl),some (.ref st.length),a,b,c]) (s1:=s') (by simp[rho,zaV,za4,zaN,zaQ,zaz,zax,zaS,zaE,zaC,zat,zas,zaL,zaX,zaP,zaR,za3,zaK,zb5,zaw,za0,zbH,zaW,zb2,zb1,za2,zb6,ap_w,zbM,zaB,zau,zaM,zaY,zb4,zb3,za1,zaD,za5,zaZ,zam,zaU,zan,zao,zbg,zbs,zb0,zbZ,zbL,zbY,zbX,zbW,zbV,zbU,zbT,Ac,Ai,add_int,sub_int,ltD,leD,gtD,geD,cmpD,intC,rho0,em,sm,e]) ?_;simp[rho,zaV,za4,zaN,zaQ,zaz,zax,zaS,zaE,zaC,zat,zas,zaL,zaX,zaP,zaR,za3,zaK,zb5,zaw,za0,zbH,zaW,zb2,zb1,za2,zb6,ap_w,zbM,zaB,zau,zaM,zaY,zb4,zb3,za1,zaD,za5,zaZ,zam,zaU,zan,zao,zbg,zbs,zb0,zbZ,zbL,zbY,zbX,zbW,zbV,zbU,zbT,Ac,Ai,add_int,sub_int,ltD,leD,gtD,geD,cmpD,intC,rho0]
end L2.MP.Hn
namespace L2.MP
open PySem
noncomputable def zcx(p:Str×Int):D:=.tup [.str p.1,.int p.2]
noncomputable def zdC(k:List Str):D:=.tup (k.map D.str)
theorem zjA{n:Nat}{st:Sto}{k:Nat}:∀ {ks:List (List Str)},st[k]?=some (.lst (ks.map zdC))->(∀ q∈ks,∀ x∈q,Bi x=true)->toP (n+3) st (.ref k)=some (.list (ks.map fun q=>.tuple (q.map DQ))):=by
 intro ks hk h;rw[toP];simp only[zca,hk,Ac];have:∀ l:List (List Str),(∀ q∈l,∀ x∈q,Bi x=true)->toPs (toP (n+2) st) (l.map zdC)=some (l.map fun q=>.tuple (q.map DQ)):=by
   intro l
   induction l with
   | nil=>intro _;rfl
   | cons q l ih =>
     intro hl;rw[Ar,toPs];have e:toP (n+2) st (zdC q)=some (.tuple (q.map DQ)):=by
       unfold zdC;rw[toP,zex (fun x hx=>zhX hx) (hl q Aj)];rfl
     rw[e,Ac,ih fun r hr=>hl r (Ah _ hr)];rfl
 rw[this ks h];rfl
theorem zoA{st:Sto}{f g:Nat}{ks:List (List Str)}(hf:st[f]?=some (.lst (ks.map zdC)))(hg:st[g]?=some (.lst []))(h:∀ q∈ks,∀ x∈q,Bi x=true):neD (.ref f) (.ref g) st=some (.bl (!ks.isEmpty),st):=by
 unfold neD;rw[zjA (n:=97) hf h,zey (n:=98) (ss:=[]) hg (by simp)]
 cases ks <;> rfl
end L2.MP
namespace L2.MP.Hn
open PySem L2.MP
structure FaceOk(x:Str):Prop where
 len:x.cps.toList.length<=1
 ab:∀ c∈x.cps.toList,(97<=c/\c<=122)\/(48<=c/\c<=57)
theorem FaceOk.str{x:Str}(h:FaceOk x):Bi x=true:=by
 unfold Bi;rw[Ge];intro c hc;have:=h.ab c (by simpa using hc);simp;omega
def zfb(ns:List Str)(x:Str):Prop:=x=""\/x∈ns
def zhI(ns:List Str)(k:List Str):Prop:=∃ f a b c d,k=[f,a,b,c,d]/\FaceOk f/\zfb ns a/\zfb ns b/\zfb ns c/\zfb ns d
theorem zmU:Bi ("":Str)=true:=by decide +kernel
theorem zfb.str{ns:List Str}{x:Str}(hn:∀ y∈ns,NameOk y)(h:zfb ns x):Bi x=true:=by
 rcases h with rfl | h
 . exact zmU
 . exact (hn x h).str
theorem zhI.str{ns:List Str}{k:List Str}(hn:∀ y∈ns,NameOk y)(h:zhI ns k):∀ x∈k,Bi x=true:=by
 obtain⟨f,a,b,c,d,rfl,hf,ha,hb,hc,hd⟩:=h;intro x hx;simp at hx
 rcases hx with rfl | rfl | rfl | rfl | rfl
 . exact hf.str
 . exact ha.str hn
 . exact hb.str hn
 . exact hc.str hn
 . exact hd.str hn
theorem zjD{n l:Nat}{st:Sto}{ss:List Str}{v:Option D}(h:zbE n st)(hl:st[l]?=some (.lst (ss.map D.str)))(hln:l≠n):∃ (vs:List (Str×Int)) (st':Sto),
   mCI ⟨ss.map D.str,[(l,ss.map D.str)]⟩ (gNm 0) zc6 zbP (ss.map D.str) [v,some (.ref n)] st=some (vs.map zcx,st')/\vs.map (·.1)=ss/\(∀ p∈vs,1<=p.2/\p.2<=4)/\zbE n st'/\Fr n st st':=by
 have key:=zo0 (W:=⟨ss.map D.str,[(l,ss.map D.str)]⟩) (g:=gNm 0) (c:=zc6) (m:=zbP) (ds:=ss.map D.str) (acc:=[]) (st:=st) (ρ:=[v,some (.ref n)])
   (Inv:=fun k a ρ s=>(∃ x,ρ=[x,some (.ref n)])/\(∃ vs:List (Str×Int),a=vs.map zcx/\vs.map (·.1)=ss.take k/\∀ p∈vs,1<=p.2/\p.2<=4)/\zbE n s/\Fr n st s)
   ⟨⟨v,rfl⟩,⟨[],rfl,by simp,by simp⟩,h,Fr.refl _ _⟩ (fun k a ρ s _ hI=>zc7 ((hI.2.2.2.old l (getElem?_lt hl) hln).trans hl)) (fun k d a ρ s hd hI=>by
     obtain⟨⟨x,rfl⟩,⟨vs,rfl,hm,hv⟩,hp,hf⟩:=hI;rw[AA] at hd;obtain⟨y,hy,rfl⟩:=zaj hd;obtain⟨d,s1,e1,hd,p1,f1⟩:=zhw [.int 1,.int 2,.int 4] hp (by decide) (by decide);obtain⟨m,rfl,hm1,hm4⟩:∃ m:Int,d=.int m/\1<=m/\m<=4:=by
       simp at hd
       rcases hd with rfl | rfl | rfl <;> exact⟨_,rfl,by decide,by decide⟩
     obtain⟨r,s2,e2,r0,r1,p2,f2,_⟩:=zbt (many:=m) p1 (by omega) (by omega);refine⟨[some (.str y),some (.ref n)],s,true,s,rfl,rfl,.inl ⟨rfl,zcx (y,1+r),s2,?_,⟨_,rfl⟩,⟨vs++[(y,1+r)],by simp,?_,?_⟩,p2,hf.trans (f1.trans f2)⟩⟩
     . unfold zbP zcx;simp[rho,zaV,za4,zaN,zaQ,zaz,zax,zaS,zaE,zaC,zat,zas,zaL,zaX,zaP,zaR,za3,zaK,zb5,zaw,za0,zbH,zaW,zb2,zb1,za2,zb6,ap_w,zbM,zaB,zau,zaM,zaY,zb4,zb3,za1,zaD,za5,zaZ,zam,zaU,zan,zao,zbg,zbs,zb0,zbZ,zbL,zbY,zbX,zbW,zbV,zbU,zbT,Ac,Ai,add_int,sub_int,ltD,leD,gtD,geD,cmpD,intC,rho0,e1,e2]
     . rw[Fd,hm,Gw,hy];rfl
     . intro p hp
       rcases List.mem_append.mp hp with hp | hp
       . exact hv p hp
       . rw[List.mem_singleton.mp hp];exact⟨by show 1<=1+r;omega,by show 1+r<=4;omega⟩)
 obtain⟨xs,ρ',s',e,_,⟨vs,hx,hm,hv⟩,hp,hf⟩:=key;rw[Fc] at hx;subst hx;refine⟨vs,s',e,?_,hv,hp,hf⟩;rw[hm,Ag,DH]
theorem zlO{n l:Nat}{st:Sto}{sd:List Str}{v:Option D}(h:zbE n st)(hl:st[l]?=some (.lst (sd.map D.str)))(hln:l≠n)(h0:0 < sd.length)(h1:sd.length < 1000):∃ (xs:List Str) (st':Sto),
   mCI ⟨run 0 4,[]⟩ (gNm 0) zc6 zbi (run 0 4) [v,some (.ref n),some (.ref l)] st=some (xs.map D.str,st')/\xs.length=4/\(∀ x∈xs,x∈sd)/\zbE n st'/\Fr n st st':=by
 have key:=zo0 (W:=⟨run 0 4,[]⟩) (g:=gNm 0) (c:=zc6) (m:=zbi) (ds:=run 0 4) (acc:=[]) (st:=st) (ρ:=[v,some (.ref n),some (.ref l)])
   (Inv:=fun k a ρ s=>(∃ x,ρ=[x,some (.ref n),some (.ref l)])/\(∃ xs:List Str,a=xs.map D.str/\xs.length=k/\∀ x∈xs,x∈sd)/\zbE n s/\Fr n st s)
   ⟨⟨v,rfl⟩,⟨[],rfl,rfl,by simp⟩,h,Fr.refl _ _⟩ (fun _ _ _ _ _ _=>rfl) (fun k d a ρ s hd hI=>by
     obtain⟨⟨x,rfl⟩,⟨xs,rfl,hlen,hx⟩,hp,hf⟩:=hI;obtain⟨d1,s1,e1,hd1,p1,f1⟩:=of_ok hp ((hf.old l (getElem?_lt hl) hln).trans hl) (by simpa using h0) (by rw[Ag];omega) hln;obtain⟨y,hy,rfl⟩:=List.mem_map.mp hd1;refine⟨[some d,some (.ref n),some (.ref l)],s,true,s,rfl,rfl,.inl ⟨rfl,.str y,s1,?_,⟨_,rfl⟩,⟨xs++[y],by simp,by simp[hlen],?_⟩,p1,hf.trans f1⟩⟩
     . unfold zbi;simp[rho,zaV,za4,zaN,zaQ,zaz,zax,zaS,zaE,zaC,zat,zas,zaL,zaX,zaP,zaR,za3,zaK,zb5,zaw,za0,zbH,zaW,zb2,zb1,za2,zb6,ap_w,zbM,zaB,zau,zaM,zaY,zb4,zb3,za1,zaD,za5,zaZ,zam,zaU,zan,zao,zbg,zbs,zb0,zbZ,zbL,zbY,zbX,zbW,zbV,zbU,zbT,Ac,Ai,add_int,sub_int,ltD,leD,gtD,geD,cmpD,intC,rho0,e1]
     . intro z hz
       rcases List.mem_append.mp hz with hz | hz
       . exact hx z hz
       . rw[List.mem_singleton.mp hz];exact hy)
 obtain⟨ys,ρ',s',e,_,⟨xs,hx,hm,hv⟩,hp,hf⟩:=key;rw[Fc] at hx;subst hx;exact⟨xs,s',e,by rw[hm,zcU],hv,hp,hf⟩
noncomputable abbrev signs:Str:="abcdefghijklmnopqrstuvwxyz0123456789"
theorem signs_at:∀ k:Nat,k < 36->∃ c,signs.cps[k]?=some c/\((97<=c/\c<=122)\/(48<=c/\c<=57)):=by
 have:∀ k:Nat,k < 36->(match signs.cps[k]? with | some c=>decide ((97<=c/\c<=122)\/(48<=c/\c<=57)) | none=>false)=true:=by decide +kernel
 intro k hk;have h:=this k hk
 cases e:signs.cps[k]? with
 | none=>rw[e] at h;cases h
 | some c=>rw[e] at h;exact⟨c,rfl,of_decide_eq_true h⟩
theorem zmQ{z:Str}{b:Bool}{st:Sto}(hz:z.length<=100):mulA (.str z) (.int (if b=true then 1 else 0)) st=some (.str (if b=true then z else E4),st):=by
 have hs:sizeLine=16777216:=by decide
 cases b with
 | true =>
   have e:repS z 1=z:=by simp[repS]
   simp[mulA,orG,mulD,zmm,intD,zbs,e,hs];omega
 | false =>
   have e:repS z 0=E4:=by simp[repS]
   have e2:Str.empty.length=0:=by decide
   simp[mulA,orG,mulD,zmm,intD,zbs,e,hs,e2]
structure KInv(n f l:Nat)(ns sd:List Str)(st0:Sto)(ks:List (List Str))(s:Sto):Prop where
 at_:s[f]?=some (.lst (ks.map zdC))
 sd_:s[l]?=some (.lst (sd.map D.str))
 ok:∀ k∈ks,zhI ns k
 pot:zbE n s
 fr:Fr n st0 s
theorem KInv.fr'{n f l:Nat}{ns sd:List Str}{st0:Sto}{ks:List (List Str)}{s s':Sto}(h:KInv n f l ns sd st0 ks s)(hf:f≠n)(hl:l≠n)(p:zbE n s')(g:Fr n s s'):KInv n f l ns sd st0 ks s' :=
 ⟨(g.old f (getElem?_lt h.at_) hf).trans h.at_,(g.old l (getElem?_lt h.sd_) hl).trans h.sd_,h.ok,p,h.fr.trans g⟩
theorem KInv.app{n f l:Nat}{ns sd:List Str}{st0:Sto}{ks:List (List Str)}{s:Sto}(h:KInv n f l ns sd st0 ks s)(hf:f≠n)(hl:l≠n)(o:List O):KInv n f l ns sd st0 ks (s++o):=h.fr' hf hl (h.pot.gr (Gr.app _ _)) (Fr.app _ _ _)
noncomputable abbrev hrho (n:Nat) (most:Int) (v2 v3:Option D) (l f:Nat) (v7 v8 v9:Option D):Rho:=[some (.ref n),some (.int most),v2,v3,some (.str signs),some (.ref l),some (.ref f),v7,v8,v9]
theorem len4{xs:List Str}(h:xs.length=4):∃ a b c d,xs=[a,b,c,d]:=by
 match xs,h with
 | [a,b,c,d],_=>exact⟨a,b,c,d,rfl⟩
theorem zi0{n f l:Nat}{most:Int}{ns sd:List Str}{st0 s:Sto}{ks:List (List Str)}{v2 v3 v7 v8 v9:Option D}(h:KInv n f l ns sd st0 ks s)(hf:f≠n)(hl:l≠n)(hfl:f≠l)(hf0:st0.length<=f)(hsd:∀ x∈sd,zfb ns x)(hns:∀ x∈ns,NameOk x)
   (h0:0 < sd.length) (h1:sd.length < 1000) (hk:ks.length<=1000):∃ (k:List Str) (w8 w9:Option D) (s':Sto),zbO (hrho n most v2 v3 l f v7 v8 v9) s=some (.nx (hrho n most v2 v3 l f v7 w8 w9),s')/\KInv n f l ns sd st0 (ks++[k]) s':=by
 obtain⟨r,s1,e1,r0,r1,p1,f1,_⟩:=zbt (many:=36) h.pot (by decide) (by decide);obtain⟨c,hc,hcc⟩:=signs_at r.toNat (by omega);have ei:ixA (.str signs) (.int r) s1=some (.str ⟨#[c]⟩,s1):=zkl (by decide) r0 hc;obtain⟨q,s2,e2,q0,q1,p2,f2,_⟩:=zbt (many:=4) p1 (by decide) (by decide);have h2:=h.fr' hf hl p2 (f1.trans f2);obtain⟨face,ef,hface⟩:∃ face:Str,mulA (.str ⟨#[c]⟩) (.int (if 0 < q then 1 else 0)) s2=some (.str face,s2)/\FaceOk face:=by
   have e:=zmQ (z:=⟨#[c]⟩) (b:=decide (0 < q)) (st:=s2) (by show 1<=100;decide);refine⟨_,by simpa using e,?_⟩
   by_cases hq:0 < q
   . rw[if_pos (by simpa using hq)];exact⟨by simp,fun x hx=>by simp at hx;rw[hx];exact hcc⟩
   . rw[if_neg (by simpa using hq)];exact⟨by decide,fun x hx=>by rw[show Str.empty.cps.toList=[] from by decide] at hx;cases hx⟩
 obtain⟨xs,s3,e3,hx4,hxs,p3,f3⟩:=zlO (v:=none) p2 h2.sd_ hl h0 h1;have h3:=h2.fr' hf hl p3 f3;have h4:=h3.app hf hl [.lst (xs.map D.str)];obtain⟨a,b,c',d,rfl⟩:=len4 hx4;have ka:zhI ns [face,a,b,c',d]:=⟨face,a,b,c',d,rfl,hface,hsd a (hxs a (by simp)),hsd b (hxs b (by simp)),hsd c' (hxs c' (by simp)),hsd d (hxs d (by simp))⟩
 have et:=zdF (za9 s3 (.lst ([a,b,c',d].map D.str)));have stp1:mAsg (mBin mulA (mBin ixA (mVar 4) (zaG zad (zab (mVar 0) (zab (mCon (.int 36)) (mNil))))) (zaG intC (zab (mBin gtD (zaG zad (zab (mVar 0) (zab (mCon (.int 4)) (mNil)))) (mCon (.int 0))) (mNil)))) (gNm 8) (hrho n most v2 v3 l f v7 v8 v9) s=some (.nx (hrho n most v2 v3 l f v7 (some (.str face)) v9),s2):=by
   simp[hrho,rho,zaV,za4,zaN,zaQ,zaz,zax,zaS,zaE,zaC,zat,zas,zaL,zaX,zaP,zaR,za3,zaK,zb5,zaw,za0,zbH,zaW,zb2,zb1,za2,zb6,ap_w,zbM,zaB,zau,zaM,zaY,zb4,zb3,za1,zaD,za5,zaZ,zam,zaU,zan,zao,zbg,zbs,zb0,zbZ,zbL,zbY,zbX,zbW,zbV,zbU,zbT,Ac,Ai,add_int,sub_int,ltD,leD,gtD,geD,cmpD,intC,rho0,e1,ei,e2,ef]
 have sm:small 4=true:=zcy (by decide) (by decide);have ead:addD (.tup [.str face]) (.tup [.str a,.str b,.str c',.str d]) (s3++[.lst [.str a,.str b,.str c',.str d]])=some (.tup [.str face,.str a,.str b,.str c',.str d],s3++[.lst [.str a,.str b,.str c',.str d]]):=zg6 (by simp) (by simp);have e3':mCI ⟨run 0 (Hl 4),[]⟩ (gNm 0) zc6 zbi (run 0 (Hl 4)) [none,some (.ref n),some (.ref l)] s2=some ([.str a,.str b,.str c',.str d],s3):=e3;have et':zeu [.ref s3.length] (s3++[.lst [.str a,.str b,.str c',.str d]])=some (.tup [.str a,.str b,.str c',.str d],s3++[.lst [.str a,.str b,.str c',.str d]]):=et;have stp2:mAsg (mBin addD (mTup (zab (mVar 8) (mNil))) (zaG zeu (zab (ze4 (mR1 (mCon (.int 4))) 1 [0,5] (gNm 0) (zc6) (zbi)) (mNil)))) (gNm 9) (hrho n most v2 v3 l f v7 (some (.str face)) v9) s2=some (.nx (hrho n most v2 v3 l f v7 (some (.str face)) (some (zdC [face,a,b,c',d]))),s3++[.lst ([a,b,c',d].map D.str)]):=by
   simp[hrho,rho,zaV,za4,zaN,zaQ,zaz,zax,zaS,zaE,zaC,zat,zas,zaL,zaX,zaP,zaR,za3,zaK,zb5,zaw,za0,zbH,zaW,zb2,zb1,za2,zb6,ap_w,zbM,zaB,zau,zaM,zaY,zb4,zb3,za1,zaD,za5,zaZ,zam,zaU,zan,zao,zbg,zbs,zb0,zbZ,zbL,zbY,zbX,zbW,zbV,zbU,zbT,Ac,Ai,add_int,sub_int,ltD,leD,gtD,geD,cmpD,intC,rho0,sm,zdC] at e3' et' ead ⊢;simp[e3',rho,zaV,za4,zaN,zaQ,zaz,zax,zaS,zaE,zaC,zat,zas,zaL,zaX,zaP,zaR,za3,zaK,zb5,zaw,za0,zbH,zaW,zb2,zb1,za2,zb6,ap_w,zbM,zaB,zau,zaM,zaY,zb4,zb3,za1,zaD,za5,zaZ,zam,zaU,zan,zao,zbg,zbs,zb0,zbZ,zbL,zbY,zbX,zbW,zbV,zbU,zbT,Ac,Ai,add_int,sub_int,ltD,leD,gtD,geD,cmpD,intC,rho0,et',ead]
 generalize hs4:s3++[O.lst ([a,b,c',d].map D.str)]=s4 at h4 stp2;have if3:∃ (k:List Str) (s6:Sto),mIf (zfw (mTst (mBin neD (mVar 6) (mLst (mNil)))) (mTst (mBin eqD (zaG zad (zab (mVar 0) (zab (mCon (.int 8)) (mNil)))) (mCon (.int 0))))) (mAsg (zaG zaq (zab (mVar 0) (zab (mVar 6) (mNil)))) (gNm 9)) (zcG)
     (hrho n most v2 v3 l f v7 (some (.str face)) (some (zdC [face,a,b,c',d]))) s4=some (.nx (hrho n most v2 v3 l f v7 (some (.str face)) (some (zdC k))),s6)/\zhI ns k/\KInv n f l ns sd st0 ks s6:=by
   have h5:=h4.app hf hl [.lst []];have en:=zoA h5.at_ (za9 s4 (.lst [])) fun q hq=>(h5.ok q hq).str hns
   by_cases he:ks=[]
   . subst he;exact⟨[face,a,b,c',d],s4++[.lst []],by simp[hrho,rho,zaV,za4,zaN,zaQ,zaz,zax,zaS,zaE,zaC,zat,zas,zaL,zaX,zaP,zaR,za3,zaK,zb5,zaw,za0,zbH,zaW,zb2,zb1,za2,zb6,ap_w,zbM,zaB,zau,zaM,zaY,zb4,zb3,za1,zaD,za5,zaZ,zam,zaU,zan,zao,zbg,zbs,zb0,zbZ,zbL,zbY,zbX,zbW,zbV,zbU,zbT,Ac,Ai,add_int,sub_int,ltD,leD,gtD,geD,cmpD,intC,rho0,en],ka,h5⟩
   . have he':ks.isEmpty=false:=by cases ks with
       | nil=>exact absurd rfl he
       | cons a b=>rfl
     obtain⟨u,s6,e6,u0,u1,p6,f6,_⟩:=zbt (many:=8) h5.pot (by decide) (by decide);have h6:=h5.fr' hf hl p6 f6
     by_cases hu:u=0
     . subst hu;obtain⟨d7,s7,e7,hd7,p7,f7⟩:=of_ok h6.pot h6.at_ (by rw[Ag];exact List.length_pos_iff.mpr he) (by rw[Ag];omega) hf;obtain⟨k,hk7,rfl⟩:=List.mem_map.mp hd7;exact⟨k,s7,by simp[hrho,rho,zaV,za4,zaN,zaQ,zaz,zax,zaS,zaE,zaC,zat,zas,zaL,zaX,zaP,zaR,za3,zaK,zb5,zaw,za0,zbH,zaW,zb2,zb1,za2,zb6,ap_w,zbM,zaB,zau,zaM,zaY,zb4,zb3,za1,zaD,za5,zaZ,zam,zaU,zan,zao,zbg,zbs,zb0,zbZ,zbL,zbY,zbX,zbW,zbV,zbU,zbT,Ac,Ai,add_int,sub_int,ltD,leD,gtD,geD,cmpD,intC,rho0,en,he',e6,eq_int,e7],h6.ok k hk7,h6.fr' hf hl p7 f7⟩
     . have hu':(u==0)=false:=by simp[hu]
       exact⟨[face,a,b,c',d],s6,by simp[hrho,rho,zaV,za4,zaN,zaQ,zaz,zax,zaS,zaE,zaC,zat,zas,zaL,zaX,zaP,zaR,za3,zaK,zb5,zaw,za0,zbH,zaW,zb2,zb1,za2,zb6,ap_w,zbM,zaB,zau,zaM,zaY,zb4,zb3,za1,zaD,za5,zaZ,zam,zaU,zan,zao,zbg,zbs,zb0,zbZ,zbL,zbY,zbX,zbW,zbV,zbU,zbT,Ac,Ai,add_int,sub_int,ltD,leD,gtD,geD,cmpD,intC,rho0,en,he',e6,eq_int,hu'],ka,h6⟩
 obtain⟨k,s6,e6,kk,h6⟩:=if3;have ea:=append_at (x:=zdC k) h6.at_ (by rw[Ag];omega);have hlt:=getElem?_lt h6.at_;have stp4:mExp (mApp (mVar 6) (zab (mVar 9) (mNil))) (hrho n most v2 v3 l f v7 (some (.str face)) (some (zdC k))) s6=some (.nx (hrho n most v2 v3 l f v7 (some (.str face)) (some (zdC k))),s6.set f (.lst (ks.map zdC++[zdC k]))):=by
   simp[hrho,rho,zaV,za4,zaN,zaQ,zaz,zax,zaS,zaE,zaC,zat,zas,zaL,zaX,zaP,zaR,za3,zaK,zb5,zaw,za0,zbH,zaW,zb2,zb1,za2,zb6,ap_w,zbM,zaB,zau,zaM,zaY,zb4,zb3,za1,zaD,za5,zaZ,zam,zaU,zan,zao,zbg,zbs,zb0,zbZ,zbL,zbY,zbX,zbW,zbV,zbU,zbT,Ac,Ai,add_int,sub_int,ltD,leD,gtD,geD,cmpD,intC,rho0,zca,h6.at_,ea]
 refine⟨k,some (.str face),some (zdC k),s6.set f (.lst (ks.map zdC++[zdC k])),?_,?_⟩
 . unfold zbO;exact zaH stp1 (zaH stp2 (zaH e6 stp4))
 . refine⟨by simp[hlt],by rw[AO hfl];exact h6.sd_,fun x hx=>?_,?_,⟨by have:=h6.fr.len;simpa using this,fun j hj nj=>by rw[AO (by omega)];exact h6.fr.old j hj nj⟩⟩
   . rcases List.mem_append.mp hx with hx | hx
     . exact h6.ok x hx
     . rw[List.mem_singleton.mp hx];exact kk
   . obtain⟨a,b,e,r⟩:=h6.pot;exact⟨a,b,by rw[AO hf];exact e,r⟩
structure House where
 e:Int
 sticks:List (Str×Int)
 kinds:List (List Str)
noncomputable def House.d(h:House):D:=.tup [.int h.e,.tup (h.sticks.map zcx),.tup (h.kinds.map zdC)]
structure House.Ok(h:House)(most:Int):Prop where
 e0:1<=h.e
 e1:h.e<=4
 names:∀ p∈h.sticks,NameOk p.1
 srt:(h.sticks.map (·.1)).Pairwise fun a b=>sle a b=true
 nd:(h.sticks.map (·.1)).Nodup
 str:∀ p∈h.sticks,1<=p.2/\p.2<=4
 few:h.sticks.length<=5
 kind:∀ k∈h.kinds,zhI (h.sticks.map (·.1)) k
 k0:0 < h.kinds.length
 k1:(h.kinds.length:Int)<=most
theorem zez{st:Sto}{l:Nat}{ss:List Str}(hl:st[l]?=some (.lst (ss.map D.str)))(h:ss.length < 64):zcT [.ref l] st=some (.ref st.length,st++[.lst ((zcf ss).map D.str)]):=by
 simp[zcT,orN,zcY,zca,hl,zff,h,zbg]
theorem zmI{n:Nat}{st:Sto}{most:Int}(h:zbE n st)(h0:1<=most)(h1:most<=500):∃ (ho:House) (st':Sto),zcp [.ref n,.int most] st=some (ho.d,st')/\ho.Ok most/\zbE n st'/\Fr n st st':=by
 obtain⟨d,s1,e1,hd,p1,f1⟩:=zhw [.int 1,.int 2,.int 2,.int 3,.int 5,.int 0] h (by decide) (by decide);obtain⟨m,rfl,hm0,hm5⟩:∃ m:Int,d=.int m/\0<=m/\m<=5:=by
   simp at hd
   rcases hd with rfl | rfl | rfl | rfl | rfl <;> exact⟨_,rfl,by decide,by decide⟩
 obtain⟨ss,s2,e2,at2,ok2,nd2,len2,p2,f2⟩:=zml p1 hm0 (by omega);have es:=zez at2 (by omega);have hperm:(zcf ss).Perm ss:=BA _ _;have hsrt:(zcf ss).Pairwise fun a b=>sle a b=true:=Bw (fun a b c h1 h2=>zeD a b c h1 h2) (fun a b=>zgD a b) ss;have oks:∀ x∈zcf ss,NameOk x:=fun x hx=>ok2 x (hperm.mem_iff.mp hx);have nds:(zcf ss).Nodup:=hperm.nodup_iff.mpr nd2;have lens:(zcf ss).length<=5:=by rw[hperm.length_eq];omega
 generalize zcf ss=ns at es hsrt oks nds lens;generalize hs3:s2++[O.lst (ns.map D.str)]=s3 at es;have g3:Gr s2 s3:=by rw[<-hs3];exact Gr.app _ _
 have p3:=p2.gr g3;have at3:s3[s2.length]?=some (.lst (ns.map D.str)):=by rw[<-hs3];exact za9 _ _
 have n2:s2.length≠n:=AQ p2.lt;obtain⟨vs,s4,e4,hv1,hv2,p4,f4⟩:=zjD (v:=none) p3 at3 n2;have at4:s4[s2.length]?=some (.lst (ns.map D.str)):=(f4.old _ (getElem?_lt at3) n2).trans at3;have hvl:vs.length=ns.length:=by rw[<-hv1,Ag]
 have fv:fits (vs.map zcx).length=true:=zaT (by rw[Ag];omega);have et:=zdF (za9 s4 (.lst (vs.map zcx)));generalize hs5:s4++[O.lst (vs.map zcx)]=s5 at et;have g5:Gr s4 s5:=by rw[<-hs5];exact Gr.app _ _
 have p5:=p4.gr g5;have at5:s5[s2.length]?=some (.lst (ns.map D.str)):=(g5.old _ (getElem?_lt at4)).trans at4
 -- the sides
 have a1:=zeq (st:=s5++[.lst [.str ""]]) (za9 s5 _) (((Gr.app s5 [.lst [.str ""]]).old _ (getElem?_lt at5)).trans at5) (by simp;omega);generalize hs6:s5++[O.lst [.str ""]]=s6 at a1;have g6:Gr s5 s6:=by rw[<-hs6];exact Gr.app _ _
 have at6:s6[s2.length]?=some (.lst (ns.map D.str)):=(g6.old _ (getElem?_lt at5)).trans at5;have a2:=zeq (st:=s6++[.lst ([.str ""]++ns.map D.str)]) (za9 s6 _) (((Gr.app s6 [.lst ([.str ""]++ns.map D.str)]).old _ (getElem?_lt at6)).trans at6) (by simp;omega);generalize hs7:s6++[O.lst ([.str ""]++ns.map D.str)]=s7 at a1 a2;have g7:Gr s6 s7:=by rw[<-hs7];exact Gr.app _ _
 have at7:s7[s2.length]?=some (.lst (ns.map D.str)):=(g7.old _ (getElem?_lt at6)).trans at6;have a3:=zeq (st:=s7++[.lst ([.str ""]++ns.map D.str++ns.map D.str)]) (za9 s7 _) (((Gr.app s7 [.lst ([.str ""]++ns.map D.str++ns.map D.str)]).old _ (getElem?_lt at7)).trans at7) (by simp;omega);generalize hs8:s7++[O.lst ([.str ""]++ns.map D.str++ns.map D.str)]=s8 at a2 a3;have g8:Gr s7 s8:=by rw[<-hs8];exact Gr.app _ _
 obtain⟨sd,hsd⟩:∃ sd:List Str,sd=(("":Str)::ns)++ns++ns:=⟨_,rfl⟩
 have hsd':[D.str ""]++ns.map D.str++ns.map D.str++ns.map D.str=sd.map D.str:=by rw[hsd];simp
 rw[hsd'] at a3;generalize hs9:s8++[O.lst (sd.map D.str)]=s9 at a3;have at9:s9[s8.length]?=some (.lst (sd.map D.str)):=by rw[<-hs9];exact za9 _ _
 have g9:Gr s8 s9:=by rw[<-hs9];exact Gr.app _ _
 have p9:zbE n s9:=((((p5.gr g6).gr g7).gr g8)).gr g9;have n8:s8.length≠n:=AQ (((p5.gr g6).gr g7).gr g8).lt;have g59:Gr s5 s9:=((g6.trans g7).trans g8).trans g9
 -- the loop
 have p10:=p9.gr (Gr.app s9 [.lst []]);obtain⟨r,s11,e11,r0,r1,p11,f11,_⟩:=zbt (many:=most) p10 (by omega) (by omega);have n9:s9.length≠n:=AQ p9.lt;have l9:s8.length < s9.length:=getElem?_lt at9;have at11:s11[s9.length]?=some (.lst []):=(f11.old _ (by simp) n9).trans (za9 s9 _);have sd11:s11[s8.length]?=some (.lst (sd.map D.str)):=(f11.old _ (by simp;omega) n8).trans (((Gr.app s9 [.lst []]).old _ l9).trans at9);have hsdk:∀ x∈sd,zfb ns x:=fun x hx=>by
   rw[hsd] at hx;simp at hx
   rcases hx with rfl | hx
   . exact .inl rfl
   . exact .inr hx
 have sdl:sd.length=1+3*ns.length:=by rw[hsd];simp;omega
 have key:=zdY (W:=⟨run 0 (1+r).toNat,[]⟩) (g:=gNm 7) (m:=zbO) (ds:=run 0 (1+r).toNat) (ρ:=hrho n most (some (.ref s2.length)) (some (.tup (vs.map zcx))) s8.length s9.length none none none) (st:=s11)
   (Inv:=fun k ρ s=>∃ (ks:List (List Str)) (a b c:Option D),ρ=hrho n most (some (.ref s2.length)) (some (.tup (vs.map zcx))) s8.length s9.length a b c/\ks.length=k/\KInv n s9.length s8.length ns sd s9 ks s)
   ⟨[],none,none,none,rfl,rfl,⟨at11,sd11,by simp,p11,(Fr.app n s9 _).trans f11⟩⟩ (fun _ _ _ _ _=>rfl) (fun k d ρ s hd hI=>by
     obtain⟨ks,a,b,c,rfl,hk,hN⟩:=hI;have hkl:k < (run 0 (1+r).toNat).length:=getElem?_lt hd;rw[zcU] at hkl;obtain⟨kd,w8,w9,s',e,hN'⟩:=zi0 (most:=most) (v2:=some (.ref s2.length)) (v3:=some (.tup (vs.map zcx))) (v7:=some d) (v8:=b) (v9:=c) hN n9 n8 (AQ l9) (Af _) hsdk oks (by omega) (by omega) (by omega);exact⟨_,s,_,s',rfl,e,ks++[kd],some d,w8,w9,rfl,by simp[hk],hN'⟩)
 obtain⟨ρ',s12,e12,ks,a,b,c,rfl,hkl,hN⟩:=key;rw[zcU] at hkl;obtain⟨d13,s13,e13,hd13,p13,f13⟩:=zhw [.int 1,.int 2,.int 2,.int 3,.int 4] hN.pot (by decide) (by decide);obtain⟨en,rfl,en1,en4⟩:∃ m:Int,d13=.int m/\1<=m/\m<=4:=by
   simp at hd13
   rcases hd13 with rfl | rfl | rfl | rfl <;> exact⟨_,rfl,by decide,by decide⟩
 have at13:s13[s9.length]?=some (.lst (ks.map zdC)):=(f13.old _ (getElem?_lt hN.at_) n9).trans hN.at_;have et13:=zdF at13;refine⟨⟨en,vs,ks⟩,s13,zcS ?_,?_,p13,?_⟩
 . unfold zdy House.d;refine zaH (ρ1:=[some (.ref n),some (.int most),some (.ref s2.length),none,none,none,none,none,none,none]) (s1:=s3) (by simp[rho,zaV,za4,zaN,zaQ,zaz,zax,zaS,zaE,zaC,zat,zas,zaL,zaX,zaP,zaR,za3,zaK,zb5,zaw,za0,zbH,zaW,zb2,zb1,za2,zb6,ap_w,zbM,zaB,zau,zaM,zaY,zb4,zb3,za1,zaD,za5,zaZ,zam,zaU,zan,zao,zbg,zbs,zb0,zbZ,zbL,zbY,zbX,zbW,zbV,zbU,zbT,Ac,Ai,add_int,sub_int,ltD,leD,gtD,geD,cmpD,intC,rho0,e1,e2,es]) ?_;refine zaH (ρ1:=[some (.ref n),some (.int most),some (.ref s2.length),some (.tup (vs.map zcx)),none,none,none,none,none,none]) (s1:=s5) (by
     have fv':=fv;simp only[Ag] at fv';simp[rho,zaV,za4,zaN,zaQ,zaz,zax,zaS,zaE,zaC,zat,zas,zaL,zaX,zaP,zaR,za3,zaK,zb5,zaw,za0,zbH,zaW,zb2,zb1,za2,zb6,ap_w,zbM,zaB,zau,zaM,zaY,zb4,zb3,za1,zaD,za5,zaZ,zam,zaU,zan,zao,zbg,zbs,zb0,zbZ,zbL,zbY,zbX,zbW,zbV,zbU,zbT,Ac,Ai,add_int,sub_int,ltD,leD,gtD,geD,cmpD,intC,rho0,zlq,zca,at3,e4,fv',hs5,et]) ?_
   refine zaH (ρ1:=[some (.ref n),some (.int most),some (.ref s2.length),some (.tup (vs.map zcx)),some (.str signs),none,none,none,none,none]) (s1:=s5) (by simp[rho,zaV,za4,zaN,zaQ,zaz,zax,zaS,zaE,zaC,zat,zas,zaL,zaX,zaP,zaR,za3,zaK,zb5,zaw,za0,zbH,zaW,zb2,zb1,za2,zb6,ap_w,zbM,zaB,zau,zaM,zaY,zb4,zb3,za1,zaD,za5,zaZ,zam,zaU,zan,zao,zbg,zbs,zb0,zbZ,zbL,zbY,zbX,zbW,zbV,zbU,zbT,Ac,Ai,add_int,sub_int,ltD,leD,gtD,geD,cmpD,intC,rho0]) ?_;refine zaH (ρ1:=[some (.ref n),some (.int most),some (.ref s2.length),some (.tup (vs.map zcx)),some (.str signs),some (.ref s8.length),none,none,none,none]) (s1:=s9) (by
     simp[rho,zaV,za4,zaN,zaQ,zaz,zax,zaS,zaE,zaC,zat,zas,zaL,zaX,zaP,zaR,za3,zaK,zb5,zaw,za0,zbH,zaW,zb2,zb1,za2,zb6,ap_w,zbM,zaB,zau,zaM,zaY,zb4,zb3,za1,zaD,za5,zaZ,zam,zaU,zan,zao,zbg,zbs,zb0,zbZ,zbL,zbY,zbX,zbW,zbV,zbU,zbT,Ac,Ai,add_int,sub_int,ltD,leD,gtD,geD,cmpD,intC,rho0,hs6,a1,a2,a3]) ?_
   refine zaH (ρ1:=[some (.ref n),some (.int most),some (.ref s2.length),some (.tup (vs.map zcx)),some (.str signs),some (.ref s8.length),some (.ref s9.length),none,none,none]) (s1:=s9++[.lst []]) (by simp[rho,zaV,za4,zaN,zaQ,zaz,zax,zaS,zaE,zaC,zat,zas,zaL,zaX,zaP,zaR,za3,zaK,zb5,zaw,za0,zbH,zaW,zb2,zb1,za2,zb6,ap_w,zbM,zaB,zau,zaM,zaY,zb4,zb3,za1,zaD,za5,zaZ,zam,zaU,zan,zao,zbg,zbs,zb0,zbZ,zbL,zbY,zbX,zbW,zbV,zbU,zbT,Ac,Ai,add_int,sub_int,ltD,leD,gtD,geD,cmpD,intC,rho0]) ?_;have sm:small (1+r)=true:=zcy (by omega) (by omega);refine zaH (ρ1:=hrho n most (some (.ref s2.length)) (some (.tup (vs.map zcx))) s8.length s9.length a b c) (s1:=s12) (by simp[rho,zaV,za4,zaN,zaQ,zaz,zax,zaS,zaE,zaC,zat,zas,zaL,zaX,zaP,zaR,za3,zaK,zb5,zaw,za0,zbH,zaW,zb2,zb1,za2,zb6,ap_w,zbM,zaB,zau,zaM,zaY,zb4,zb3,za1,zaD,za5,zaZ,zam,zaU,zan,zao,zbg,zbs,zb0,zbZ,zbL,zbY,zbX,zbW,zbV,zbU,zbT,Ac,Ai,add_int,sub_int,ltD,leD,gtD,geD,cmpD,intC,rho0,e11,sm];exact e12) ?_;simp[hrho,rho,zaV,za4,zaN,zaQ,zaz,zax,zaS,zaE,zaC,zat,zas,zaL,zaX,zaP,zaR,za3,zaK,zb5,zaw,za0,zbH,zaW,zb2,zb1,za2,zb6,ap_w,zbM,zaB,zau,zaM,zaY,zb4,zb3,za1,zaD,za5,zaZ,zam,zaU,zan,zao,zbg,zbs,zb0,zbZ,zbL,zbY,zbX,zbW,zbV,zbU,zbT,Ac,Ai,add_int,sub_int,ltD,leD,gtD,geD,cmpD,intC,rho0,e13,et13]
 . refine⟨en1,en4,fun p hp=>oks p.1 (by rw[<-hv1];exact List.mem_map_of_mem hp),by rw[hv1];exact hsrt,by rw[hv1];exact nds,hv2,by show vs.length<=5;omega,fun k hk=>by rw[hv1];exact hN.ok k hk,by show 0 < ks.length;omega,by show (ks.length:Int)<=most;omega⟩
 . have fr1:Fr n st s3:=(f1.trans f2).trans (g3.fr n);have fr2:Fr n st s9:=(fr1.trans f4).trans ((g5.trans g59).fr n);exact (fr2.trans hN.fr).trans f13
end L2.MP.Hn
namespace L2.MP
open PySem
theorem zfB:∀ t:List Int,intsOf (t.map D.int)=some t
 | []=>rfl
 | x::t=>by rw[Ar,intsOf,zfB t];rfl
theorem zdV:∀ {rows:List (List Int)},(∀ r∈rows,r≠[])->rowsOf (rows.map tupD)=some rows
 | [],_=>rfl
 | r::rows,h=>by
   have hr:rowOf (tupD r)=some r:=by
     unfold rowOf tupD;simp only[zfB,Ac];have:r.isEmpty=false:=by
       cases r with
       | nil=>exact absurd rfl (h [] Aj)
       | cons a b=>rfl
     simp[this]
   rw[Ar,rowsOf,hr,Ac,zdV fun q hq=>h q (Ah _ hq)];rfl
theorem zh4{st:Sto}{l:Nat}{rows:List (List Int)}(hl:st[l]?=some (.lst (rows.map tupD)))(h:∀ r∈rows,r≠[])(h64:rows.length < 64):zcT [.ref l] st=some (.ref st.length,st++[.lst ((zeC rows).map tupD)]):=by
 match rows,hl,h,h64 with
 | [],hl,h,h64=>simp[zcT,orN,zcY,zca,hl,strsOf,zcf,zeC,zbg]
 | [r],hl,h,h64 =>
   have e:strsOf [tupD r]=none:=rfl;simp[zcT,orN,zcY,zdR,zca,hl,e,zeC,zbg,zbs]
 | r::q::rows,hl,h,h64 =>
   have e:strsOf (tupD r::tupD q::rows.map tupD)=none:=rfl;have e2:=zdV h;simp only[Ar] at e2;simp at h64;have h2:rows.length+1+1 < 64:=by omega
   simp[zcT,orN,zcY,zdR,zeA,zca,hl,e,e2,zbg,zbs,h2]
theorem zh5(rows:List (List Int)):(zeC rows).Perm rows:=BA _ _
theorem zjG(rows:List (List Int)):(zeC rows).Pairwise fun a b=>tle a b=true:=Bw (fun a b c=>zcb a b c) zcw rows
noncomputable abbrev Tl:=Int×Int×Int
noncomputable def kvOf(t:Tl):List Key×D:=([DJ t.1,DJ t.2.1],.int t.2.2)
noncomputable def rowT(t:Tl):List Int:=[t.1,t.2.1,t.2.2]
noncomputable def zcs(a b:Tl):Bool:=decide (a.1=b.1)&&decide (a.2.1=b.2.1)
noncomputable def putT(l:List Tl)(t:Tl):List Tl:=if l.any (fun u=>zcs u t)=true then l.map (fun u=>if zcs u t=true then t else u) else l++[t]
theorem zmA(u t:Tl):decide ((kvOf u).1=(kvOf t).1)=zcs u t:=by
 unfold kvOf zcs
 by_cases h1:u.1=t.1 <;> by_cases h2:u.2.1=t.2.1 <;> simp[h1,h2]
theorem zn1(l:List Tl)(t:Tl):putD (l.map kvOf) (kvOf t).1 (kvOf t).2=(putT l t).map kvOf:=by
 unfold putD putT;have e:((l.map kvOf).any fun kv=>decide (kv.1=(kvOf t).1))=l.any fun u=>zcs u t:=by
   rw[List.any_map]
   congr 1
   funext u
   exact zmA u t
 rw[e]
 split
 . rw[Bo,Bo];apply Cy;intro u _;show (if (kvOf u).1=(kvOf t).1 then _ else _)=kvOf (if zcs u t=true then t else u)
   by_cases h:zcs u t=true
   . have h':(kvOf u).1=(kvOf t).1:=of_decide_eq_true ((zmA u t).trans h);rw[if_pos h',if_pos h,h']
   . have h':¬ (kvOf u).1=(kvOf t).1:=fun z=>h ((zmA u t).symm.trans (decide_eq_true z));rw[if_neg h',if_neg h]
 . rw[Fd];rfl
def PlNd(l:List Tl):Prop:=l.Pairwise fun a b=>zcs a b=false
theorem zdl(a b:Tl):zcs a b=zcs b a:=by
 unfold zcs
 by_cases h1:a.1=b.1 <;> by_cases h2:a.2.1=b.2.1 <;> simp[h1,h2,eq_comm]
theorem zn0{l:List Tl}{t:Tl}(h:PlNd l):PlNd (putT l t):=by
 unfold putT
 split
 . unfold PlNd at *;rw[Gx];refine h.imp fun {a b} hab=>?_;have eqp:∀ {a b c:Tl},zcs a b=true->zcs a c=zcs b c:=fun {a b c} q=>by
     unfold zcs at *;simp at q;rw[q.1,q.2]
   by_cases ha:zcs a t=true
   . by_cases hb:zcs b t=true
     . have h1:zcs a b=zcs t b:=eqp ha;rw[zdl] at hb;rw[h1,hb] at hab;cases hab
     . rw[if_pos ha,if_neg hb,zdl];simpa using hb
   . by_cases hb:zcs b t=true
     . rw[if_neg ha,if_pos hb];simpa using ha
     . rw[if_neg ha,if_neg hb];exact hab
 . rename_i hn;unfold PlNd at *;rw[List.pairwise_append];refine⟨h,List.pairwise_singleton _ _,fun a ha b hb=>?_⟩;rw[List.mem_singleton.mp hb]
   cases e:zcs a t with
   | false=>rfl
   | true=>exact absurd (List.any_eq_true.mpr ⟨a,ha,e⟩) hn
theorem zl5{P:Tl->Prop}{l:List Tl}{t:Tl}(h:∀ u∈l,P u)(ht:P t):∀ u∈putT l t,P u:=by
 unfold putT
 split
 . intro u hu;obtain⟨v,hv,rfl⟩:=List.mem_map.mp hu
   split
   . exact ht
   . exact h v hv
 . intro u hu
   rcases List.mem_append.mp hu with hu | hu
   . exact h u hu
   . rw[List.mem_singleton.mp hu];exact ht
theorem zl4(l:List Tl)(t:Tl):(putT l t).length<=l.length+1:=by
 unfold putT
 split
 . rw[Ag];omega
 . simp
theorem zoW{st:Sto}{t:Nat}{l:List Tl}{x y k:Int}(h:st[t]?=some (.dt (l.map kvOf)))(hl:l.length<=1000):dput st t (.tup [.int x,.int y]) (.int k)=some (st.set t (.dt ((putT l (x,y,k)).map kvOf))):=by
 have h1:(l.map kvOf).length < sizeLine:=Cd (by rw[Ag];exact hl) (by decide);have e:=zn1 l (x,y,k);have e1:keysOf [.int x,.int y]=some (kvOf (x,y,k)).1:=rfl;have e2:D.int k=(kvOf (x,y,k)).2:=rfl;unfold dput;simp only[h,e1,Ac];rw[e2,e,if_pos (decide_eq_true h1)]
end L2.MP
namespace L2.MP.Hn
open PySem L2.MP
def zkJ(w h kn:Int)(t:Tl):Prop:=0<=t.1/\t.1 < w/\0<=t.2.1/\t.2.1 < h/\0<=t.2.2/\t.2.2 < kn
structure StandOk(w h kn:Int)(ts:List Tl):Prop where
 ok:∀ t∈ts,zkJ w h kn t
 nd:PlNd ts
 srt:(ts.map rowT).Pairwise fun a b=>tle a b=true
noncomputable def zdk(ts:List Tl):D:=.tup (ts.map fun t=>tupD (rowT t))
theorem zjF(l:List Tl):∃ l':List Tl,l'.Perm l/\l'.map rowT=zeC (l.map rowT):=by
 have hp:=zh5 (l.map rowT);have:∀ (rs:List (List Int)) (l:List Tl),rs.Perm (l.map rowT)->∃ l':List Tl,l'.Perm l/\l'.map rowT=rs:=by
   intro rs l h;refine⟨rs.map fun r=>(r.getD 0 0,r.getD 1 0,r.getD 2 0),?_,?_⟩
   . have:=h.map fun r:List Int=>((r.getD 0 0,r.getD 1 0,r.getD 2 0):Tl)
     rw[Bo] at this;have e:(fun r:List Int=>((r.getD 0 0,r.getD 1 0,r.getD 2 0):Tl)) ∘ rowT=id:=by funext t;rfl
     rw[e,D6] at this;exact this
   . rw[Bo]
     conv=>rhs;rw[<-D6 rs]
     apply Cy;intro r hr;obtain⟨t,_,rfl⟩:=List.mem_map.mp (h.mem_iff.mp hr);rfl
 exact this _ l hp
theorem zlA{w h kn:Int}{l:List Tl}(hl:∀ t∈l,zkJ w h kn t)(nd:PlNd l):∃ ts:List Tl,ts.Perm l/\ts.map rowT=zeC (l.map rowT)/\StandOk w h kn ts:=by
 obtain⟨ts,hp,e⟩:=zjF l;refine⟨ts,hp,e,fun t ht=>hl t (hp.mem_iff.mp ht),?_,by rw[e];exact zjG _⟩;exact (hp.pairwise_iff (fun {a b} q=>by rw[zdl];exact q)).mpr nd
structure SInv(n t:Nat)(w h kn:Int)(st0:Sto)(l:List Tl)(s:Sto):Prop where
 at_:s[t]?=some (.dt (l.map kvOf))
 ok:∀ u∈l,zkJ w h kn u
 nd:PlNd l
 pot:zbE n s
 fr:Fr n st0 s
theorem SInv.fr'{n t:Nat}{w h kn:Int}{st0:Sto}{l:List Tl}{s s':Sto}(q:SInv n t w h kn st0 l s)(ht:t≠n)(p:zbE n s')(g:Fr n s s'):SInv n t w h kn st0 l s':=⟨(g.old t (getElem?_lt q.at_) ht).trans q.at_,q.ok,q.nd,p,q.fr.trans g⟩
noncomputable abbrev srho (n:Nat) (hd:D) (w h most:Int) (t:Nat) (v:Option D):Rho:=[some (.ref n),some hd,some (.tup [.int w,.int h]),some (.int most),some (.ref t),v]
theorem zh0{n t:Nat}{w h most:Int}{a b:D}{ks:List D}{st0 s:Sto}{l:List Tl}{v:Option D}(q:SInv n t w h ks.length st0 l s)(ht:t≠n)(ht0:st0.length<=t)(hw:0 < w)(hw2:w<=1000)(hh:0 < h)(hh2:h<=1000)(hk:0 < ks.length)(hk2:ks.length < 100000)(hl:l.length<=1000) :
   ∃ (l':List Tl) (s':Sto),zbp (srho n (.tup [a,b,.tup ks]) w h most t v) s=some (.nx (srho n (.tup [a,b,.tup ks]) w h most t v),s')/\SInv n t w h ks.length st0 l' s'/\l'.length<=l.length+1:=by
 obtain⟨k,s1,e1,k0,k1,p1,f1,_⟩:=zbt (many:=ks.length) q.pot (by omega) (by omega);obtain⟨x,s2,e2,x0,x1,p2,f2,_⟩:=zbt (many:=w) p1 hw (by omega);obtain⟨y,s3,e3,y0,y1,p3,f3,_⟩:=zbt (many:=h) p2 hh (by omega);have q3:=q.fr' ht p3 ((f1.trans f2).trans f3);have ed:=zoW (x:=x) (y:=y) (k:=k) q3.at_ hl;have hlt:=getElem?_lt q3.at_;have ei2:∀ s:Sto,ixA (.tup [a,b,.tup ks]) (.int 2) s=some (.tup ks,s):=fun s=>zb8 (by decide) rfl;have ew:∀ s:Sto,ixA (.tup [.int w,.int h]) (.int 0) s=some (.int w,s):=fun s=>zb8 (by decide) rfl;have eh:∀ s:Sto,ixA (.tup [.int w,.int h]) (.int 1) s=some (.int h,s):=fun s=>zb8 (by decide) rfl;refine⟨putT l (x,y,k),s3.set t (.dt ((putT l (x,y,k)).map kvOf)),?_,⟨by simp[hlt],zl5 q3.ok ⟨x0,x1,y0,y1,k0,k1⟩,zn0 q3.nd,?_,⟨by have:=q3.fr.len;simpa using this,fun j hj nj=>by rw[AO (by omega)];exact q3.fr.old j hj nj⟩⟩,zl4 _ _⟩
 . unfold zbp;rw[zaW];have c1:mAsg (zaG zad (zab (mVar 0) (zab (zaG lenD (zab (mBin ixA (mVar 1) (mCon (.int 2))) (mNil))) (mNil)))) (gSb setD (mVar 4) (mTup (zab (zaG zad (zab (mVar 0) (zab (mBin ixA (mVar 2) (mCon (.int 0))) (mNil)))) (zab (zaG zad (zab (mVar 0) (zab (mBin ixA (mVar 2) (mCon (.int 1))) (mNil)))) (mNil))))) (srho n (.tup [a,b,.tup ks]) w h most t v) s=none:=by
     simp[srho,rho,zaV,za4,zaN,zaQ,zaz,zax,zaS,zaE,zaC,zat,zas,zaL,zaX,zaP,zaR,za3,zaK,zb5,zaw,za0,zbH,zaW,zb2,zb1,za2,zb6,ap_w,zbM,zaB,zau,zaM,zaY,zb4,zb3,za1,zaD,za5,zaZ,zam,zaU,zan,zao,zbg,zbs,zb0,zbZ,zbL,zbY,zbX,zbW,zbV,zbU,zbT,Ac,Ai,add_int,sub_int,ltD,leD,gtD,geD,cmpD,intC,rho0,ei2,ew,eh,zdv,e1,e2,e3,setD]
   rw[c1,zbs];unfold zpl;simp[srho,rho,zaV,za4,zaN,zaQ,zaz,zax,zaS,zaE,zaC,zat,zas,zaL,zaX,zaP,zaR,za3,zaK,zb5,zaw,za0,zbH,zaW,zb2,zb1,za2,zb6,ap_w,zbM,zaB,zau,zaM,zaY,zb4,zb3,za1,zaD,za5,zaZ,zam,zaU,zan,zao,zbg,zbs,zb0,zbZ,zbL,zbY,zbX,zbW,zbV,zbU,zbT,Ac,Ai,add_int,sub_int,ltD,leD,gtD,geD,cmpD,intC,rho0,ei2,ew,eh,zdv,e1,e2,e3,ed]
 . obtain⟨c,d,e,r⟩:=q3.pot;exact⟨c,d,by rw[AO ht];exact e,r⟩
theorem zef{n:Nat}{w h most:Int}{a b:D}{ks:List D}{st:Sto}(hp:zbE n st)(hw:0 < w)(hw2:w<=1000)(hh:0 < h)(hh2:h<=1000)(hk:0 < ks.length)(hk2:ks.length < 100000)(hm:0<=most)(hm2:most < 60) :
   ∃ (ts:List Tl) (st':Sto),za6 [.ref n,.tup [a,b,.tup ks],.tup [.int w,.int h],.int most] st=some (zdk ts,st')/\StandOk w h ks.length ts/\(ts.length:Int)<=most/\zbE n st'/\Fr n st st':=by
 have ht:st.length≠n:=AQ hp.lt;have p0:=hp.gr (Gr.app st [.dt []]);obtain⟨r,s1,e1,r0,r1,p1,f1,_⟩:=zbt (many:=most+1) p0 (by omega) (by omega);have at1:s1[st.length]?=some (.dt (([]:List Tl).map kvOf)):=(f1.old _ (by simp) ht).trans (za9 st _);have key:=zdY (W:=⟨run 0 r.toNat,[]⟩) (g:=gNm 5) (m:=zbp) (ds:=run 0 r.toNat) (ρ:=srho n (.tup [a,b,.tup ks]) w h most st.length none) (st:=s1)
   (Inv:=fun k ρ s=>∃ (l:List Tl) (v:Option D),ρ=srho n (.tup [a,b,.tup ks]) w h most st.length v/\l.length<=k/\SInv n st.length w h ks.length st l s)
   ⟨[],none,rfl,Af _,⟨at1,by simp,Dp,p1,(Fr.app _ _ _).trans f1⟩⟩ (fun _ _ _ _ _=>rfl) (fun k d ρ s hd hI=>by
     obtain⟨l,v,rfl,hl,q⟩:=hI;have hkl:k < (run 0 r.toNat).length:=getElem?_lt hd;rw[zcU] at hkl;obtain⟨l',s',e,q',hl'⟩:=zh0 (most:=most) (a:=a) (b:=b) (v:=some d) q ht (Af _) hw hw2 hh hh2 hk hk2 (by omega);exact⟨_,s,_,s',rfl,e,l',some d,rfl,by omega,q'⟩)
 obtain⟨ρ',s2,e2,l,v,rfl,hl,q⟩:=key;rw[zcU] at hl;have hlt:=getElem?_lt q.at_;have ewk:znm (.ref st.length) s2=some (⟨zdp (l.map kvOf),[]⟩,s2.set st.length (.ft (l.map kvOf))):=by
   unfold znm;simp only[q.at_]
 generalize hs3:s2.set st.length (.ft (l.map kvOf))=s3 at ewk;have fr3:Fr n st s3:=by
   rw[<-hs3];exact⟨by have:=q.fr.len;simpa using this,fun j hj nj=>by rw[AO (by omega)];exact q.fr.old j hj nj⟩
 have p3:zbE n s3:=by
   obtain⟨c,d,e,r⟩:=q.pot;exact⟨c,d,by rw[<-hs3,AO ht];exact e,r⟩
 have eit:zdp (l.map kvOf)=l.map fun t=>D.tup [.tup [.int t.1,.int t.2.1],.int t.2.2]:=by
   unfold zdp;rw[Bo];rfl
 have ec:mCI ⟨zdp (l.map kvOf),[]⟩ (gTp 2 (gC (gNm 0) (gC (gNm 1) (gN0)))) zc6 zbK (zdp (l.map kvOf)) [none,none] s3=some (l.map fun t=>tupD (rowT t),s3):=by
   rw[eit];refine zjg (R:=fun ρ=>∃ x y,ρ=[x,y]) ⟨none,none,rfl⟩ rfl fun t ht ρ hρ=>?_;obtain⟨x,y,rfl⟩:=hρ;refine⟨[some (.tup [.int t.1,.int t.2.1]),some (.int t.2.2)],by simp[rho,zaV,za4,zaN,zaQ,zaz,zax,zaS,zaE,zaC,zat,zas,zaL,zaX,zaP,zaR,za3,zaK,zb5,zaw,za0,zbH,zaW,zb2,zb1,za2,zb6,ap_w,zbM,zaB,zau,zaM,zaY,zb4,zb3,za1,zaD,za5,zaZ,zam,zaU,zan,zao,zbg,zbs,zb0,zbZ,zbL,zbY,zbX,zbW,zbV,zbU,zbT,Ac,Ai,add_int,sub_int,ltD,leD,gtD,geD,cmpD,intC,rho0],rfl,?_,⟨_,_,rfl⟩⟩;unfold zbK;have ea:addD (.tup [.int t.1,.int t.2.1]) (.tup [.int t.2.2]) s3=some (.tup [.int t.1,.int t.2.1,.int t.2.2],s3):=zg6 (by simp) (by simp);simp[rho,zaV,za4,zaN,zaQ,zaz,zax,zaS,zaE,zaC,zat,zas,zaL,zaX,zaP,zaR,za3,zaK,zb5,zaw,za0,zbH,zaW,zb2,zb1,za2,zb6,ap_w,zbM,zaB,zau,zaM,zaY,zb4,zb3,za1,zaD,za5,zaZ,zam,zaU,zan,zao,zbg,zbs,zb0,zbZ,zbL,zbY,zbX,zbW,zbV,zbU,zbT,Ac,Ai,add_int,sub_int,ltD,leD,gtD,geD,cmpD,intC,rho0,ea,tupD,rowT]
 have fl:fits l.length=true:=zaT (by omega);have es:=zh4 (st:=s3++[.lst ((l.map rowT).map tupD)]) (rows:=l.map rowT) (za9 s3 _) (fun r hr=>by obtain⟨t,_,rfl⟩:=List.mem_map.mp hr;simp[rowT]) (by rw[Ag];omega);obtain⟨ts,hperm,hts,hok⟩:=zlA q.ok q.nd;have es':zcT [.ref s3.length] (s3++[.lst (l.map fun t=>tupD (rowT t))])=some (.ref (s3++[O.lst (l.map fun t=>tupD (rowT t))]).length,(s3++[.lst (l.map fun t=>tupD (rowT t))])++[.lst (ts.map fun t=>tupD (rowT t))]):=by
   have q:=es;rw[<-hts] at q;simp only[Bo] at q;exact q
 generalize hs4:s3++[O.lst (l.map fun t=>tupD (rowT t))]=s4 at es';have g4:Gr s3 s4:=by rw[<-hs4];exact Gr.app _ _
 have et:=zdF (za9 s4 (.lst (ts.map fun t=>tupD (rowT t))));refine⟨ts,s4++[.lst (ts.map fun t=>tupD (rowT t))],zcS ?_,hok,by rw[hperm.length_eq];omega,(p3.gr g4).gr (Gr.app _ _),(fr3.trans (g4.fr n)).trans (Fr.app _ _ _)⟩;unfold zcM zdk;refine zaH (ρ1:=srho n (.tup [a,b,.tup ks]) w h most st.length none) (s1:=st++[.dt []]) (by simp[srho,rho,zaV,za4,zaN,zaQ,zaz,zax,zaS,zaE,zaC,zat,zas,zaL,zaX,zaP,zaR,za3,zaK,zb5,zaw,za0,zbH,zaW,zb2,zb1,za2,zb6,ap_w,zbM,zaB,zau,zaM,zaY,zb4,zb3,za1,zaD,za5,zaZ,zam,zaU,zan,zao,zbg,zbs,zb0,zbZ,zbL,zbY,zbX,zbW,zbV,zbU,zbT,Ac,Ai,add_int,sub_int,ltD,leD,gtD,geD,cmpD,intC,rho0]) ?_;have sr:small r=true:=zcy (by omega) (by omega);refine zaH (ρ1:=srho n (.tup [a,b,.tup ks]) w h most st.length v) (s1:=s2) (by simp[srho,rho,zaV,za4,zaN,zaQ,zaz,zax,zaS,zaE,zaC,zat,zas,zaL,zaX,zaP,zaR,za3,zaK,zb5,zaw,za0,zbH,zaW,zb2,zb1,za2,zb6,ap_w,zbM,zaB,zau,zaM,zaY,zb4,zb3,za1,zaD,za5,zaZ,zam,zaU,zan,zao,zbg,zbs,zb0,zbZ,zbL,zbY,zbX,zbW,zbV,zbU,zbT,Ac,Ai,add_int,sub_int,ltD,leD,gtD,geD,cmpD,intC,rho0,e1,sr];exact e2) ?_;simp[srho,rho,zaV,za4,zaN,zaQ,zaz,zax,zaS,zaE,zaC,zat,zas,zaL,zaX,zaP,zaR,za3,zaK,zb5,zaw,za0,zbH,zaW,zb2,zb1,za2,zb6,ap_w,zbM,zaB,zau,zaM,zaY,zb4,zb3,za1,zaD,za5,zaZ,zam,zaU,zan,zao,zbg,zbs,zb0,zbZ,zbL,zbY,zbX,zbW,zbV,zbU,zbT,Ac,Ai,add_int,sub_int,ltD,leD,gtD,geD,cmpD,intC,rho0,ewk,ec,fl,hs4,es',et]
structure Bed where
 ho:House
 w:Int
 h:Int
 ts:List Tl
noncomputable def Bed.d(b:Bed):D:=.tup [b.ho.d,.tup [.int b.w,.int b.h],zdk b.ts]
structure Bed.Ok(b:Bed)(most:Int):Prop where
 ho:b.ho.Ok most
 w0:1<=b.w
 w1:b.w<=12
 h0:1<=b.h
 h1:b.h<=12
 ts:StandOk b.w b.h b.ho.kinds.length b.ts
 len:b.ts.length<=6
theorem zqZ{n:Nat}{st:Sto}{most:Int}(hp:zbE n st)(h0:1<=most)(h1:most<=500):∃ (b:Bed) (st':Sto),zcQ [.ref n,.int most] st=some (b.d,st')/\b.Ok most/\zbE n st'/\Fr n st st':=by
 obtain⟨ho,s1,e1,hok,p1,f1⟩:=zmI hp h0 h1;obtain⟨w,h,s2,e2,w0,w1,hh0,hh1,p2,f2⟩:=zmO p1;obtain⟨d,s3,e3,hd,p3,f3⟩:=zhw [.int 1,.int 1,.int 3,.int 6] p2 (by decide) (by decide);obtain⟨m,rfl,hm1,hm6⟩:∃ m:Int,d=.int m/\1<=m/\m<=6:=by
   simp at hd
   rcases hd with rfl | rfl | rfl <;> exact⟨_,rfl,by decide,by decide⟩
 have k0:=hok.k0;have k1:=hok.k1;obtain⟨ts,s4,e4,t4,l4,p4,f4⟩:=zef (w:=w) (h:=h) (most:=m) (a:=.int ho.e) (b:=.tup (ho.sticks.map zcx)) (ks:=ho.kinds.map zdC) p3 (by omega) (by omega) (by omega) (by omega) (by simpa using k0) (by rw[Ag];omega) (by omega) (by omega);rw[Ag] at t4;refine⟨⟨ho,w,h,ts⟩,s4,zcS ?_,⟨hok,w0,w1,hh0,hh1,t4,by show ts.length<=6;omega⟩,p4,((f1.trans f2).trans f3).trans f4⟩;unfold zes Bed.d;refine zaH (ρ1:=[some (.ref n),some (.int most),some ho.d,some (.tup [.int w,.int h])]) (s1:=s2) (by simp[rho,zaV,za4,zaN,zaQ,zaz,zax,zaS,zaE,zaC,zat,zas,zaL,zaX,zaP,zaR,za3,zaK,zb5,zaw,za0,zbH,zaW,zb2,zb1,za2,zb6,ap_w,zbM,zaB,zau,zaM,zaY,zb4,zb3,za1,zaD,za5,zaZ,zam,zaU,zan,zao,zbg,zbs,zb0,zbZ,zbL,zbY,zbX,zbW,zbV,zbU,zbT,Ac,Ai,add_int,sub_int,ltD,leD,gtD,geD,cmpD,intC,rho0,e1,e2]) ?_;have e4':za6 [.ref n,ho.d,.tup [.int w,.int h],.int m] s3=some (zdk ts,s4):=e4;simp[rho,zaV,za4,zaN,zaQ,zaz,zax,zaS,zaE,zaC,zat,zas,zaL,zaX,zaP,zaR,za3,zaK,zb5,zaw,za0,zbH,zaW,zb2,zb1,za2,zb6,ap_w,zbM,zaB,zau,zaM,zaY,zb4,zb3,za1,zaD,za5,zaZ,zam,zaU,zan,zao,zbg,zbs,zb0,zbZ,zbL,zbY,zbX,zbW,zbV,zbU,zbT,Ac,Ai,add_int,sub_int,ltD,leD,gtD,geD,cmpD,intC,rho0,e3,e4']
end L2.MP.Hn
namespace L2.MP
open PySem PySem.Spec PyProof.Rows
end L2.MP
namespace L2.MP
open PySem
end L2.MP
namespace L2.MP.Hn
open PySem L2.MP
end L2.MP.Hn
namespace L2.MP
open PySem PySem.Spec PyProof.Rows
section
end
section
variable {X:Cx} {K:Ae} {H:Hp} {io:List Addr} {m:ME} {st st':Sto}
end
section
variable {X:Cx} {K:Ae} {H:Hp} {io:List Addr} {m ma mb mc:ME} {st st':Sto} {a b c:Expr} {pos:Pos}
noncomputable def zgi(g g':G2)(ma mb mc:ME):ME:=fun ρ st=>(ma ρ st).bind fun (x,s1)=>(mb ρ s1).bind fun (y,s2)=>(g x y s2).bind fun (z,s3)=>match z with
 | .bl q=>if q=true then (mc ρ s3).bind fun (w,s4)=>g' y w s4 else some (.bl false,s3)
 | _=>none
theorem zhC{g g':G2}{σ:L2.St}{H:Hp}{Q:VK}(h:tE K (zgi g g' ma mb mc) σ H Q):znu (r2M K g) (r2M K g') (tE K ma) (tE K mb) (tE K mc) σ H Q:=by
 obtain⟨ρ,st,io,d,st',E,S,e,k⟩:=h;obtain⟨⟨x,s1⟩,e1,e⟩:=zag e;obtain⟨⟨y,s2⟩,e2,e⟩:=zag e;obtain⟨⟨z,s3⟩,e3,e⟩:=zag e;refine⟨ρ,st,io,x,s1,E,S,e1,fun v1 H1 k1 X1 S1 R1=>?_⟩;refine⟨ρ,s1,io++k1,y,s2,E.ext S X1,S1,e2,fun v2 H2 k2 X2 S2 R2=>?_⟩;refine⟨x,y,s2,(io++k1)++k2,z,s3,R1.ext S1 X2,R2,S2,e3,fun v3 H3 k3 X3 S3 R3=>?_⟩;have k':=((k.on S1 X1).on S2 X2).on S3 X3;dsimp only at e
 split at e
 . rename_i q;refine⟨q,R3,?_⟩
   cases q with
   | true =>
     rw[if_pos rfl] at e ⊢;obtain⟨⟨w,s4⟩,e4,e5⟩:=zag e;refine⟨ρ,s3,((io++k1)++k2)++k3,w,s4,((E.ext S X1).ext S1 X2).ext S2 X3,S3,e4,fun v4 H4 k4 X4 S4 R4=>?_⟩;exact⟨y,w,s4,(((io++k1)++k2)++k3)++k4,d,st',(R2.ext S2 X3).ext S3 X4,R4,S4,e5,k'.on S4 X4⟩
   | false =>
     rw[if_neg Br] at e ⊢;cases e;exact Bh.now k' S3 rfl
 . cases e
theorem zif{op op':CmpOp}{g g':G2}(ho:OpM X (compareOp op) g)(ho':OpM X (compareOp op') g')(ha:SE X a ma)(hb:SE X b mb)(hc:SE X c mc)(hm:lastMarks [op,op'] [b,c]=false:=by with_unfolding_all rfl) :
   SE X (.Compare a [op,op'] [b,c] pos) (zgi g g' ma mb mc):=PE.imp (zme ho ho' ha hb hc hm) fun _ _ _ h=>zhC h
end
section
variable {X:Cx} {K:Ae} {H:Hp} {io:List Addr} {m mk:ME} {st st':Sto} {e se:Expr} {te:TE} {ts:TO} {p2 pos:Pos}
noncomputable def tRev(K:Ae)(te:TE)(ts:TO):TE:=fun σ H Q=>te σ H fun x H1=>ts σ H1 fun k H2=>k=some (-1)/\∃ a xs,x=.ref a/\SqL K H2 a xs/\∀ p,H2 p=none->Q (.ref p) (upd H2 p (.lst xs.reverse))
theorem zgv{x:V}{u:Value}:∀ {xs:List V} {us:List Value},Vals xs us->RelV x u->Vals (xs++[x]) (us++[u])
 | [],_,.nil,r=>.cons r .nil
 | y::xs,_,.cons z t,r=>.cons z (zgv t r)
theorem zfS:∀ {xs:List V} {us:List Value},Vals xs us->Vals xs.reverse us.reverse
 | [],_,.nil=>.nil
 | x::xs,_,.cons r t=>by
   rw[Dq,Dq];exact zgv (zfS t) r
theorem zqe(he:PE X e te)(hs:PO X (some se) ts):PE X (.Subscript e (.Slice none none (some se) p2) pos) (tRev X.K te ts):=by
 intro pins s σ H Q I h;refine DL (thn (he pins s σ H _ I h) ?_);rintro v s1 ⟨x,H1,I1,r1,q1⟩;refine Fi ?_;rw[Dz];refine Ab (Ab ?_);refine thn (hs pins s1 σ H1 _ I1 q1) ?_;rintro vs s3 ⟨k,H3,I3,pk,hk,a,xs,hx,hq,q3⟩;subst hk;subst hx;cases r1;have I4:Inv X pins σ H3 { s3 with heap:=s3.heap.push { cls:=.type "slice",data:=.fields #[.none,.none,vs] } }:=I3.kept (t':=s3.toks) fun b ob q=>Ad _ q;obtain⟨its,r,ht,hz⟩:=I4.list hq;have hlen:=r.length;show wpAny (model X.prog X.w) X.A (subscriptTail e (.Slice none none (some se) p2) (.ref a) (.ref s3.heap.objs.size)) (EP X pins σ Q) X.xe { s3 with heap:=s3.heap.push { cls:=.type "slice",data:=.fields #[.none,.none,vs] } };refine FL (ops:=[.ref a,.ref s3.heap.objs.size]) ht.isList.typeIs slot_list_getitem.lookup ?_ (by with_unfolding_all rfl);refine ED ht.isList (C7 ..) .none .none pk (by simp) ?_ (by rw[Ao] <;> omega);rw[PySem.W.krv_pick];refine⟨.ref (s3.heap.push { cls:=.type "slice",data:=.fields #[.none,.none,vs] }).objs.size,_,I4.laid (t':=s3.toks) (o:=.lst xs.reverse) (fun b ob q=>Ad _ q) (Af _) ?_,rfl,q3 _ (I4.hok.fresh (Af _))⟩;exact⟨by rw[B5];exact hz,_,0,zfS r,Al _ rfl⟩
noncomputable def mRev(m mk:ME):ME:=fun ρ st=>(m ρ st).bind fun (x,s1)=>(mk ρ s1).bind fun (k,s2)=>match x,k with
 | .ref n,.int i=>if (decide (i=-1))=true then (zca s2 n).map fun ds=>(.ref s2.length,s2++[.lst ds.reverse]) else none
 | _,_=>none
theorem zgG:∀ {xs:List V} {ds:List D} {x:V} {d:D},Reps K H io xs ds->Rep K H io x d->Reps K H io (xs++[x]) (ds++[d])
 | _,[],x,d,h,r=>by
   cases (show _=[] from h)
   exact⟨x,[],rfl,r,rfl⟩
 | _,e::ds,x,d,h,r=>by
   obtain⟨y,ys,rfl,h1,h2⟩:=h;exact⟨y,ys++[x],rfl,h1,zgG h2 r⟩
theorem zf7:∀ {ds:List D} {xs:List V},Reps K H io xs ds->Reps K H io xs.reverse ds.reverse
 | [],xs,h=>by
   cases (show xs=[] from h)
   exact rfl
 | d::ds,xs,h=>by
   obtain⟨y,ys,rfl,h1,h2⟩:=h;rw[Dq,Dq];exact zgG (zf7 h2) h1
theorem zpK(he:SE X e m)(hk:SE X se mk):SE X (.Subscript e (.Slice none none (some se) p2) pos) (mRev m mk) :=
 PE.imp (zqe he (zgH hk)) <| by
   rintro σ H Q ⟨ρ,st,io,d,st',E,S,e,k⟩;obtain⟨⟨x,s1⟩,e1,e⟩:=zag e;obtain⟨⟨y,s2⟩,e2,e⟩:=zag e;refine⟨ρ,st,io,x,s1,E,S,e1,fun v1 H1 k1 X1 S1 R1=>?_⟩;refine⟨ρ,s1,io++k1,y,s2,E.ext S X1,S1,e2,fun v2 H2 k2 X2 S2 R2=>?_⟩;dsimp only at e
   split at e
   . rename_i n i;obtain⟨hi,e⟩:=zav e;obtain⟨ds,e3,e⟩:=zaj e;cases e;obtain⟨p,rfl,hp⟩:=R1.ext S1 X2;obtain⟨ys,hx,r1⟩:=zbf S2 hp e3
     cases (of_decide_eq_true hi)
     refine⟨_,R2,rfl,p,ys,rfl,hx,fun l hl=>?_⟩;exact ((k.on S1 X1).on S2 X2).lst S2 (zf7 r1) hl
   . cases e
end
noncomputable def Itw(n:Nat)(f:Nat->Option V):It:=⟨fun i _=>i < n,fun i H v H'=>H'=H/\f i=some v,fun i _=>n<=i⟩
noncomputable def ziQ:List String:=["enumerate","zip","dict_itemiterator","dict_reverseitemiterator","odict_iterator","itertools.zip_longest","itertools.pairwise"]
theorem zhR{P:Program}{w:World}{K:Ae}{tg:Expr}(it:Addr)(n:Nat)(f:Nat->Option V){R:Nat->Value->Prop}{T:Nat->Heap->Prop}(W:∀ A:Around,A.handled=none->Walks P w A it [it] [it] n R T)
   (hr:∀ i v,R i v->∃ x,f i=some x/\RelV x v) (hob:∀ i h,T i h->∃ o nm vs,h.get? it=some o/\o.cls=.type nm/\o.data=.fields vs/\ziQ.contains nm=false)
   (hself:∀ (A:Around) (i:Nat) (s:Shared) (Q:Value->Shared->Prop) (E:Value->Shared->Prop),T i s.heap->Q (.ref it) s->wpAny (model P w) A (pyIter (.ref it)) Q E s) :
   Turn P w K tg (Itw n f) [it] it (fun i h=>i<=n/\T i h) where
 mem:=by simp
 obj:=fun i h st b hb=>by
   have e:b=it:=by simpa using hb
   subst e;obtain⟨o,nm,vs,e,c,d,_⟩:=hob i h st.2;exact⟨o,e,fun v z=>by rw[d] at z;cases z⟩
 keep:=fun i h h' st k=>⟨st.1,(W {} rfl).frame i h h' st.2 k⟩
 item:=by
   intro X hP hw hK hc i pins s σ H E I hf st hg;subst hP hw hK;obtain⟨f0,f1,f2,f3,f4,f5⟩:=hf it (by simp);refine (W X.A (I.ok.hd hc)).item i s _ _ hg st.2 fun v h' tk hv st' kk=>?_;obtain⟨x,hx,rx⟩:=hr i v hv;have I1:Inv X pins σ H { s with heap:=h',toks:=tk }:=I.turned (fun b o hb e=>kk b o (by simpa using hb) e) f0 f1 f3 f4 f5;obtain⟨o,nm,vs,e,c,d,hn⟩:=hob (i+1) h' st';exact⟨_,rfl,zpo (s:={ s with heap:=h',toks:=tk }) e c d hn ⟨x,H,I1,rx,⟨rfl,hx⟩,⟨hg,st'⟩,fun b hb=>(hf b hb).1⟩⟩
 done:=by
   intro X hP hw hK hc i pins s σ H E I hf st hg;subst hP hw hK;obtain⟨f0,f1,f2,f3,f4,f5⟩:=hf it (by simp);have e:i=n:=Nat.le_antisymm st.1 hg;subst e;exact (W X.A (I.ok.hd hc)).done s _ _ st.2 fun h' tk kk=>⟨rfl,I.turned (fun b o hb e=>kk b o (by simpa using hb) e) f0 f1 f3 f4 f5⟩
 self:=fun A i s Q E st h=>hself A i s Q E st.2 h
theorem zqJ{K:Ae}{H:Hp}{io:List Addr}{ds:List D}{n:Nat}{f:Nat->Option V}(hn:n=ds.length)(hf:∀ i d,ds[i]?=some d->∃ v,f i=some v/\∀ H io,Rep K H io v d):ItOk K H io ⟨ds,[]⟩ (Itw n f) where
 go:=fun i d H1 k1 s hd X1 S1 hs=>by
   have hi:i < ds.length:=(List.getElem?_eq_some_iff.mp hd).1;refine⟨by show i < n;omega,fun x H' y=>?_⟩;obtain⟨rfl,y⟩:=y;obtain⟨v,hv,rv⟩:=hf i d hd;rw[hv] at y;cases y;exact⟨Ext.refl,S1,rv _ _⟩
 stop:=fun H1 k1 s X1 S1 hs=>by show n<=ds.length;omega
 stop':=fun H1 k1 s i hi X1 S1 hs=>by
   show n<=i;have hi:ds.length<=i:=hi;omega
section
variable {X:Cx} {K:Ae} {H:Hp} {io:List Addr} {st st':Sto} {a b c e:Expr} {es:List Expr} {ma mb mc m:ME} {mm:MA} {mt:MT} {ms:MS} {pos:Pos} {tg:Expr} {body:List Stmt}
noncomputable def signs(z:Str):List D:=z.cps.toList.map fun c=>D.str ⟨#[c]⟩
noncomputable def zng(z:Str)(i:Nat):Option V:=z.cps[i]?.map fun c=>V.str ⟨#[c]⟩
theorem zjt{P:Program}{w:World}{A:Around}(hh:A.handled=none)(I:Addr)(x:Str)(t:Tok):Walks P w A I [I] [I] x.cps.size (SignAt x) (fun i h=>h.IsStrIter I (strIterType x) x t i):=by
 unfold strIterType
 cases x.cps.all (· < 128)
 . exact Walks.strWide hh I x t
 . exact Walks.strAscii hh I x t
theorem zlv{P:Program}{w:World}{K:Ae}{tg:Expr}(it:Addr)(x:Str)(t:Tok):Turn P w K tg (Itw x.cps.size (zng x)) [it] it (fun i h=>i<=x.cps.size/\h.IsStrIter it (strIterType x) x t i) :=
 zhR it x.cps.size (zng x) (fun A hA=>zjt hA it x t) (fun i v ⟨c,u,hc,hv⟩=>⟨.str ⟨#[c]⟩,by unfold zng;rw[hc];rfl,u,hv⟩)
   (fun i h ⟨o,e,c,d⟩=>⟨o,_,_,e,c,d,by unfold strIterType;split <;> decide⟩) fun A i s Q E st h=>by
     unfold strIterType at st
     split at st
     . exact wpAny_pyIter_striter_ascii st h
     . exact wpAny_pyIter_striter_wide st h
noncomputable def iStr(tl:TE):TI:=fun σ H R=>tl σ H fun x H1=>∃ z,x=.str z/\R (Itw z.cps.size (zng z)) H1
theorem zp9{l:Expr}{tl:TE}(hl:PE X l tl):PI X tg l (iStr tl):=by
 intro pins s σ H R I h;refine thn (hl pins s σ H _ I h) ?_;rintro v s1 ⟨x,H1,I1,r1,q1⟩;obtain⟨z,e,q⟩:=q1;subst e;obtain⟨t,rfl⟩:=r1;refine wpAny_pyIter_strU ?_;refine⟨s1.heap.objs.size,[s1.heap.objs.size],_,_,H1,rfl,I1.kept (t':=s1.toks) fun b o e=>Ad _ e,zlv _ z t,⟨AZ _,_,Al _ rfl,rfl,rfl⟩,fun b hb=>?_,q⟩;have e:b=s1.heap.objs.size:=by simpa using hb
 subst e;exact I1.fpOk (Af _) (I1.hok.fresh (Af _))
theorem signs_get{z:Str}{i:Nat}{d:D}(h:(signs z)[i]?=some d):∃ v,zng z i=some v/\∀ H io,Rep K H io v d:=by
 unfold signs at h;rw[AA] at h;obtain⟨c,hc,e⟩:=zaj h;subst e;refine⟨.str ⟨#[c]⟩,?_,fun H io=>rfl⟩;unfold zng;rw[Az] at hc;rw[hc];rfl
theorem zjK(z:Str):z.cps.size=(signs z).length:=by unfold signs;rw[Ag,Au]
noncomputable def mWS(m:ME):MI:=fun ρ st=>(m ρ st).bind fun (d,s)=>match d with
 | .str z=>some (⟨signs z,[]⟩,s)
 | _=>none
theorem zpI{l:Expr}(hl:SE X l m):SI X tg l (mWS m):=PI.imp (zp9 hl) <| by
 rintro σ H R ⟨ρ,st,io,W,st',E,S,e,k⟩;obtain⟨⟨d,s1⟩,e1,e⟩:=zag e;dsimp only at e
 split at e
 . rename_i z;cases e;refine⟨ρ,st,io,_,_,E,S,e1,fun v H1 k1 X1 S1 R1=>?_⟩;exact⟨z,R1,k _ H1 k1 X1 S1 (zqJ (zjK z) fun i d h=>signs_get h)⟩
 . cases e
noncomputable def mWA(m:ME):MI:=fun ρ st=>(m ρ st).bind fun (d,s)=>orO (zlq d s) (match d with | .str z=>some (⟨signs z,[]⟩,s) | _=>none)
theorem zdS{l:Expr}(hl:SE X l m):SI X tg l (mWA m):=by
 rintro pins s σ H R I ⟨ρ,st,io,W,st',E,S,e0,k⟩;obtain⟨⟨d,s1⟩,e1,e0⟩:=zag e0
 rcases zb7 e0 with e0 | e0
 . exact zkV hl pins s σ H R I ⟨ρ,st,io,W,st',E,S,by unfold mW;rw[e1];exact e0,k⟩
 . exact zpI hl pins s σ H R I ⟨ρ,st,io,W,st',E,S,by unfold mWS;rw[e1];exact e0,k⟩
end
section
variable {X:Cx} {K:Ae} {H:Hp} {io:List Addr} {st st':Sto} {a b c e:Expr} {es:List Expr} {ma mb mc m:ME} {mm:MA} {mt:MT} {ms:MS} {pos:Pos} {tg:Expr} {body:List Stmt}
noncomputable def zmt:GN
 | [.str z],st=>if fits z.cps.size=true then some (.ref st.length,st++[.lst (signs z)]) else none
 | _,_=>none
theorem zh8{z:Str}{acc:Array Value}(h:ItemsOf (SignAt z) acc z.cps.size):Vals (z.cps.toList.map fun c=>V.str ⟨#[c]⟩) acc.toList:=by
 have aux:∀ (l:List Nat) (vs:List Value),vs.length=l.length->(∀ (j:Nat) (v:Value),vs[j]?=some v->∃ (c:Nat) (u:Tok),l[j]?=some c/\v=ET ⟨#[c]⟩ u)->Vals (l.map fun c=>V.str ⟨#[c]⟩) vs:=by
   intro l
   induction l with
   | nil=>intro vs hl _;cases (B1 hl);exact .nil
   | cons c l ih =>
     intro vs hl hv
     cases vs with
     | nil=>simp at hl
     | cons v vs =>
       obtain⟨c',u,hc,rfl⟩:=hv 0 v rfl
       cases (show c=c' by simpa using hc)
       exact .cons ⟨u,rfl⟩ (ih vs (by simpa using hl) fun j v h=>by simpa using hv (j+1) v (by simpa using h))
 refine aux _ _ (by rw[Au,h.1,Au]) fun j v hj=>?_;obtain⟨c,u,hc,hv⟩:=h.2 j v (by rw[<-Az];exact hj);exact⟨c,u,by rw[Az];exact hc,hv⟩
theorem zh9(z:Str):Reps K H io (z.cps.toList.map fun c=>V.str ⟨#[c]⟩) (signs z):=by
 unfold signs;generalize z.cps.toList=l
 induction l with
 | nil=>exact rfl
 | cons c l ih=>exact Reps.cons rfl ih
theorem zhE(hc:X.calm=true):zd8 X (.type "list") zmt:=by
 rintro pins s σ H xs us Q I r ⟨ds,st,io,d,st',R,S,e,k⟩;unfold zmt at e
 split at e
 . rename_i z;obtain⟨hf,e⟩:=zav e;cases e;obtain⟨v,rfl,rfl⟩:=R.one;obtain⟨u,rfl,ru⟩:=r.one;obtain⟨t,rfl⟩:=ru;have hz:z.cps.size<=sizeLine:=of_decide_eq_true hf;refine call_list_str (hn:=hz) (I.ok.hd hc) z t fun h' tk acc c' hk hat hacc=>?_;refine⟨.ref s.heap.objs.size,upd H s.heap.objs.size (.lst (z.cps.toList.map fun c=>V.str ⟨#[c]⟩)),I.laid (t':=tk) (fun b o q=>hk b o q) (Af _) ⟨by rw[Ag,Au];exact hz,acc.toList,c',zh8 hacc,by simpa using hat⟩,rfl,?_⟩;exact k.lst S (zh9 z) (I.hok.fresh (Af _))
 . cases e
noncomputable def zqD:GN:=orN zqC zmt
theorem zjm(hc:X.calm=true):zd8 X (.type "list") zqD:=ze9 zjk (zhE hc)
noncomputable def slK:D->Option Int->Option Int->Sto->Option (D×Sto):=fun x lo hi st=>match x with
 | .kl ds=>some (.ref st.length,st++[.lst (cutD ds lo hi)])
 | _=>none
noncomputable def slB:D->Option Int->Option Int->Sto->Option (D×Sto):=fun x lo hi st=>orO (slA x lo hi st) (slK x lo hi st)
noncomputable def mSlB(m:ME)(l h:MO):ME:=fun ρ st=>(m ρ st).bind fun (x,s1)=>(l ρ s1).bind fun (lo,s2)=>(h ρ s2).bind fun (hi,s3)=>slB x lo hi s3
theorem zjS{lo hi:Option Expr}{ml mh:MO}{p2:Pos}(he:SE X e m)(hl:SO X lo ml)(hu:SO X hi mh):SE X (.Subscript e (.Slice lo hi none p2) pos) (mSlB m ml mh):=by
 rintro pins s σ H Q I ⟨ρ,st,io,d,st',E,S,e0,k⟩;obtain⟨⟨x,s1⟩,e1,e0⟩:=zag e0;obtain⟨⟨lo',s2⟩,e2,e0⟩:=zag e0;obtain⟨⟨hi',s3⟩,e3,e0⟩:=zag e0
 rcases zb7 e0 with e0 | e0
 . exact zdH he hl hu pins s σ H Q I ⟨ρ,st,io,d,st',E,S,by simp only[mSlA,e1,e2,e3,Ac];exact e0,k⟩
 . refine zeP zkS he hl hu pins s σ H Q I ?_;refine⟨ρ,st,io,x,s1,E,S,e1,fun v1 H1 k1 X1 S1 R1=>⟨ρ,s1,io++k1,lo',s2,E.ext S X1,S1,e2,fun H2 k2 X2 S2=>⟨ρ,s2,(io++k1)++k2,hi',s3,(E.ext S X1).ext S1 X2,S2,e3,fun H3 k3 X3 S3=>?_⟩⟩⟩;have R3:=(R1.ext S1 X2).ext S2 X3;have k':=((k.on S1 X1).on S2 X2).on S3 X3
   cases x with
   | kl ds =>
     cases e0;obtain⟨p,xs,rfl,hx,r⟩:=R3;exact⟨p,xs,rfl,hx.sq,fun q hq=>k'.lst S3 (zjb r _ _) hq⟩
   | _=>cases e0
end
end L2.MP
namespace PySem.F
end PySem.F
namespace PySem
open Builtin
end PySem
namespace L2.MP
open PySem PySem.Spec PyProof.Rows
section
variable {X:Cx} {K:Ae} {H:Hp} {io:List Addr} {m mk:ME} {st st':Sto} {e se:Expr} {te:TE} {ts:TO} {p2 pos:Pos}
noncomputable def revT(z:Str):Str:=⟨z.cps.toList.reverse.toArray⟩
theorem zlZ(z:Str):(revT z).length=z.length:=by
 show (z.cps.toList.reverse.toArray).size=z.cps.size;simp
theorem picked_rev(z:Str)(t:Tok):slicePicked z none none (some (-1,t))=(AX z.length).reverse:=by
 unfold slicePicked Ea;have h:¬ ((Option.map (fun x:Int×Tok=>x.1) (some (-1,t))).getD 1 > 0):=by show ¬ ((-1:Int) > 0);decide
 simp only[h,if_false,Option.map_none];show sliceRange ((z.length:Int) - 1) (-1) (-1)=_;rw[PySem.W.krv_sliceRange,Gy]
noncomputable def zrq(te:TE)(ts:TO):TE:=fun σ H Q=>te σ H fun x H1=>ts σ H1 fun k H2=>k=some (-1)/\∃ z,x=.str z/\z.length<=sizeLine/\Q (.str (revT z)) H2
theorem zof(he:PE X e te)(hs:PO X (some se) ts):PE X (.Subscript e (.Slice none none (some se) p2) pos) (zrq te ts):=by
 intro pins s σ H Q I h;refine DL (thn (he pins s σ H _ I h) ?_);rintro v s1 ⟨x,H1,I1,r1,q1⟩;refine Fi ?_;rw[Dz];refine Ab (Ab ?_);refine thn (hs pins s1 σ H1 _ I1 q1) ?_;rintro vs s3 ⟨k,H3,I3,pk,hk,z,hx,hz,q3⟩;subst hk;subst hx;obtain⟨t,rfl⟩:=r1;have I4:Inv X pins σ H3 { s3 with heap:=s3.heap.push { cls:=.type "slice",data:=.fields #[.none,.none,vs] } }:=I3.kept (t':=s3.toks) fun b ob q=>Ad _ q
 cases pk with
 | int i ti =>
   show wpAny (model X.prog X.w) X.A (subscriptTail e (.Slice none none (some se) p2) (.str z t) (.ref s3.heap.objs.size)) (EP X pins σ Q) X.xe _;refine FL (ops:=[.str z t,.ref s3.heap.objs.size]) (Ex _ _ _) slot_str_getitem.lookup ?_ (by with_unfolding_all rfl);refine B3 (l:=none) (u:=none) (st:=some (-1,ti)) ?_ rfl ?_
   . exact C7 ..
   . unfold sliceMade;rw[if_neg (by intro h;rw[An] at h;exact absurd h.1 (by show ¬ (((-1:Int)==1)=true);decide))];have e1:(⟨((slicePicked z none none (some (-1,ti))).filterMap (z.cps[·]?)).toArray⟩:Str)=revT z:=by
       rw[picked_rev,Fq];unfold revT
       congr 2
       exact congrArg List.reverse (He z.cps)
     rw[e1];exact⟨by rw[zlZ];exact hz,⟨.str (revT z),H3,I4.tok _,⟨_,rfl⟩,q3⟩⟩
noncomputable def zpi(m mk:ME):ME:=fun ρ st=>(m ρ st).bind fun (x,s1)=>(mk ρ s1).bind fun (k,s2)=>match x,k with
 | .str z,.int i=>if (decide (i=-1)&&fits z.length)=true then some (.str (revT z),s2) else none
 | _,_=>none
theorem znP(he:SE X e m)(hk:SE X se mk):SE X (.Subscript e (.Slice none none (some se) p2) pos) (zpi m mk) :=
 PE.imp (zof he (zgH hk)) <| by
   rintro σ H Q ⟨ρ,st,io,d,st',E,S,e,k⟩;obtain⟨⟨x,s1⟩,e1,e⟩:=zag e;obtain⟨⟨y,s2⟩,e2,e⟩:=zag e;refine⟨ρ,st,io,x,s1,E,S,e1,fun v1 H1 k1 X1 S1 R1=>?_⟩;refine⟨ρ,s1,io++k1,y,s2,E.ext S X1,S1,e2,fun v2 H2 k2 X2 S2 R2=>?_⟩
   cases x with
   | str z =>
     cases y with
     | int i =>
       obtain⟨hi,e⟩:=zav e;cases e;rw[An] at hi;have hi1:=of_decide_eq_true hi.1;subst hi1;exact⟨_,R2,rfl,z,R1,of_decide_eq_true hi.2,((k.on S1 X1).on S2 X2).now S2 rfl⟩
     | _=>cases e
   | _=>cases e
noncomputable def zpj(m mk:ME):ME:=fun ρ st=>orO (mRev m mk ρ st) (zpi m mk ρ st)
theorem znQ(he:SE X e m)(hk:SE X se mk):SE X (.Subscript e (.Slice none none (some se) p2) pos) (zpj m mk):=by
 rintro pins s σ H Q I ⟨ρ,st,io,d,st',E,S,e0,k⟩
 rcases zb7 e0 with e0 | e0
 . exact zpK he hk pins s σ H Q I ⟨ρ,st,io,d,st',E,S,e0,k⟩
 . exact znP he hk pins s σ H Q I ⟨ρ,st,io,d,st',E,S,e0,k⟩
end
section
variable {ρ ρ1:Rho} {st s1:Sto} {m n o ma mb:ME} {mm:MA} {ms mq:MS} {mt mu:MT} {d:D} {ml mh:MO}
@[simp] theorem zsf:mWA m ρ st=(m ρ st).bind fun p=>orO (zlq p.1 p.2) (match p.1 with | .str z=>some (⟨signs z,[]⟩,p.2) | _=>none):=rfl
@[simp] theorem zr8:mSlB m ml mh ρ st=(m ρ st).bind fun p=>(ml ρ p.2).bind fun q=>(mh ρ q.2).bind fun r=>slB p.1 q.1 r.1 r.2:=rfl
end
section
variable {prog:Program} {w:World} {A:Around} {E:Value->Shared->Prop} {s:Shared}
theorem zkh{d:Addr}{o:Obj}{es:Array DictEntry}{ep:Nat}{R:Value->Shared->Prop}(ty:s.TypeIs (.ref d) "dict")(hd:(d==sysModules)=false)(g:s.heap.get? d=some o)(dd:o.data=.dict es ep)
   (k:R (.ref s.heap.objs.size) { s with heap:=s.heap.push { cls:=.type "dict_keyiterator",data:=.fields #[.ref d,.int 0 0,.int es.size 0,.int ep 0] } }):wpAny (model prog w) A (pyIter (.ref d)) R E s:=by
 refine B0 ty F.slot_dict_iter (AC F.slot_dict_iter ty F.entry_dict_iter ?go (F.args_dict_iter_1 _));unfold Builtin.«dict.__iter__»;refine Aa ?_;unfold Builtin.Dict.dictSlotNone;refine Aa (Fz ty ?_);show wpAny _ _ (pure (AJ d)) _ _ s;refine Ab ?_;show wpAny _ _ (DK d >>= _) _ _ s;unfold DK;rw[if_neg (by rw[hd];exact Br)];refine Aa (Ab (Aa (Cn g dd (Aa (CG g dd ?_)))));refine Aa (Aw (Ab ⟨_,rfl,"dict_keyiterator",_,⟨_,Al _ rfl,rfl⟩,F.slot_dict_keyiterator_next.lookup,?_⟩));simpa[rawInt] using k
theorem zkg{it d:Addr}{i ep:Nat}{o:Obj}{es:Array DictEntry}{en:DictEntry}{R:Option Value->Shared->Prop}(hit:s.heap.IsKeyIter it d i es.size ep)(g:s.heap.get? d=some o)(dd:o.data=.dict es ep)(hx:es[i]?=some en)
   (k:∀ h',h'.IsKeyIter it d (i+1) es.size ep->Bg it s.heap h'->R (some en.key) { s with heap:=h' }):wpAny (model prog w) A (pyNext (.ref it)) R E s:=by
 obtain⟨io,ig,ic,idt⟩:=id hit;have own:BN "dict_keyiterator"=false:=by decide
 unfold pyNext;refine Aa (BD (AM (name:=A5 "__next__") hit.typeIs F.slot_dict_keyiterator_next (AC F.slot_dict_keyiterator_next hit.typeIs F.entry_dict_keyiterator_next ?_ (F.args_dict_keyiterator_next_1 _))));refine Aa (Ab (Aa (Aa ?_)));refine Aa (B2 hit.typeIs (Ab (Aa (BO ig idt ?_))));simp only[own,Aq,if_false];show wpAny _ _ (if (AJ d==AW)=true then _ else _) _ _ s;rw[if_neg (show ¬ (AJ d==AW)=true from fun z=>Br z)];refine Aa (Ab (Aa (Cn g dd ?_)));rw[if_neg (by simp)];refine Aa (Ab (Aa (CG g dd ?_)));rw[if_neg (by simp)];refine Ab ?_;have ni:¬ ((i:Int) < 0):=by omega
 simp only[ni,if_false,A7,hx];refine Aa (Aa (B2 hit.typeIs (Ab (Aa (FA hit.typeIs ?_)))));show wpAny _ _ (setField (.ref it) 1 (rawInt ((i:Int)+1)) >>= _) _ _ s;refine Aa (Bd ig idt (by simp) ?_);have h2:(s.heap.update it (CY (·.setIfInBounds 1 (rawInt ((i:Int)+1))))).IsKeyIter it d (i+1) es.size ep:=⟨_,AS _ ig (Bl (Ax idt _)),(BF ..).trans ic,by rw[Ax idt];simp[rawInt]⟩
 refine Aa (A0 (Aa (FA (s:={ s with heap:=s.heap.update it (CY (·.setIfInBounds 1 (rawInt ((i:Int)+1)))) }) h2.typeIs ?_)));show wpAny _ _ (pure en.key) _ _ _;exact Ab (Ab ⟨_,rfl,Ab (k _ h2 (AL ..))⟩)
theorem zkf{it d:Addr}{i ep:Nat}{o:Obj}{es:Array DictEntry}{R:Option Value->Shared->Prop}(hh:A.handled=none)(hit:s.heap.IsKeyIter it d i es.size ep)(g:s.heap.get? d=some o)(dd:o.data=.dict es ep)(hx:es[i]?=none)
   (k:∀ h',B9 it s.heap h'->R none { s with heap:=h' }):wpAny (model prog w) A (pyNext (.ref it)) R E s:=by
 obtain⟨io,ig,ic,idt⟩:=id hit;have own:BN "dict_keyiterator"=false:=by decide
 unfold pyNext;refine Aa (BD (AM (name:=A5 "__next__") hit.typeIs F.slot_dict_keyiterator_next (AC F.slot_dict_keyiterator_next hit.typeIs F.entry_dict_keyiterator_next ?_ (F.args_dict_keyiterator_next_1 _))));refine Aa (Ab (Aa (Aa ?_)));refine Aa (B2 hit.typeIs (Ab (Aa (BO ig idt ?_))));simp only[own,Aq,if_false];show wpAny _ _ (if (AJ d==AW)=true then _ else _) _ _ s;rw[if_neg (show ¬ (AJ d==AW)=true from fun z=>Br z)];refine Aa (Ab (Aa (Cn g dd ?_)));rw[if_neg (by simp)];refine Aa (Ab (Aa (CG g dd ?_)));rw[if_neg (by simp)];refine Ab ?_;have ni:¬ ((i:Int) < 0):=by omega
 simp only[ni,if_false,A7,hx];refine Aa (Aa (B2 hit.typeIs (Ab ?_)));show wpAny _ _ (setField (.ref it) 0 .none >>= _) _ _ s;refine Aa (Bd ig idt (by simp) ?_);show wpAny _ _ (newExc (.type "StopIteration") [] >>= _) _ _ _;simp only[newExc,newTuple];refine Aa (Aa (Aw (Aa (m:=firstArgMember _ _) (D5 (a:=AW) (by first | rfl | (simp only[firstArgMember];rfl)) (Aw ?_ (by size_fits)))) (by size_fits)));simp only[raiseNew];refine Aa (Ei ?_);rw[show A.in1.handled=none from hh];refine Aa (Ab (Fp ?_));refine Aa (CT (T:="StopIteration") (b:=true) ⟨_,Al _ rfl,rfl⟩ D1 (Ab ?_));exact k _ (((AL ..).extBut.push _).push _)
end
section
variable {X:Cx} {K:Ae} {H:Hp} {io:List Addr} {m:ME} {st st':Sto} {tg:Expr}
noncomputable def zrf(kvs:List (List Key×D)):List D:=kvs.map fun p=>.tup (p.1.map keyD)
end
section
variable {prog:Program} {w:World} {A:Around} {E:Value->Shared->Prop} {s:Shared}
theorem zhH{sl:Addr}{t:Tok}{n:Nat}{Q:Int×Int×Nat->Shared->Prop}(hs:s.heap.IsSliceOf sl .none .none (.int (-1) t))(h:Q ((n:Int) - 1,-1,n) s):wpAny (model prog w) A (Cj (.ref sl) (pure (n:Int))) Q E s:=by
 obtain⟨os,hos,hcs,hds⟩:=id hs;unfold Cj Ew;refine Aa (Aa (Bb hos hds (x:=.none) rfl (Aa (Bb hos hds (x:=.none) rfl (Aa (Bb hos hds (x:=.int (-1) t) rfl (Ab ?_)))))));refine Aa (HT.slicePart_ (.int (-1) t) ?_);show wpAny _ _ (if ((-1:Int)==0)=true then _ else _) _ _ s;rw[if_neg (by decide)];refine Aa (HT.slicePart_ .none (Aa (HT.slicePart_ .none (Aa (Ab ?_)))));have e1:BI none none (-1) (n:Int)=((n:Int) - 1,-1):=by
   unfold BI;simp
 have e2:Bq ((n:Int) - 1) (-1) (-1)=n:=by
   unfold Bq;have h1:¬ ((-1:Int) > 0):=by decide
   simp only[h1,if_false]
   by_cases hn:(-1:Int) < (n:Int) - 1
   . simp[hn]
   . simp[hn];omega
 show wpAny _ _ (match BI none none (-1) (n:Int) with | (lo,hi)=>pure (lo,(-1:Int),Bq lo hi (-1))) _ _ s;rw[e1];show wpAny _ _ (pure ((n:Int) - 1,(-1:Int),Bq ((n:Int) - 1) (-1) (-1))) _ _ s;rw[e2];exact Ab h
theorem zi9{α β:Type}{f g:α->Option β}:∀ {l:List α},(∀ x∈l,f x=g x)->l.filterMap f=l.filterMap g
 | [],_=>rfl
 | a::l,h=>by
   rw[B4,B4,h a Aj,zi9 fun x hx=>h x (Ah _ hx)]
theorem zl9(xs:Array Value):((AX xs.size).filterMap fun (m:Nat)=>xs[(((xs.size:Int) - 1)+(m:Int)*-1).toNat]?).toArray=xs.toList.reverse.toArray:=by
 congr 1
 have e:∀ m∈AX xs.size,xs[(((xs.size:Int) - 1)+(m:Int)*-1).toNat]?=xs[xs.size - 1 - m]?:=fun m hm=>by
   have:=List.mem_range.mp hm;have:(((xs.size:Int) - 1)+(m:Int)*-1).toNat=xs.size - 1 - m:=by omega
   rw[this]
 rw[zi9 e];have h2:(AX xs.size).filterMap (fun m=>xs[xs.size - 1 - m]?)=((AX xs.size).map fun k=>xs.size - 1 - k).filterMap (xs[·]?):=by
   rw[Gb];rfl
 rw[h2,Gy,Fq,He]
theorem zdD{t sl:Addr}{items:Array Value}{tk:Tok}{Q:Value->Shared->Prop}(ht:IsTup s.heap t items)(hs:s.heap.IsSliceOf sl .none .none (.int (-1) tk))
   (h:Q (.ref s.heap.objs.size) { s with heap:=s.heap.push { cls:=.type "tuple",data:=.seq items.toList.reverse.toArray } }) (hsz:items.size<=sizeLine):wpAny (model prog w) A (getItem (.ref t) (.ref sl)) Q E s:=by
 have htake:sizeOk (.seq items.toList.reverse.toArray):=by
   show items.toList.reverse.toArray.size<=sizeLine;rw[Ao,B5,Au];exact hsz
 obtain⟨os,hos,hcs,hds⟩:=id hs;have hTs:s.TypeIs (.ref sl) "slice":=⟨os,hos,hcs⟩
 unfold getItem
 try with_reducible refine A0 ?_
 first | refine Aa (Ab ?_) | skip
 refine Aa (Eo ht.typeIs (by decide) ?_);refine Aa (AM (name:=A5 "__getitem__") ht.typeIs Bv (AC Bv ht.typeIs DX ?_ (D9 _ _)));show wpAny _ _ (CW (.ref t) >>= _) _ _ s;refine Aa (FS ht ?_);refine Aa (Ct hTs ?_);rw[if_pos (by decide)];refine Aa (zhH hs ?_);have hno:¬ ((((items.size:Int) - 1)==0&&(-1:Int)==1&&items.size==items.size)=true):=by
   intro q;rw[An,An] at q;exact absurd q.1.2 (by decide)
 show wpAny _ _ (if (((items.size:Int) - 1)==0&&(-1:Int)==1&&items.size==items.size)=true then _ else _) _ _ s;rw[if_neg hno,zl9]
 first
   | exact Aa (m:=Bu _) (Aw (Ab ⟨_,rfl,Ab h⟩) htake)
   | exact Aa (m:=Bu _) (Aw (Aa (Ab (Ab ⟨_,rfl,Ab h⟩))) htake)
   | exact Aa (Aa (m:=Bu _) (Aw (Ab (Ab ⟨_,rfl,Ab h⟩)) htake))
   | exact Aa (Aa (m:=Bu _) (Aw (Ab ⟨_,rfl,Ab h⟩) htake))
end
section
variable {X:Cx} {K:Ae} {H:Hp} {io:List Addr} {st st':Sto} {a b c e:Expr} {es:List Expr} {ma mb mc m mk:ME} {mm:MA} {pos:Pos} {pins:List (Addr×Obj)} {σ:L2.St} {s:Shared}
noncomputable def zrp(K:Ae)(te:TE)(ts:TO):TE:=fun σ H Q=>te σ H fun x H1=>ts σ H1 fun k H2=>k=some (-1)/\∃ a xs,x=.ref a/\H2 a=some (.tup xs)/\∀ p,H2 p=none->Q (.ref p) (upd H2 p (.tup xs.reverse))
theorem zoe{te:TE}{ts:TO}{p2:Pos}{se:Expr}(he:PE X e te)(hs:PO X (some se) ts):PE X (.Subscript e (.Slice none none (some se) p2) pos) (zrp X.K te ts):=by
 intro pins s σ H Q I h;refine DL (thn (he pins s σ H _ I h) ?_);rintro v s1 ⟨x,H1,I1,r1,q1⟩;refine Fi ?_;rw[Dz];refine Ab (Ab ?_);refine thn (hs pins s1 σ H1 _ I1 q1) ?_;rintro vs s3 ⟨k,H3,I3,pk,hk,a,xs,hx,hq,q3⟩;subst hk;subst hx;cases r1;have I4:Inv X pins σ H3 { s3 with heap:=s3.heap.push { cls:=.type "slice",data:=.fields #[.none,.none,vs] } }:=I3.kept (t':=s3.toks) fun b ob q=>Ad _ q;obtain⟨its,r,ht,hz⟩:=I4.tuple (SqT.of (K:=X.K) hq);have hlen:=r.length;show wpAny (model X.prog X.w) X.A (subscriptTail e (.Slice none none (some se) p2) (.ref a) (.ref s3.heap.objs.size)) (EP X pins σ Q) X.xe { s3 with heap:=s3.heap.push { cls:=.type "slice",data:=.fields #[.none,.none,vs] } }
 cases pk with
 | int i ti =>
 refine FL (ops:=[.ref a,.ref s3.heap.objs.size]) ht.typeIs PyProof.Rows.slot_tuple_getitem.lookup ?_ (by with_unfolding_all rfl);refine zdD ht (C7 ..) ?_ (by rw[Ao];omega);refine⟨.ref (s3.heap.push { cls:=.type "slice",data:=.fields #[.none,.none,.int (-1) ti] }).objs.size,_,I4.laid (t':=s3.toks) (o:=.tup xs.reverse) (fun b ob q=>Ad _ q) (Af _) ?_,rfl,q3 _ (I4.hok.fresh (Af _))⟩;exact⟨by rw[B5];exact hz,_,zfS r,zfc.new _ _⟩
noncomputable def zph(m mk:ME):ME:=fun ρ st=>(m ρ st).bind fun (x,s1)=>(mk ρ s1).bind fun (k,s2)=>match x,k with
 | .tup ds,.int i=>if (decide (i=-1))=true then some (.tup ds.reverse,s2) else none
 | _,_=>none
theorem znO{p2:Pos}{se:Expr}(he:SE X e m)(hk:SE X se mk):SE X (.Subscript e (.Slice none none (some se) p2) pos) (zph m mk) :=
 PE.imp (zoe he (zgH hk)) <| by
   rintro σ H Q ⟨ρ,st,io,d,st',E,S,e,k⟩;obtain⟨⟨x,s1⟩,e1,e⟩:=zag e;obtain⟨⟨y,s2⟩,e2,e⟩:=zag e;refine⟨ρ,st,io,x,s1,E,S,e1,fun v1 H1 k1 X1 S1 R1=>?_⟩;refine⟨ρ,s1,io++k1,y,s2,E.ext S X1,S1,e2,fun v2 H2 k2 X2 S2 R2=>?_⟩
   cases x with
   | tup ds =>
     cases y with
     | int i =>
       obtain⟨hi,e⟩:=zav e;cases e;have hi1:=of_decide_eq_true hi;subst hi1;obtain⟨p,xs,rfl,hp,r⟩:=R1.ext S1 X2;exact⟨_,R2,rfl,p,xs,rfl,hp,fun l hl=>((k.on S1 X1).on S2 X2).tup S2 (zf7 r) hl⟩
     | _=>cases e
   | _=>cases e
noncomputable def ze2(m mk:ME):ME:=fun ρ st=>orO (zpj m mk ρ st) (zph m mk ρ st)
theorem zic{p2:Pos}{se:Expr}(he:SE X e m)(hk:SE X se mk):SE X (.Subscript e (.Slice none none (some se) p2) pos) (ze2 m mk):=by
 rintro pins s σ H Q I ⟨ρ,st,io,d,st',E,S,e0,k⟩
 rcases zb7 e0 with e0 | e0
 . exact znQ he hk pins s σ H Q I ⟨ρ,st,io,d,st',E,S,e0,k⟩
 . exact znO he hk pins s σ H Q I ⟨ρ,st,io,d,st',E,S,e0,k⟩
end
section
variable {X:Cx} {K:Ae} {H:Hp} {io:List Addr} {st st':Sto} {a b c e:Expr} {es:List Expr} {ma mb mc m:ME} {mm:MA} {pos:Pos}
noncomputable def ziL(i:Int):Bool:=decide (i.natAbs.log2 < 1920)
noncomputable def strC:GN
 | [.str x],st=>some (.str x,st)
 | [.int i],st=>if ziL i=true then some (.str (toString i),st) else none
 | _,_=>none
theorem zky:zd8 X (.type "str") strC:=by
 rintro pins s σ H xs us Q I r ⟨ds,st,io,d,st',R,S,e,k⟩;unfold strC at e
 split at e
 . rename_i x;cases e;obtain⟨v,rfl,rv⟩:=R.one
   cases (show v=.str x from rv)
   obtain⟨u,rfl,t,rfl⟩:=r.one;exact PySem.P.str_of_str ⟨.str x,H,I,⟨t,rfl⟩,k.now S rfl⟩
 . rename_i i;obtain⟨hf,e⟩:=zav e;cases e;obtain⟨v,rfl,rv⟩:=R.one
   cases (show v=.int i from rv)
   exact zgr pins s σ H _ us Q I r ⟨i,rfl,of_decide_eq_true hf,k.now S rfl⟩
 . cases e
end
end L2.MP
namespace L2.MP
section
open PySem PySem.Spec PyProof.Rows PySem.Builtin PySem.Builtin.Str
variable {prog:Program} {w:World} {A:Around} {E:Value->Shared->Prop} {s:Shared} {z y:Str} {t u:Tok} {Q:Value->Shared->Prop}
end
section
open PySem PySem.Spec PyProof.Rows
variable {X:Cx} {K:Ae} {H:Hp} {io:List Addr} {st st':Sto} {a b c e:Expr} {es:List Expr} {ma mb mc m:ME} {mm:MA} {pos:Pos}
end
end L2.MP
namespace L2.MP
open PySem
theorem zoG{W:Wk}{g:MG}{m:MS}{d r:D}{ds:List D}{ρ ρ1:Rho}{st s1 s2:Sto}(wk:walked W st=true)(e1:g d ρ st=some (ρ1,s1))(e2:m ρ1 s1=some (.rt r,s2)):ze3 W g m (d::ds) ρ st=some (.rt r,s2):=by
 unfold ze3;rw[if_pos wk,e1];simp only[Ac,e2]
theorem zoH{W:Wk}{g:MG}{m:MS}{d:D}{ds:List D}{ρ ρ1 ρ2:Rho}{st s1 s2:Sto}(wk:walked W st=true)(e1:g d ρ st=some (ρ1,s1))(e2:m ρ1 s1=some (.nx ρ2,s2)):ze3 W g m (d::ds) ρ st=ze3 W g m ds ρ2 s2:=by
 conv=>lhs;unfold ze3
 rw[if_pos wk,e1];simp only[Ac,e2]
end L2.MP
namespace L2.MP
open PySem PySem.Spec PyProof.Rows
@[irreducible] def JSs (X:Cx) (s:List Stmt) (m:MS):Prop:=SSs X s m
@[irreducible] def JS (X:Cx) (s:Stmt) (m:MS):Prop:=SS X s m
@[irreducible] def JA (X:Cx) (es:List Expr) (m:MA):Prop:=SA X es m
section
variable {X:Cx} {e a b c:Expr} {es:List Expr} {st1 st2:Stmt} {rest body orelse:List Stmt} {pos:Pos} {m ma mb mc:ME} {mt mu:MT} {mm:MA} {ms mq mr:MS} {mg:MG} {mi:MI}
theorem JSs.out(h:JSs X body ms):SSs X body ms:=by unfold JSs at h;exact h
theorem JSs.mk(h:SSs X body ms):JSs X body ms:=by unfold JSs;exact h
theorem JS.out(h:JS X st1 ms):SS X st1 ms:=by unfold JS at h;exact h
theorem JS.mk(h:SS X st1 ms):JS X st1 ms:=by unfold JS;exact h
theorem JA.out(h:JA X es mm):SA X es mm:=by unfold JA at h;exact h
theorem JA.mk(h:SA X es mm):JA X es mm:=by unfold JA;exact h
theorem zbR:JSs X [] zcG:=.mk zny
theorem zaI(h:JS X st1 ms):JSs X [st1] ms:=.mk (znx h.out)
theorem zak(h:JS X st1 ms)(h2:JSs X rest mq):JSs X (st1::rest) (mSeq ms mq):=.mk (zlB h.out h2.out)
theorem zfy(hc:SB X c mt)(h1:JSs X body ms)(h2:JSs X orelse mq):JS X (.If c body orelse pos) (mIf mt ms mq):=.mk (zrA hc h1.out h2.out)
theorem zgm{tg iter:Expr}(hp:PassesOwn (model X.prog X.w) X.A X.env X.xe)(hc:X.calm=true)(hi:SI X tg iter mi)(hg:SG X tg mg)(hb:JSs X body ms)(hs:∀ x,foldedSetIterable iter X.env x=pure x:=by intro _;rfl):JS X (.For tg iter body [] pos) (mFor mi mg ms):=.mk (zpz hp hc hi hg hb.out hs)
theorem zcI:JA X [] mNil:=.mk zah
theorem zae(ha:SE X e m)(hr:JA X es mm)(hs:∀ q,starEach (e::q) X.env=(false,eval e X.env)::starEach q X.env:=by intro _;rfl):JA X (e::es) (zab m mm):=.mk (zaa ha hr.out (hs _))
theorem zoL{i:Nat}{x:Str}{pos' p2:Pos}(hN:X.N.Nodup)(hi:X.N[i]?=some x)(hx:Loc X.env.scope x)(h:JA X es mm)(hf:X.fn x=true\/X.env.scope.names.lookup x=some .local:=by first | exact .inl rfl | exact .inr rfl | assumption):JS X (.Assign [.Name x pos'] (.List es p2) pos) (mAsg (mLst mm) (gNm i)):=.mk (zbe hN hi hx (zbJ h.out) rfl hf)
end
section
variable {prog:Program} {w:World} {A:Around}
theorem zhM(hh:A.handled=none)(it d:Addr)(hne:d≠it){o:Obj}{es:Array DictEntry}{ep:Nat}(dd:o.data=.dict es ep) :
   Walks prog w A it [it,d] [it] es.size (fun i v=>∃ en,es[i]?=some en/\v=en.key) (fun i h=>h.IsKeyIter it d i es.size ep/\h.get? d=some o) where
 sub:=fun b hb=>by simp at hb;simp[hb]
 frame:=fun _ _ _ st hk=>⟨st.1.at fun o e=>hk it (by simp) o e,hk d (by simp) o st.2⟩
 item:=fun i s Q E hi st hQ=>by
   have hx:es[i]?=some es[i]:=AF hi;refine zkg st.1 st.2 dd hx fun h' st' sb=>?_;exact hQ _ h' s.toks ⟨_,hx,rfl⟩ ⟨st',(sb.2 d hne).trans st.2⟩ fun b ob hb e=>(sb.2 b (fun z=>hb (by simp[z]))).trans e
 done:=fun s Q E st hQ=>zkf hh st.1 st.2 dd (by simp) fun h' eb=>hQ h' s.toks fun b ob hb e=>eb b ob (fun z=>hb (by simp[z])) e
 self:=fun _ _ _ _ st hQ=>wpAny_pyIter_keyiter st.1 hQ
theorem zlD{d:Addr}{o:Obj}{es:Array DictEntry}{ep:Nat}(dd:o.data=.dict es ep)(hd:(d==sysModules)=false)(ty:∀ s:Shared,s.heap.get? d=some o->s.TypeIs (.ref d) "dict") :
   PySem.W.KdlSrc prog w "dict" d d es.size (fun i v=>∃ en,es[i]?=some en/\v=en.key) (fun h=>h.get? d=some o) where
 type:=ty
 there:=fun _ g=>⟨Ak g,Ak g⟩
 keep:=fun _ _ g hk=>hk d (.inl rfl) o g
 notList:=by decide
 notTuple:=by decide
 hint:=fun _ _ s _ g hq=>PySem.W.kdl_hint_dict (ty s g) hq
 iter:=fun A' s hh g=>⟨_,_,fun _ _ hq=>zkh (ty s g) hd g dd hq,zhM hh _ d (AB (Ak g)) dd,⟨⟨_,Al _ rfl,rfl,rfl⟩,Ad _ g⟩⟩
end
section
variable {X:Cx} {K:Ae} {H:Hp} {io:List Addr} {st st':Sto}
theorem zgT{K:Ae}{H:Hp}{io:List Addr}:∀ {vs:List Value} {ps:List (List Key×V)} {kvs:List (List Key×D)},KR (List Key) K H io ps kvs->vs.length=ps.length->(∀ (j:Nat) (v:Value) (p:List Key×V),vs[j]?=some v->ps[j]?=some p->∃ b,v=.ref b/\H b=some (.tup (p.1.map kV)))->∃ ys,Vals ys vs/\Reps K H io ys (zrf kvs)
 | [],_,_,.nil,_,_=>⟨[],.nil,rfl⟩
 | [],_::_,_,.cons _ _,hl,_=>by simp at hl
 | v::vs,_,_,.nil,hl,_=>by simp at hl
 | v::vs,p::ps,q::kvs,.cons h t,hl,hv=>by
   obtain⟨b,rfl,hb⟩:=hv 0 v p rfl rfl;obtain⟨ys,r1,r2⟩:=zgT (vs:=vs) t (by simpa using hl) fun j v p e1 e2=>hv (j+1) v p (by simpa using e1) (by simpa using e2);refine⟨.ref b::ys,.cons rfl r1,Reps.cons ⟨b,_,rfl,hb,?_⟩ r2⟩;rw[h.1];exact ze6 _
noncomputable def zmu:GN
 | [.ref n],st=>match st[n]? with
   | some (.dt kvs)=>if fits kvs.length=true then some (.ref st.length,st++[.lst (zrf kvs)]) else none
   | _=>none
 | _,_=>none
theorem zhF(hc:X.calm=true):zd8 X (.type "list") zmu:=by
 rintro pins s σ H xs us Q I r ⟨ds,st,io,d,st',R,S,e,k⟩;unfold zmu at e
 split at e
 . rename_i n
   split at e
   . rename_i kvs en;obtain⟨hf,e⟩:=zav e;cases e;obtain⟨v,rfl,p,rfl,hp⟩:=R.one;obtain⟨u,rfl,ru⟩:=r.one;cases ru;obtain⟨ps,hH,rk⟩:=S.ob n p _ hp en;obtain⟨t1,t2,hs⟩:=zoQ I (.inr ⟨ps,.inl hH⟩);obtain⟨z,y,xs,r0,o,es,ep,g,ex,dd,et,nd⟩:=I.hok p _ hH;have x:=I.hok p _ hH;have fz:zdi X.prog X.w H s.heap p (.frz o (.dT ps)):=⟨g,x⟩
     obtain⟨g',hl,ent⟩:=zgo fz dd;have hsz:es.size<=sizeLine:=by
       rw[hl,KR.length rk];exact of_decide_eq_true hf
     refine PySem.W.kdl_call (zlD (prog:=X.prog) (w:=X.w) dd hs (fun s' g'=>?_)) (I.ok.hd hc) g hsz fun h' tk acc c' hk hat hacc=>?_
     . obtain⟨o',ho',hc'⟩:=t1;rw[g] at ho';cases ho';exact⟨o,g',hc'⟩
     . obtain⟨ys,rv,rr⟩:=zgT (vs:=acc.toList) rk (by rw[Au,hacc.1,hl]) fun j v q e1 e2=>by
         obtain⟨en',h1,h2⟩:=hacc.2 j v (by rw[<-Az];exact e1);obtain⟨en2,b,h3,h4,h5,_⟩:=ent j q.1 q.2 e2;rw[h1] at h3;cases h3;exact⟨b,by rw[h2,h4],h5⟩
       have hyl:ys.length<=sizeLine:=by rw[rv.length,Au,hacc.1];exact hsz
       refine⟨.ref s.heap.objs.size,upd H s.heap.objs.size (.lst ys),I.laid (t':=tk) (fun b o q=>hk b o q) (Af _) ⟨hyl,acc.toList,c',rv,by simpa using hat⟩,rfl,?_⟩;exact k.lst S rr (I.hok.fresh (Af _))
   . cases e
 . cases e
noncomputable def zmv:GN:=orN zqD zmu
theorem zjl(hc:X.calm=true):zd8 X (.type "list") zmv:=ze9 (zjm hc) (zhF hc)
end
section
variable {X:Cx} {K:Ae} {H:Hp} {io:List Addr} {st st':Sto} {body:List Stmt} {ms:MS} {pos:Pos}
noncomputable def isBD:G2:=orG isND fun x y st=>match x,y with
 | .bl a,.bl b=>some (.bl (a==b),st)
 | _,_=>none
theorem zoq:OpM X (compareOp .Is) isBD:=zhr zop (by
 rintro pins s σ H x y v u Q I rx ry ⟨dx,dy,st,io,d,st',Rx,Ry,S,e,k⟩
 (try dsimp only at e)
 split at e
 . cases e
   cases (show x=_ from Rx)
   cases (show y=_ from Ry)
   cases rx;cases ry;exact PyProof.Rows.is_bool ⟨.bl _,H,I,rfl,k.now S rfl⟩
 . cases e)
end
section
variable {prog:Program} {w:World} {A:Around} {E:Value->Shared->Prop} {s:Shared}
theorem zlH{at_:Addr}{vs:List Value}{k:Nat}{R:PySem.Fin->Shared->Prop}(hv:vs.length < 2)(g0:s.heap.get? at_=some (seqObj "list" vs.toArray k))(fin:R (.done (.ret .none)) { s with heap:=sortedHeap s.heap at_ vs vs.toArray }) :
   wpAny (model prog w) A (Builtin.«list.sort» ⟨[.ref at_],[]⟩) R E s:=by
 have lt0:=Ak g0;have hz:vs.length<=sizeLine:=AR (Cr hv) (by decide);obtain⟨ep,g1⟩:∃ ep,(s.heap.update at_ (Bf fun _=>(#[]:Array Value))).get? at_=some (seqObj "list" #[] ep):=⟨_,get?_update_seq g0 fun _=>#[]⟩
 have g2:(((s.heap.update at_ (Bf fun _=>(#[]:Array Value))).push (seqObj "tuple" vs.toArray 0)).push (seqObj "list" #[] 0)).get? at_=some (seqObj "list" #[] ep):=Ad _ (Ad _ g1);rw[list_sort_plain];refine Aa (listItems_at g0 rfl (Aa (Eg g0 rfl (Aa (Fn g1 rfl (Aa (D0 (Aa (DA (A0 ?_))) (by simpa using hz))))) (by simpa using hz))));show wpAny (model prog w) A _ R E { s with heap:=((s.heap.update at_ (Bf fun _=>(#[]:Array Value))).push (seqObj "tuple" vs.toArray 0)).push (seqObj "list" #[] 0) };have two:vs.toArray.size < 2:=by simpa using hv
 have same:(arrOf (HG general' (vs.toArray.zip vs.toArray) #[] 7 none)).map (·.2)=vs.toArray:=by
   show ((vs.toArray.zip vs.toArray).map (·.2))=vs.toArray;simp;clear two g2 g1 g0 hz fin hv
   induction vs with
   | nil=>rfl
   | cons a r ih=>simpa using ih
 dsimp only;rw[if_pos two,if_pos two];refine Aa (Ab ?_);rw[G7];refine Aa (Ab ?_);dsimp only;rw[same];refine Aa (Fn g2 rfl (Aa (Eg g2 rfl ?_ (hsz2:=by simp;omega))));simp only[bne_self_eq_false,Aq,if_false];exact Ab fin
end
section
variable {X:Cx} {pins:List (Addr×Obj)} {σ:L2.St} {H:Hp} {s:Shared}
theorem Inv.notL(I:Inv X pins σ H s){D:Addr}(h:s.heap.get? D=none):D≠X.env.locals/\X.base.get? D=none/\H D=none:=by
 refine⟨fun z=>?_,?_,?_⟩
 . obtain⟨m,⟨o,_,_,e,_⟩,_⟩:=I.loc;rw[<-z,h] at e;cases e
 . cases e:X.base.get? D with
   | none=>rfl
   | some u=>rw[(I.bs D u e).1] at h;cases h
 . cases e:H D with
   | none=>rfl
   | some o =>
     obtain⟨u,hu⟩:=zgN (I.hok D o e);rw[h] at hu;cases hu
theorem zlG{xs:List V}{its:List Value}{D:Addr}{h':Heap}{Q:VK}(I:Inv X pins σ H s)(rv:Vals xs its)(h2:xs.length < 2)(k:∀ b o,s.heap.get? b=some o->h'.get? b=some o)(hD:s.heap.get? D=none)(gD:h'.get? D=some (seqObj "list" its.toArray 0))(h:∀ p,H p=none->Q (.ref p) (upd H p (.lst xs))) :
   wpAny (model X.prog X.w) X.A.in1.in1 (Builtin.«list.sort» ⟨[.ref D],[]⟩) (fun f s'=>f=.done (.ret .none)/\EP X pins σ Q (.ref D) s') (fun _ _=>False) { s with heap:=h' }:=by
 have hlen:=rv.length;have hz:xs.length<=sizeLine:=AR (Cr h2) (by decide);refine zlH (by omega) gD ⟨rfl,?_⟩;obtain⟨n1,n2,n3⟩:=Inv.notL I hD;obtain⟨ep,e⟩:=sortedHeap_at (out:=its.toArray) gD;have kk:∀ b u,s.heap.get? b=some u->(sortedHeap h' D its its.toArray).get? b=some u:=fun b u q=>by
   have hb:b≠D:=fun z=>by rw[z,hD] at q;cases q
   rw[sortedHeap_old hb (Ak (k b u q))];exact k b u q
 have J:Inv X pins σ (upd H D (.lst xs)) { s with heap:=sortedHeap h' D its its.toArray }:=by
   obtain⟨m,F⟩:=I.fr;refine Inv.laidAt (m:=m) I (fun b u _=>kk b u) (fun m' ⟨o,a1,a2,q,a3⟩=>⟨o,a1,a2,kk _ _ q,a3⟩) (let ⟨m',⟨o,_,_,q,_⟩,_⟩:=I.loc;⟨o,kk _ _ q⟩) hD n3 n1 ⟨hz,its,ep,rv,e⟩
 exact⟨.ref D,_,J,rfl,h D n3⟩
theorem zlF{xs:List V}{its:List Value}{ts:List (List Int)}{D:Addr}{h0:Heap}{Q:VK}(I:Inv X pins σ H s)(rv:Vals xs its)(T:zcF H xs ts)(h2:2<=ts.length)(h64:ts.length < 64)(k0:∀ b o,s.heap.get? b=some o->h0.get? b=some o)(hsD:s.heap.get? D=none)(gD:h0.get? D=some (seqObj "list" its.toArray 0))
   (h:∀ (q:Array Nat) (p:Addr),q.Perm (Cv (AX ts.length))->Srt.Up (rank ts) q ts.length->H p=none->Q (.ref p) (upd H p (.lst (q.toList.map fun i=>xs.getD i .non)))) :
   wpAny (model X.prog X.w) X.A.in1.in1 (Builtin.«list.sort» ⟨[.ref D],[]⟩) (fun f s'=>f=.done (.ret .none)/\EP X pins σ Q (.ref D) s') (fun _ _=>False) { s with heap:=h0 }:=by
 have hlen:its.length=ts.length:=by
   have a:=rv.length;have b:=BR T;omega
 obtain⟨m,F⟩:=I.fr;have trkL:∀ b,H b≠none->b≠X.env.locals:=fun b hb z=>hb (by rw[z];exact I.free);obtain⟨n1,n2,hHD⟩:=Inv.notL I hsD;have nD:∀ p∈zd6 X.base s.heap X.env.locals,p.1≠D:=fun p hp z=>by
   have q:=(zgf (g:=X.base) (h:=s.heap) (L:=X.env.locals) p hp).1;rw[z,hsD] at q;cases q
 refine PySem.W.kat_list_sort (s:={ s with heap:=h0 }) (news:=zd6 X.base s.heap X.env.locals) (F.kept k0) ((zgf (g:=X.base) (h:=s.heap) (L:=X.env.locals)).grown k0) gD n1 n2 nD (by omega) (by omega) fun e1 h' F' N'=>?_;have keep:∀ {h2:Heap} {o:Obj},PyProof.Rows.Fr X.base X.env.locals h2 m->News X.base X.env.locals h2 ((D,o)::zd6 X.base s.heap X.env.locals)->∀ b u,b≠X.env.locals->s.heap.get? b=some u->h2.get? b=some u:=fun {h2 o} F2 N2 b u hb e=>by
   cases q:X.base.get? b with
   | some v =>
     have z:=(I.bs b v q).1;rw[e] at z;cases z;exact F2.keep b _ q
   | none=>exact (N2 (b,u) (Ah _ (zdn hb q e))).1
 have hk:∀ b o,H b≠none->s.heap.get? b=some o->h'.get? b=some o:=fun b o hb e=>keep F' N' b o (trkL b hb) e;obtain⟨fs,k1,k2,k3⟩:=zgl (h':=h') I hk T rv;refine GI (s:={ s with heap:=h' }) (T:=.type "int") k1 (by omega) (fun v hv=>?_) rfl ?_
 . obtain⟨i,t,rfl⟩:=k3 v hv;exact Fw rfl
 have ok:=Srt.sort_ok (n:=its.length) (r:=rank ts) (by omega);refine zqP (n:=its.length) (r:=rank ts) (s:={ s with heap:=h' }) (fun i j hi hj C hC=>zpb (s':={ s with heap:=h' }) I hk T rv (by omega) (by omega) C hC) (fun q hq=>?_) ok;refine FM F' N' (Gv nD) fun h2 c F2 N2=>⟨rfl,?_⟩
 have hD2:=(N2 _ Aj).1;rw[hlen] at hq;have vals:Vals (q.toList.map fun i=>xs.getD i .non) (q.toList.map fun i=>its.getD i AW):=by
   have hmem:∀ i∈q.toList,i < xs.length:=fun i hi=>by
     have:i∈(Cv (AX ts.length)).toList:=(Array.perm_iff_toList_perm.mp hq.1).mem_iff.mp hi;have hr:=rv.length;simp at this;omega
   generalize q.toList=ql at hmem
   induction ql with
   | nil=>exact .nil
   | cons i r ih =>
     refine .cons ?_ (ih fun j hj=>hmem j (Ah _ hj));have hi:=hmem i Aj;obtain⟨u,eu,ru⟩:=rv.get (Am hi);show RelV (xs.getD i V.non) (its.getD i AW);rw[AD,AD,Am hi,eu];exact ru
 have hql:q.toList.length=ts.length:=by
   have:=(Array.perm_iff_toList_perm.mp hq.1).length_eq;simpa using this
 have J:Inv X pins σ (upd H D (.lst (q.toList.map fun i=>xs.getD i .non))) { s with heap:=h2 } :=
   Inv.laidAt (m:=m) I (keep F2 N2) (fun m' hm'=>by rw[zoy hm' F.ns];exact F2.ns) (let ⟨o,_,_,e,_⟩:=F2.ns;⟨o,e⟩) hsD hHD n1 ⟨by rw[Ag,hql];exact lt64 h64,_,c,vals,hD2⟩
 exact⟨.ref D,_,J,rfl,h q D hq.1 hq.2 hHD⟩
end
section
variable {X:Cx} {K:Ae} {H:Hp} {io:List Addr} {st st':Sto}
noncomputable def zpp:G2
 | .tup a,.tup b,st=>if (a.isEmpty&&fits b.length)=true then some (.tup b,st) else none
 | _,_,_=>none
theorem zmg:OpM X (binaryOp .Add) zpp:=by
 rintro pins s σ H x y v u Q I rx ry ⟨dx,dy,st,io,d,st',Rx,Ry,S,e,k⟩;unfold zpp at e
 split at e
 . rename_i i j;obtain⟨hf,e⟩:=zav e;cases e;rw[An] at hf;obtain⟨p,xs,rfl,hp,r1⟩:=Rx;obtain⟨q,ys,rfl,hq,r2⟩:=id Ry;cases rx;cases ry;obtain⟨m,F⟩:=I.fr;obtain⟨its,w1,p1,_⟩:=I.tuple (SqT.of hp);obtain⟨its2,w2,p2,_⟩:=I.tuple (SqT.of hq);have e0:its=[]:=by
     have a:=r1.length;have b:=w1.length;have c:i=[]:=by simpa using hf.1
     rw[c] at a;exact B1 (by have a':xs.length=0:=a;omega)
   have hz:its2.length<=sizeLine:=by
     have a:=r2.length;have b:=w2.length;have c:=of_decide_eq_true hf.2;omega
   exact PyProof.Rows.add_tuples F (news:=[]) (fun p hp=>nomatch hp) p1 p2 (fun _=>⟨.ref q,H,I,rfl,k.now S Ry⟩) (fun z _=>absurd e0 z) (fun z _=>absurd e0 z) (by rw[e0];simpa using hz)
 . cases e
noncomputable def addE:G2:=orG addD zpp
theorem zfs:OpM X (binaryOp .Add) addE:=zhr za7 zmg
end
end L2.MP
namespace L2.MP
open PySem PySem.Spec PyProof.Rows PySem.SeqAt PySem.MeetsSeq PySem.MeetsSeq2 PySem.MeetsSeq3
section
variable {prog:Program} {w:World} {A:Around} {E:Value->Shared->Prop} {s:Shared}
theorem zfC{t sl:Addr}{items:Array Value}{vl vu:Value}{lo hi:Option Int}{Q:Value->Shared->Prop}(ht:IsTup s.heap t items)(hs:s.heap.IsSliceOf sl vl vu .none)(pl:IsPart vl lo)(pu:IsPart vu hi)
   (h0:HT.sIx items.size 0 lo=0) (h1:HT.sIx items.size items.size hi=items.size) (h:Q (.ref t) s):wpAny (model prog w) A (getItem (.ref t) (.ref sl)) Q E s:=by
 obtain⟨os,hos,hcs,hds⟩:=id hs;have hTs:s.TypeIs (.ref sl) "slice":=⟨os,hos,hcs⟩
 unfold getItem
 try with_reducible refine A0 ?_
 first | refine Aa (Ab ?_) | skip
 refine Aa (Eo ht.typeIs (by decide) (Aa (AM (name:=A5 "__getitem__") ht.typeIs Bv (AC Bv ht.typeIs DX ?_ (D9 _ _)))));show wpAny _ _ (CW (.ref t) >>= _) _ _ s;refine Aa (FS ht (Aa (Ct hTs ?_)));rw[if_pos (by decide)];refine Aa (HT.sliceApplied_gen hs pl pu ?_);rw[h0,h1];have yes:((((0:Nat):Int)==0&&(1:Int)==1&&(items.size - 0)==items.size)=true):=by simp
 show wpAny _ _ (if (((0:Nat):Int)==0&&(1:Int)==1&&(items.size - 0)==items.size)=true then _ else _) _ _ s;rw[if_pos yes];refine Aa (m:=Builtin.Tuple.tupleIsExact _) (Aa (Ct ht.typeIs (Ab ?_)));rw[if_pos (by decide)];exact Aa (m:=(pure (GM (GO (AJ t))):Sem Fin)) (Ab (Ab ⟨_,rfl,Ab h⟩))
end
section
variable {X:Cx} {K:Ae} {H:Hp} {io:List Addr} {st st':Sto} {e:Expr} {m:ME} {pos:Pos}
noncomputable def rSlW(K:Ae):V->Option Int->Option Int->Hp->VK->Prop:=fun x lo hi H Q=>∃ a xs,x=.ref a/\SqT K H a xs/\HT.sIx xs.length 0 lo=0/\HT.sIx xs.length xs.length hi=xs.length/\Q (.ref a) H
theorem zlJ:SlR X (rSlW X.K):=by
 intro pins s σ H x v vl vu lo hi sl Q I rx hs pl pu h;obtain⟨a,xs,rfl,hx,h0,h1,q⟩:=h;cases rx;obtain⟨its,r,ht,hz⟩:=I.tuple hx;have hlen:its.toArray.size=xs.length:=by rw[Ao];exact r.length.symm
 exact⟨"tuple",_,PyProof.Rows.slot_tuple_getitem.lookup,ht.typeIs,zfC ht hs pl pu (by rw[hlen];exact h0) (by rw[hlen];exact h1) ⟨.ref a,H,I,rfl,q⟩⟩
noncomputable def slW:D->Option Int->Option Int->Sto->Option (D×Sto):=fun x lo hi st=>match x with
 | .tup ds=>if (decide (HT.sIx ds.length 0 lo=0)&&decide (HT.sIx ds.length ds.length hi=ds.length))=true then some (.tup ds,st) else none
 | _=>none
noncomputable def slC:D->Option Int->Option Int->Sto->Option (D×Sto):=fun x lo hi st=>orO (slB x lo hi st) (slW x lo hi st)
noncomputable def mSlC(m:ME)(l h:MO):ME:=fun ρ st=>(m ρ st).bind fun (x,s1)=>(l ρ s1).bind fun (lo,s2)=>(h ρ s2).bind fun (hi,s3)=>slC x lo hi s3
theorem zbA{lo hi:Option Expr}{ml mh:MO}{p2:Pos}(he:SE X e m)(hl:SO X lo ml)(hu:SO X hi mh):SE X (.Subscript e (.Slice lo hi none p2) pos) (mSlC m ml mh):=by
 rintro pins s σ H Q I ⟨ρ,st,io,d,st',E,S,e0,k⟩;obtain⟨⟨x,s1⟩,e1,e0⟩:=zag e0;obtain⟨⟨lo',s2⟩,e2,e0⟩:=zag e0;obtain⟨⟨hi',s3⟩,e3,e0⟩:=zag e0
 rcases zb7 e0 with e0 | e0
 . exact zjS he hl hu pins s σ H Q I ⟨ρ,st,io,d,st',E,S,by simp only[mSlB,e1,e2,e3,Ac];exact e0,k⟩
 . refine zeP zlJ he hl hu pins s σ H Q I ?_;refine⟨ρ,st,io,x,s1,E,S,e1,fun v1 H1 k1 X1 S1 R1=>⟨ρ,s1,io++k1,lo',s2,E.ext S X1,S1,e2,fun H2 k2 X2 S2=>⟨ρ,s2,(io++k1)++k2,hi',s3,(E.ext S X1).ext S1 X2,S2,e3,fun H3 k3 X3 S3=>?_⟩⟩⟩;have R3:=(R1.ext S1 X2).ext S2 X3;have k':=((k.on S1 X1).on S2 X2).on S3 X3;unfold slW at e0
   split at e0
   . rename_i ds;obtain⟨hw,e0⟩:=zav e0;cases e0;rw[An] at hw;obtain⟨p,xs,rfl,hp,r⟩:=id R3;exact⟨p,xs,rfl,SqT.of hp,by rw[r.length];exact of_decide_eq_true hw.1,by rw[r.length];exact of_decide_eq_true hw.2,k'.now S3 R3⟩
   . cases e0
end
end L2.MP
namespace L2.MP
open PySem L2 PySem.Spec PyProof.Rows
section
variable {K:Ae} {x:Str} {st:Stmt} {f:Addr}
structure FdIn(K:Ae)(x:Str)(st:Stmt)(f:Addr):Prop where
 ex:∃ (oc:Value) (od:Option Addr) (kV dc pm:Value) (an:Option Addr) (cd ct:Value) (sl:Array (Option Value)),K.lookup f=some ⟨oc,od,.func (Cc x x (zd1 st) (zcJ st) (zaA st) .none kV dc pm an cd ct),sl⟩/\Di K cd x=true
 ns:Bp K mainGlobals x=some (some (.ref f))
 kp:Co K (.ref f)=true
theorem zen{oc kV dc pm cd ct:Value}{od an:Option Addr}{sl:Array (Option Value)}(a:Bp K mainGlobals x=some (some (.ref f)))(l:K.lookup f=some ⟨oc,od,.func (Cc x x (zd1 st) (zcJ st) (zaA st) .none kV dc pm an cd ct),sl⟩)(c:Di K cd x=true)(k:Co K (.ref f)=true):FdIn K x st f :=
 ⟨⟨oc,od,kV,dc,pm,an,cd,ct,sl,l,c⟩,a,k⟩
theorem zbB{h:Heap}{mg:Str->Option Value}{ps:List Str}(F:FdIn K x st f)(X:K.In h)(G:h.Ns mainGlobals mg)(b:∀ (kV doc pm:Value) (an:Option Addr) (cdv ct:Value) (us:List Value),us.length=ps.length->bindArgs (Cc x x (zd1 st) (zcJ st) (zaA st) .none kV doc pm an cdv ct) ⟨us,[]⟩=pure (ps.zip us)):Laid K mg x st ps:=by
 obtain⟨⟨oc,od,kV,dc,pm,an,cd,ct,sl,l,c⟩,a,k⟩:=F;exact⟨_,_,zmM l c k,Hr X G a,(zmM l c k).binds b⟩
end
theorem len1{α:Type}{P:List α->Prop}(h:∀ a,P [a])(l:List α)(e:l.length=1):P l:=by
 rcases l with _ | ⟨a,_ | ⟨b,l⟩⟩
 . cases e
 . exact h a
 . cases e
theorem len2{α:Type}{P:List α->Prop}(h:∀ a b,P [a,b])(l:List α)(e:l.length=2):P l:=by
 rcases l with _ | ⟨a,l⟩
 . cases e
 . exact len1 (P:=fun l=>P (a::l)) (h a) l (Gf e)
theorem len3{α:Type}{P:List α->Prop}(h:∀ a b c,P [a,b,c])(l:List α)(e:l.length=3):P l:=by
 rcases l with _ | ⟨a,l⟩
 . cases e
 . exact len2 (P:=fun l=>P (a::l)) (h a) l (Gf e)
theorem len4{α:Type}{P:List α->Prop}(h:∀ a b c d,P [a,b,c,d])(l:List α)(e:l.length=4):P l:=by
 rcases l with _ | ⟨a,l⟩
 . cases e
 . exact len3 (P:=fun l=>P (a::l)) (h a) l (Gf e)
end L2.MP
namespace L2.MP
open PySem PySem.Spec PyProof.Rows
end L2.MP
namespace L2.MP
open PySem L2 PySem.Spec PyProof.Rows
end L2.MP
namespace L2.MP
open PySem PySem.Spec PyProof.Rows
section
variable {X:Cx} {K:Ae} {H:Hp} {io:List Addr}
noncomputable def ltSD:G2:=fun x y st=>match x,y with
 | .str a,.str b=>some (.bl (decide (a.cps.toList < b.cps.toList)),st)
 | _,_=>none
theorem zoo:OpM X (compareOp .Lt) ltSD:=by
 rintro pins s σ H x y v u Q I rx ry ⟨dx,dy,st,io,d,st',Rx,Ry,S,e,k⟩;unfold ltSD at e
 split at e
 . cases e
   cases (show x=_ from Rx)
   cases (show y=_ from Ry)
   obtain⟨t,rfl⟩:=rx;obtain⟨t,rfl⟩:=ry;exact lt_str ⟨.bl _,H,I,rfl,k.now S rfl⟩
 . cases e
noncomputable def ltTD:G2:=fun x y st=>match x,y with
 | .tup a,.tup b=>(intsOf a).bind fun ns=>(intsOf b).map fun ms=>(.bl (HT.lexLt ns ms),st)
 | _,_=>none
theorem zon(hu:X.A.units+100 < cLine):OpM X (compareOp .Lt) ltTD:=by
 rintro pins s σ H x y v u Q I rx ry ⟨dx,dy,st,io,d,st',Rx,Ry,S,e,k⟩;unfold ltTD at e
 split at e
 . obtain⟨ns,e1,e⟩:=zag e;obtain⟨ms,e2,e⟩:=zaj e;cases e;obtain⟨p,xs,ex,hp,r1⟩:=Rx;obtain⟨q,ys,ey,hq,r2⟩:=Ry
   cases (ints_rep r1 e1).1
   cases (ints_rep r2 e2).1
   exact zqo (by omega) pins s σ H x y v u Q I rx ry ⟨p,q,ns,ms,ex,ey,SqT.of hp,SqT.of hq,k.now S rfl⟩
 . cases e
noncomputable def ltB:G2:=orG ltD (orG ltSD ltTD)
theorem zqp(hu:X.A.units+100 < cLine):OpM X (compareOp .Lt) ltB:=zhr zj8 (zhr zoo (zon hu))
end
end L2.MP
namespace L2.MP
open PySem PySem.Spec
section
variable {κ:Type} [DecidableEq κ]
noncomputable def met(val:Nat->κ):Nat->List κ
 | 0=>[]
 | i+1=>if val i∈met val i then met val i else met val i++[val i]
theorem zgQ(val:Nat->κ):∀ i,(met val i).length<=i
 | 0=>Af _
 | i+1=>by
   have ih:=zgQ val i;unfold met
   split
   . omega
   . rw[AE,CO];omega
theorem zk4(val:Nat->κ)(i:Nat)(x:κ):decide (x∈met val (i+1))=(decide (x∈met val i) || decide (x=val i)):=by
 rw[CF,C3,decide_eq_true_iff,decide_eq_true_iff,decide_eq_true_iff];rw[met]
 split
 . rename_i h
   constructor
   . exact .inl
   . rintro (z | z)
     . exact z
     . rw[z];exact h
 . rw[Hf,Ce]
theorem zmp(val:Nat->κ)(i:Nat):(met val (i+1)).length=if decide (val i∈met val i)=true then (met val i).length else (met val i).length+1:=by
 rw[met]
 by_cases h:val i∈met val i
 . rw[if_pos h,if_pos (decide_eq_true h)]
 . rw[if_neg h,if_neg (by simpa using h),AE];rfl
end
section
variable {prog:Program} {w:World} {A:Around} {E:Value->Shared->Prop} {s:Shared} {κ:Type} [DecidableEq κ] {knd:KeyKind prog w κ}
noncomputable def zec(led:Bool):Obj:={ cls:=.type "set",dict:=none,data:=.set #[] 0 (.fresh 0 0 led) }
end
end L2.MP
namespace L2.MP
open PySem PySem.Spec PyProof.Rows
section
variable {X:Cx} {K:Ae} {H:Hp} {io:List Addr} {st st':Sto}
theorem zo4:bootBuiltins "set"=some (.type "set"):=by decide +kernel
end
section
variable {κ:Type} [DecidableEq κ]
theorem zoC(val:Nat->κ):∀ {i:Nat} {x:κ},x∈met val i ↔ ∃ j,j < i/\val j=x
 | 0,x=>by simp[met]
 | i+1,x=>by
   have:=zk4 val i x;rw[CF,C3,decide_eq_true_iff,decide_eq_true_iff,decide_eq_true_iff] at this;rw[this,zoC val]
   constructor
   . rintro (⟨j,h,e⟩ | e)
     . exact⟨j,by omega,e⟩
     . exact⟨i,by omega,e.symm⟩
   . rintro ⟨j,h,e⟩
     by_cases q:j=i
     . subst q;exact .inr e.symm
     . exact .inl ⟨j,by omega,e⟩
end
end L2.MP
namespace L2.MP
open PySem PySem.Spec
end L2.MP
namespace L2.MP
open PySem PySem.Spec PyProof.Rows
section
variable {X:Cx} {K:Ae} {H:Hp} {io:List Addr} {m:ME} {st st':Sto} {tg:Expr}
end
end L2.MP
namespace L2.MP
open PySem PySem.Spec
theorem zhp{t:SetTable}{es:Array (Int×Value)}{n:Nat}(hp:t.plain=false):(relayAll t es n).2.1.plain=false:=by
 unfold relayAll
 split
 . rename_i t1 od e1;have q:t1.plain=false:=by
     unfold SetTable.relaid SetTable.laid at e1
     cases hc:SetTable.layClean (SetTable.sizeAbove n - 1) (es.map (·.1)) with
     | none=>rw[hc] at e1;cases e1
     | some ow =>
       rw[hc] at e1;cases e1;exact hp
   dsimp only
   split
   . exact q
   . rfl
 . rfl
theorem zj1{t:SetTable}{es:Array (Int×Value)}{n:Nat}:(relayAll t es n).2.1.led=t.led:=by
 unfold relayAll
 split
 . rename_i t1 od e1;have q:t1.led=t.led:=by
     unfold SetTable.relaid SetTable.laid at e1
     cases hc:SetTable.layClean (SetTable.sizeAbove n - 1) (es.map (·.1)) with
     | none=>rw[hc] at e1;cases e1
     | some ow=>rw[hc] at e1;cases e1;rfl
   dsimp only
   split
   . exact q
   . rfl
 . rfl
theorem zoJ{t:SetTable}{es:Array (Int×Value)}{h:Int}{x:Value}:(layNew t es h x).2.1.led=t.led:=by
 unfold layNew
 split
 . dsimp only;unfold SetTable.orStandIn
   split <;> rfl
 . rfl
section
variable {prog:Program} {w:World} {A:Around} {E:Value->Shared->Prop} {s:Shared} {κ:Type} [DecidableEq κ] {knd:KeyKind prog w κ}
def SetD(knd:KeyKind prog w κ)(h:Heap)(a:Addr)(S:κ->Bool)(n:Nat):Prop :=
 ∃ o es ep t,h.get? a=some o/\o.ExactSet/\o.data=.set es ep t/\ElemsOf knd es.toList/\(∀ k,S k=true ↔ ∃ e∈es.toList,knd.is k e.2=true)/\es.size < scanBound/\t.fits es.size=true/\es.size=n/\(n=0\/t.plain=false)/\(w.params.followText "set-order"=true\/t.led=true)
theorem SetD.as{h:Heap}{a:Addr}{S S':κ->Bool}{n n':Nat}(x:SetD knd h a S n)(e:∀ k,S k=S' k)(en:n=n'):SetD knd h a S' n':=by
 have:S=S':=funext e;subst this;subst en;exact x
theorem zfh{h:Heap}{a:Addr}{o:Obj}{es es2:Array (Int×Value)}{ep n:Nat}{t t2:SetTable}{S:κ->Bool}(g:h.get? a=some o)(gx:o.ExactSet)(gd:o.data=.set es ep t)(k1:ElemsOf knd es2.toList)(k2:∀ k,S k=true ↔ ∃ e∈es2.toList,knd.is k e.2=true)(k3:es2.size < scanBound)(k4:t2.fits es2.size=true)(k5:es2.size=n)(k6:t2.plain=false)(k7:w.params.followText "set-order"=true\/t2.led=true) :
   (h.update a (Dm es2 t2)).get? a=some { o with data:=.set es2 (ep+1) t2 }/\SetD knd (h.update a (Dm es2 t2)) a S n:=by
 obtain⟨y,_⟩:=SetOf_store (knd:=knd) g gx gd k1 k2 k3 k4;exact⟨y,_,es2,ep+1,t2,y,gx,rfl,k1,k2,k3,k4,k5,.inr k6,k7⟩
theorem znc{a:Addr}{S:Str->Bool}{n:Nat}{z:Str}{tk:Tok}{Q:Bool->Shared->Prop}(x:SetD (strKind prog w) s.heap a S n)(room:n+1 < scanBound)
   (q:∀ h',Bg a s.heap h'->SetD (strKind prog w) h' a (fun y=>S y || decide (y=z)) (if S z then n else n+1)->Q (!S z) { s with heap:=h' }) :
   wpAny (model prog w) A (setAddHashed a (.str z tk) ((strKind prog w).hash z)) Q E s:=by
 have key:(strKind prog w).is z (.str z tk)=true:=by
   show Ed z (.str z tk)=true;simp[Ed]
 obtain⟨o,es,ep,t,g,gx,gd,k1,k2,k3,k4,k5,k6,k7⟩:=x;have r1:es.size+1 < scanBound:=by omega
 have sc:(ET z tk).scannable=true:=rfl;unfold setAddHashed setAddHashedIn;refine A0 (Aa (AV g gd k4 ?_));dsimp only;rw[byScan_of sc k3 k1];simp only[if_true];unfold setAddByScan;refine Aa (Aa (CC (Aa (wpAny_setScan_of key g gd k4 k1 ?_))))
 cases hr:List.findIdx? (fun e=>(strKind prog w).is z e.2) es.toList with
 | some j =>
   dsimp only;obtain⟨hj,hp,_⟩:=List.findIdx?_eq_some_iff_getElem.mp hr;have hS:S z=true:=(k2 z).mpr ⟨es.toList[j],B8 hj,hp⟩;refine Ab (Ab ?_);have es0:s={ s with heap:=s.heap }:=by cases s;rfl
   have:=q s.heap (Gz a s.heap) ⟨o,es,ep,t,g,gx,gd,k1,fun y=>by
     rw[C3,decide_eq_true_eq,<-k2 y];exact⟨fun hk=>hk.elim id (fun e=>e ▸ hS),.inl⟩,k3,k4,by rw[hS];exact k5,by rw[hS];exact k6,k7⟩
   rw[hS] at this;rw[es0];exact this
 | none =>
   dsimp only;have hS:S z=false:=by
     cases hk:S z with
     | false=>rfl
     | true =>
       obtain⟨e,he,hp⟩:=(k2 z).mp hk;have:=List.findIdx?_eq_none_iff.mp hr e he;rw[hp] at this;cases this
   have lp:=layNew_perm t es ((strKind prog w).hash z) (.str z tk);have lf:=layNew_fits t es ((strKind prog w).hash z) (.str z tk);have ll:=zoJ (t:=t) (es:=es) (h:=(strKind prog w).hash z) (x:=.str z tk);generalize layNew t es ((strKind prog w).hash z) (.str z tk)=L at lp lf ll ⊢;obtain⟨es1,t1,wd,gv⟩:=L;dsimp only at lp lf ll ⊢;rw[Es] at lp;rw[<-ll] at k7;have m1:ElemsOf (strKind prog w) es1.toList:=(k1.push key sc).perm lp;have m2:=mem_push_iff key k2 lp;have sz:es1.size=n+1:=by rw[<-Au,lp.length_eq,AE,Au,k5];rfl
   have m3:es1.size < scanBound:=by rw[sz];exact room
   have fin:∀ h',Bg a s.heap h'->SetD (strKind prog w) h' a (fun y=>S y || decide (y=z)) (n+1)->Q true { s with heap:=h' }:=fun h' sb y=>by
     have:=q h' sb;rw[hS] at this;exact this y
   have gw:∀ (b:Bool) {s1:Shared} {Q1:Unit->Shared->Prop},Q1 () s1->wpAny (model prog w) A (match b with | true=>rule "set.scan.the-table-gave-way" | false=>pure ()) Q1 E s1:=fun b s1 Q1 y=>by
     cases b
     . exact Ab y
     . exact CC y
   have tail:∀ t2:SetTable,t2.fits es1.size=true->t2.plain=false->t2.led=t1.led->wpAny (model prog w) A (do
       storeSet a es1 t2
       if (!wd&&t2.tooFull)=true then do
           (match (relayAll t2 es1 (SetTable.grown es1.size)).2.2 with | true=>rule "set.scan.the-table-gave-way" | false=>pure ())
           storeSet a (relayAll t2 es1 (SetTable.grown es1.size)).1 (relayAll t2 es1 (SetTable.grown es1.size)).2.1
           pure (some true)
         else pure (some true)) (fun r s1=>r=some true/\∃ h',s1={ s with heap:=h' }/\Bg a s.heap h'/\SetD (strKind prog w) h' a (fun y=>S y || decide (y=z)) (n+1)) E s:=fun t2 f2 p2 l2=>by
     rw[<-l2] at k7;refine Aa (Dr g gd ?_ (Ds m3));obtain⟨g1,x1⟩:=zfh (knd:=strKind prog w) g gx gd m1 m2 m3 f2 sz p2 k7;have b1:=AL s.heap a (Dm es1 t2)
     split
     . have rp:=relayAll_perm t2 es1 (SetTable.grown es1.size);have rf:=relayAll_fits t2 es1 (SetTable.grown es1.size);have rq:=zhp (es:=es1) (n:=SetTable.grown es1.size) p2;have rl:=zj1 (t:=t2) (es:=es1) (n:=SetTable.grown es1.size);rw[<-rl] at k7;generalize relayAll t2 es1 (SetTable.grown es1.size)=Rl at rp rf rq k7 ⊢;obtain⟨es2,t3,gv2⟩:=Rl;dsimp only at rp rf rq k7 ⊢;have s2:es2.size=es1.size:=by rw[<-Au,rp.length_eq,Au]
       have n2:∀ y,(S y || decide (y=z))=true ↔ ∃ e∈es2.toList,(strKind prog w).is y e.2=true:=fun y=>(m2 y).trans ⟨fun⟨e,he,u⟩=>⟨e,rp.mem_iff.mpr he,u⟩,fun⟨e,he,u⟩=>⟨e,rp.mem_iff.mp he,u⟩⟩;refine Aa (gw _ (Aa (Dr g1 rfl ?_ (Ds (by rw[s2];exact m3)))));obtain⟨_,x2⟩:=zfh (knd:=strKind prog w) (n:=n+1) g1 gx rfl (m1.perm rp) n2 (s2 ▸ m3) rf (s2.trans sz) rq k7;exact Ab ⟨rfl,_,rfl,b1.trans (AL _ a _),x2⟩
     . exact Ab ⟨rfl,_,rfl,b1,x1⟩
   have go:∀ t2:SetTable,t2.fits es1.size=true->t2.plain=false->t2.led=t1.led->wpAny (model prog w) A ((do
       storeSet a es1 t2
       if (!wd&&t2.tooFull)=true then do
           (match (relayAll t2 es1 (SetTable.grown es1.size)).2.2 with | true=>rule "set.scan.the-table-gave-way" | false=>pure ())
           storeSet a (relayAll t2 es1 (SetTable.grown es1.size)).1 (relayAll t2 es1 (SetTable.grown es1.size)).2.1
           pure (some true)
         else pure (some true))) (fun r s1=>wpAny (model prog w) A (match r with | some added=>pure added | none=>setAddHashedIn a (.str z tk) ((strKind prog w).hash z) 99999) Q E s1) E s:=fun t2 f2 p2 l2=>BH (tail t2 f2 p2 l2) (fun r s1 ⟨e,h',e1,b,y⟩=>by subst e e1;exact Ab (fin h' b y)) fun _ _ e=>e
   refine Aa (gw _ ?_)
   split
   . refine Aa (Ab ?_);exact go _ (SetTable.fits_plain_off lf) rfl rfl
   . rename_i np;refine Aa (Ab ?_);exact go _ lf (by simpa using np) rfl
end
end L2.MP
namespace L2.MP
open PySem PySem.Spec PyProof.Rows
theorem zd0{α:Type}:∀ {l:List α} {i:Nat} (h:i < l.length),(l[i]::l.eraseIdx i).Perm l
 | x::l,0,h=>Cq _
 | x::l,i+1,h=>by
   rw[List.eraseIdx_cons_succ,List.getElem_cons_succ];exact (Hj _ _ _).trans (FC _ (zd0 (by simpa using h)))
theorem zk2{α:Type}(next:Nat->Nat):∀ (f k:Nat) (left:List α) (out:Array α),f=left.length->(Gg next f k left out).toList.Perm (out.toList++left)
 | 0,k,left,out,e=>by
   have:left=[]:=List.length_eq_zero_iff.mp e.symm;subst this;unfold Gg;simp
 | f+1,k,left,out,e=>by
   have hl:next k % left.length < left.length:=DS _ (by omega);unfold Gg;rw[Am hl];dsimp only;refine (zk2 next f (k+1) _ _ (by rw[El hl];omega)).trans ?_;rw[Es,Av];exact List.Perm.append_left _ (zd0 hl)
theorem zdI{α:Type}(next:Nat->Nat)(xs:Array α):(pickOrder next xs).toList.Perm xs.toList:=by
 have:=zk2 next xs.size 0 xs.toList #[] (by simp);simpa[pickOrder] using this
theorem zja{α:Type}{M:Model}{A:Around}{E:Value->Shared->Prop}:∀ (n:Nat) (xs:List α) (s:Shared) (Q:List α->Shared->Prop),n=xs.length->(∀ ys d,ys.Perm xs->Q ys { s with drawn:=d })->wpAny M A (drawOrder n xs) Q E s
 | 0,xs,s,Q,e,h=>by
   have:xs=[]:=List.length_eq_zero_iff.mp e.symm;subst this;exact Ab (h [] s.drawn (Cq _))
 | n+1,[],s,Q,e,h=>by cases e
 | n+1,x::xs,s,Q,e,h=>by
   unfold drawOrder;refine Aa fun Γ p hΓ=>⟨by simp,?_⟩
   generalize hi:M.w.draws .order (s.drawn.get .order) % (x::xs).length=i;have hl:i < (x::xs).length:=by rw[<-hi];exact DS _ (by simp)
   show wpAny M A (match (x::xs)[i]? with | some y=>(do return y::(<-drawOrder n ((x::xs).eraseIdx i))) | none=>unsupported "internal:drawOrder") Q E { s with drawn:=s.drawn.bump .order };rw[Am hl];dsimp only;refine Aa (zja n _ _ _ (by rw[El hl];simp at e ⊢;omega) fun ys d hp=>Ab (h _ d ?_));exact (FC _ hp).trans (zd0 hl)
theorem zay:Slot "set_iterator" "__next__" "set_iterator.__next__":=.of (owner:="set_iterator") (n:="__next__") (by rw[typeLookup_type,FD];kernel_rfl) (by decide +kernel) (by decide +kernel) (by decide +kernel) (by first | exact .inl (by decide +kernel) | exact .inr (by decide +kernel)) (by rw[FE];kernel_rfl)
theorem zbx:Slot "set_iterator" "__iter__" "set_iterator.__iter__":=.of (owner:="set_iterator") (n:="__iter__") (by rw[typeLookup_type,FD];kernel_rfl) (by decide +kernel) (by decide +kernel) (by decide +kernel) (by first | exact .inl (by decide +kernel) | exact .inr (by decide +kernel)) (by rw[FE];kernel_rfl)
theorem zbo:entryFor table "set_iterator.__next__"=some Builtin.«set_iterator.__next__»:=entryFor_of_tree (by kernel_rfl)
theorem zby(a:Value):argsOk "set_iterator.__next__" ⟨[a],[]⟩:=by unfold argsOk;kernel_rfl
theorem zdf:entryFor table "set.__iter__"=some Builtin.«frozenset.__iter__»:=entryFor_alias (id':="frozenset.__iter__") (by kernel_rfl) rfl (by decide +kernel) (by kernel_rfl)
section
variable {prog:Program} {w:World} {A:Around} {E:Value->Shared->Prop} {s:Shared}
def zfI(I a:Addr)(first:Value)(n ep i:Nat)(h:Heap):Prop:=∃ o,h.get? I=some o/\o.cls=.type "set_iterator"/\o.data=.fields #[first,.int i 0,.ref a,.int n 0,.int ep 0]
theorem zfI.ty{I a:Addr}{first:Value}{n ep i:Nat}(x:zfI I a first n ep i s.heap):s.TypeIs (.ref I) "set_iterator":=let ⟨o,e,c,_⟩:=x;⟨o,e,c⟩
end
inductive WalkAt (w:World) (a:Addr) (es:Array (Int×Value)) (ep:Nat) (vs:List Value):Value->Heap->Prop
 | text {h:Heap} (hb:w.params.followText "set-order"=true) (e:vs=(pickOrder (w.params.setOrder a ep) es).toList.map (·.2)):WalkAt w a es ep vs (.int 0 0) h
 | drawn {h:Heap} {T:Addr} {ps:List Nat} (hT:IsTup h T (ps.map fun (i:Nat)=>rawInt i).toArray) (hl:ps.length=vs.length) (e:∀ (i p:Nat),ps[i]?=some p->∃ q:Int×Value,es[p]?=some q/\vs[i]?=some q.2):WalkAt w a es ep vs (.ref T) h
section
variable {prog:Program} {w:World} {A:Around} {E:Value->Shared->Prop} {s:Shared}
theorem zlN{I a:Addr}{first:Value}{n ep i:Nat}{o:Obj}{es:Array (Int×Value)}{t:SetTable}{vs:List Value}{x:Value}{Q:Option Value->Shared->Prop}(hI:zfI I a first n ep i s.heap)(ho:s.heap.get? a=some o)(hd:o.data=.set es ep t)(hf:t.fits es.size=true)(hn:es.size=n)
   (hw:WalkAt w a es ep vs first s.heap) (hx:vs[i]?=some x) (hQ:∀ h',zfI I a first n ep (i+1) h'->Bg I s.heap h'->Q (some x) { s with heap:=h' }):wpAny (model prog w) A (pyNext (.ref I)) Q E s:=by
 obtain⟨oI,eI,cI,dI⟩:=id hI;unfold pyNext;refine Aa (BD (AM (name:=A5 "__next__") hI.ty zay (AC zay hI.ty zbo ?_ (zby _))));unfold Builtin.«set_iterator.__next__»;refine Aa (Ab ?_);refine Aa (BO eI dI ?_);dsimp only;refine Aa (BG ho hd hf ?_);rw[if_neg (by rw[hn];simp)];have hIa:a≠I:=fun z=>by
   subst z;rw[ho] at eI;cases eI;rw[hd] at dI;cases dI
 cases hw with
 | text hb e =>
   dsimp only;subst e;rw[AA] at hx;obtain⟨q,hq,rfl⟩:=zaj hx;unfold setNext;refine Aa (Aa (AV ho hd hf ?_));unfold setsByText;refine Aa (Aa (Bn (Ab ?_)));refine A1 (fun _=>?_) (fun z=>absurd hb z);dsimp only;rw[if_neg (by simp)];unfold setWalk;refine Aa (Aa (AV ho hd hf ?_));unfold setsByText;refine Aa (Aa (Bn (Ab ?_)));refine A1 (fun _=>?_) (fun z=>absurd hb z);refine Aa (Bn (Ab (Ab ?_)));have:(pickOrder (w.params.setOrder a ep) es)[(i:Int).toNat]?=some q:=by rw[A7,<-Az];exact hq
   show wpAny _ _ (match ((pickOrder (w.params.setOrder a ep) es)[(i:Int).toNat]?).map fun e=>(e.2,(0:Int).toNat) with | some (x,next)=>_ | none=>_) _ _ _;rw[this];show wpAny _ _ (setField (AJ I) 0 (rawInt 0) >>= _) _ _ _;refine Aa (Bd eI dI (by simp) ?_);have e2:=AS (CY (·.setIfInBounds 0 (rawInt 0))) eI (Bl (Ax dI _));refine Aa (Bd e2 (Ax dI _) (by simp) (Ab ⟨q.2,rfl,Ab (hQ _ ?_ ((AL ..).trans (AL ..)))⟩));refine⟨_,AS _ e2 (Bl (Ax (Ax dI _) _)),?_,?_⟩
   . rw[BF,BF];exact cI
   . rw[Ax (Ax dI _)];simp[rawInt]
 | drawn hT hl e =>
   rename_i T ps;dsimp only;obtain⟨oT,eT,cT,m,dT⟩:=hT;refine Aa (BB eT dT ?_);have hi:i < ps.length:=by rw[hl];exact (List.getElem?_eq_some_iff.mp hx).1
   obtain⟨q,h1,h2⟩:=e i _ (Am hi);rw[h2] at hx;cases hx;have:((ps.map fun (i:Nat)=>rawInt i).toArray)[(i:Int).toNat]?=some (rawInt (ps[i]:Nat)):=by simp[hi]
   dsimp only;rw[this];show wpAny _ _ (setNextDrawn a ((ps[i]:Nat):Int).toNat _ >>= _) _ _ _;unfold setNextDrawn;refine Aa (Aa (AV ho hd hf ?_));dsimp only;rw[if_neg (by simp),A7,h1];refine Ab ?_;refine Aa (Bd eI dI (by simp) (Ab ⟨q.2,rfl,Ab (hQ _ ?_ (AL ..))⟩));refine⟨_,AS _ eI (Bl (Ax dI _)),(BF ..).trans cI,?_⟩;rw[Ax dI];simp[rawInt]
theorem zhZ{I:Addr}{h':Heap}{Q:Option Value->Shared->Prop}(hh:A.handled=none)(hQ:∀ h',B9 I s.heap h'->Q none { s with heap:=h' })(hk:B9 I s.heap h') :
   wpAny (model prog w) A.in1 (newExc (.type "StopIteration") [] >>= fun e=>(raiseNew e:Sem Fin)) (fun fin s'=>∃ v,fin=GM (GO v)/\wpAny (model prog w) A (pure (some v)) Q E s') (fun e s'=>wpAny (model prog w) A (isInstance e (BK "StopIteration") >>= fun b=>if b=true then pure none else throw e) Q E s') { s with heap:=h' }:=by
 refine Aa ?_;simp only[newExc,newTuple];refine Aa (Aw (Aa (m:=firstArgMember _ _) (D5 (a:=AW) (by first | rfl | (simp only[firstArgMember];rfl)) (Aw ?_ (by size_fits)))) (by size_fits));simp only[raiseNew];refine Aa (Ei ?_);rw[show A.in1.handled=none from hh];refine Aa (Ab (Fp ?_));refine Aa (CT (T:="StopIteration") (b:=true) ⟨_,Al _ rfl,rfl⟩ D1 ?_);exact Ab (hQ _ ((hk.push _).push _))
theorem znF{I a:Addr}{first:Value}{n ep i:Nat}{o:Obj}{es:Array (Int×Value)}{t:SetTable}{vs:List Value}{Q:Option Value->Shared->Prop}(hh:A.handled=none)(hI:zfI I a first n ep i s.heap)(ho:s.heap.get? a=some o)(hd:o.data=.set es ep t)(hf:t.fits es.size=true)(hn:es.size=n)
   (hw:WalkAt w a es ep vs first s.heap) (hx:vs[i]?=none) (hQ:∀ h',B9 I s.heap h'->Q none { s with heap:=h' }):wpAny (model prog w) A (pyNext (.ref I)) Q E s:=by
 obtain⟨oI,eI,cI,dI⟩:=id hI;unfold pyNext;refine Aa (BD (AM (name:=A5 "__next__") hI.ty zay (AC zay hI.ty zbo ?_ (zby _))));unfold Builtin.«set_iterator.__next__»;refine Aa (Ab ?_);refine Aa (BO eI dI ?_);dsimp only;refine Aa (BG ho hd hf ?_);rw[if_neg (by rw[hn];simp)];have fin:=fun (h':Heap) (hk:B9 I s.heap h')=>zhZ (prog:=prog) (w:=w) (E:=E) hh hQ hk
 cases hw with
 | text hb e =>
   dsimp only;subst e;rw[AA] at hx;have hq:(pickOrder (w.params.setOrder a ep) es).toList[i]?=none:=by
     cases hz:(pickOrder (w.params.setOrder a ep) es).toList[i]? with
     | none=>rfl
     | some z=>rw[hz] at hx;cases hx
   unfold setNext;refine Aa (Aa (AV ho hd hf ?_));unfold setsByText;refine Aa (Aa (Bn (Ab ?_)));refine A1 (fun _=>?_) (fun z=>absurd hb z);dsimp only;rw[if_neg (by simp)];unfold setWalk;refine Aa (Aa (AV ho hd hf ?_));unfold setsByText;refine Aa (Aa (Bn (Ab ?_)));refine A1 (fun _=>?_) (fun z=>absurd hb z);refine Aa (Bn (Ab (Ab ?_)));have:(pickOrder (w.params.setOrder a ep) es)[(i:Int).toNat]?=none:=by rw[A7,<-Az];exact hq
   show wpAny _ _ (match ((pickOrder (w.params.setOrder a ep) es)[(i:Int).toNat]?).map fun e=>(e.2,(0:Int).toNat) with | some (x,next)=>_ | none=>_) _ _ _;rw[this];show wpAny _ _ (setField (AJ I) 2 AW >>= _) _ _ _;exact Aa (Bd eI dI (by simp) (fin _ (AL ..).extBut))
 | drawn hT hl e =>
   rename_i T ps;dsimp only;obtain⟨oT,eT,cT,m,dT⟩:=hT;refine Aa (BB eT dT ?_);have hi:ps.length<=i:=by rw[hl];exact List.getElem?_eq_none_iff.mp hx
   have:((ps.map fun (i:Nat)=>rawInt i).toArray)[(i:Int).toNat]?=none:=by simp[hi]
   dsimp only;rw[this];show wpAny _ _ (setField (AJ I) 0 (rawInt 0) >>= _) _ _ _;refine Aa (Bd eI dI (by simp) ?_);have e2:=AS (CY (·.setIfInBounds 0 (rawInt 0))) eI (Bl (Ax dI _));exact Aa (Bd e2 (Ax dI _) (by simp) (fin _ ((AL ..).trans (AL ..)).extBut))
end
theorem zfp{es:Array (Int×Value)}{ps:List Nat}(h:ps.Perm (AX es.size)):∃ vs:List Value,vs.Perm (es.toList.map (·.2))/\ps.length=vs.length/\∀ (i p:Nat),ps[i]?=some p->∃ q:Int×Value,es[p]?=some q/\vs[i]?=some q.2:=by
 refine⟨ps.map fun p=>(es.getD p (0,.none)).2,?_,by simp,fun i p hp=>?_⟩
 . refine (h.map _).trans (List.Perm.of_eq ?_);apply Et;intro i;rw[AA,AA]
   by_cases hi:i < es.size
   . rw[CZ hi];simp[hi]
   . rw[BU (by simp;omega)];simp[hi]
 . have hm:p < es.size:=by
     have:=h.mem_iff.mp (Bc hp);simpa using this
   refine⟨es[p],by simp[hm],?_⟩;rw[AA,hp];simp[hm]
theorem zcB:entryFor table "set_iterator.__iter__"=some Builtin.«dict_keyiterator.__iter__»:=entryFor_alias (id':="dict_keyiterator.__iter__") (by kernel_rfl) rfl (by decide +kernel) (by kernel_rfl)
theorem zcL(a:Value):argsOk "set_iterator.__iter__" ⟨[a],[]⟩:=by unfold argsOk;kernel_rfl
noncomputable def zgu(I a:Addr):Value->List Addr
 | .ref T=>[I,a,T]
 | _=>[I,a]
def zpe(a:Addr)(es:Array (Int×Value))(ep:Nat)(t:SetTable)(h:Heap):Prop:=∃ o,h.get? a=some o/\o.data=.set es ep t
section
variable {prog:Program} {w:World} {A:Around} {E:Value->Shared->Prop} {s:Shared}
theorem WalkAt.on{a:Addr}{es:Array (Int×Value)}{ep:Nat}{vs:List Value}{first:Value}{h h':Heap}{I:Addr}(x:WalkAt w a es ep vs first h)(k:∀ b∈zgu I a first,∀ o,h.get? b=some o->h'.get? b=some o):WalkAt w a es ep vs first h':=by
 cases x with
 | text hb e=>exact .text hb e
 | drawn hT hl e =>
   obtain⟨o,e1,r⟩:=hT;exact .drawn ⟨o,k _ (by simp[zgu]) o e1,r⟩ hl e
theorem WalkAt.apart{a:Addr}{es:Array (Int×Value)}{ep n i:Nat}{vs:List Value}{first:Value}{h:Heap}{I:Addr}{h':Heap}(x:WalkAt w a es ep vs first h)(y:zfI I a first n ep i h)(k:∀ b o,b ∉ [I]->h.get? b=some o->h'.get? b=some o):WalkAt w a es ep vs first h':=by
 cases x with
 | text hb e=>exact .text hb e
 | drawn hT hl e =>
   obtain⟨o,e1,c1,r⟩:=hT;obtain⟨o2,e2,c2,_⟩:=y;refine .drawn ⟨o,k _ o (fun z=>?_) e1,c1,r⟩ hl e;rw[List.mem_singleton.mp z,e2] at e1;cases e1;rw[c2] at c1;exact absurd (Value.type.inj c1) (by decide)
theorem zdE(hh:A.handled=none){I a:Addr}{first:Value}{n ep:Nat}{es:Array (Int×Value)}{t:SetTable}{vs:List Value}(hf:t.fits es.size=true)(hn:es.size=n)(hv:vs.length=n)(hne:a≠I) :
   Walks prog w A I (zgu I a first) [I] n (fun i v=>vs[i]?=some v) (fun i h=>zfI I a first n ep i h/\zpe a es ep t h/\WalkAt w a es ep vs first h) where
 sub:=fun b hb=>by
   rw[List.mem_singleton.mp hb];unfold zgu
   split <;> simp
 frame:=fun i h h' ⟨⟨o,e,r⟩,⟨o2,e2,r2⟩,x⟩ k=>⟨⟨o,k I (by unfold zgu;split <;> simp) o e,r⟩,⟨o2,k a (by unfold zgu;split <;> simp) o2 e2,r2⟩,x.on k⟩
 item:=fun i s Q E hi ⟨st,⟨o,e,d⟩,x⟩ hQ=>by
   have hx:vs[i]?=some vs[i]:=Am (by omega);refine zlN st e d hf hn x hx fun h' st' sb=>?_;have k:∀ b o,b ∉ [I]->s.heap.get? b=some o->h'.get? b=some o:=fun b o hb e=>sb.extBut b o (fun z=>hb (by simp[z])) e;exact hQ _ h' s.toks hx ⟨st',⟨o,k _ _ (by simpa using hne) e,d⟩,x.apart st k⟩ k
 done:=fun s Q E ⟨st,⟨o,e,d⟩,x⟩ hQ=>znF hh st e d hf hn x (BU (by omega)) fun h' he=>hQ h' s.toks fun b o hb e=>he b o (fun z=>hb (by simp[z])) e
 self:=fun i s Q E ⟨st,_,_⟩ hQ=>by
   refine B0 st.ty zbx (AC zbx st.ty zcB ?_ (zcL _));show wpAny _ _ (ret (.ref I)) _ _ s;exact Ab ⟨_,rfl,"set_iterator",_,st.ty,zay.lookup,hQ⟩
theorem zkH{xs:Array Nat}{j:Nat}(h:xs.size=0):SetTable.below xs j=0:=by
 unfold SetTable.below;rw[h];rfl
theorem zg5{xs:Array Nat}{j k:Nat}(h:xs.size=1)(hk:xs[0]?=some k):SetTable.below xs j=if k < j then 1 else 0:=by
 unfold SetTable.below;rw[h];have e:xs.getD 0 j=k:=by rw[Bj,hk];rfl
 show (if 0 < 1 then (if xs.getD 0 j < j then _ else _) else _)=_;rw[e,if_pos (by decide)];rfl
theorem zmP{I a:Addr}{ep:Nat}{o:Obj}{es:Array (Int×Value)}{t:SetTable}{x:Int×Value}{k:Nat}{Q:Option Value->Shared->Prop}(hb:w.params.followText "set-order"=false)(hl:t.led=true)(hI:zfI I a (.int 0 0) 1 ep 0 s.heap)(ho:s.heap.get? a=some o)(hd:o.data=.set es ep t)(hf:t.fits es.size=true)(hn:es.size=1)
   (hx:es[0]?=some x) (hk:t.place[0]?=some k) (hp:t.place.size=1) (hQ:∀ h',zfI I a (.int ((k+1:Nat):Int) 0) 1 ep 1 h'->Bg I s.heap h'->Q (some x.2) { s with heap:=h' }):wpAny (model prog w) A (pyNext (.ref I)) Q E s:=by
 obtain⟨oI,eI,cI,dI⟩:=id hI;unfold pyNext;refine Aa (BD (AM (name:=A5 "__next__") hI.ty zay (AC zay hI.ty zbo ?_ (zby _))));unfold Builtin.«set_iterator.__next__»;refine Aa (Ab ?_);refine Aa (BO eI dI ?_);dsimp only;refine Aa (BG ho hd hf ?_);rw[if_neg (by rw[hn];simp)];unfold setNext;refine Aa (Aa (AV ho hd hf ?_));unfold setsByText;refine Aa (Aa (Bn (Ab ?_)));refine A1 (fun z=>absurd (show w.params.followText "set-order"=true from z) (by rw[hb];simp)) (fun _=>?_);dsimp only;refine A1 (fun z=>?_) (fun _=>?_)
 . have z':(!t.plain&&decide (es.size > 1))=true:=z;rw[hn] at z';simp at z'
 refine Aa (show wpAny _ _ (if (!t.led&&!es.isEmpty)=true then unsupported "set:maker-not-led" else pure ()) _ _ _ from ?_);rw[hl];refine Ab (Ab ?_);have eb:SetTable.below t.place (Hl 0)=0:=by rw[zg5 hp hk];rfl
 rw[eb,hx,hk];show wpAny _ _ (setField (AJ I) 0 (rawInt ((k+1:Nat):Int)) >>= _) _ _ _;refine Aa (Bd eI dI (by simp) ?_);have e2:=AS (CY (·.setIfInBounds 0 (rawInt ((k+1:Nat):Int)))) eI (Bl (Ax dI _));refine Aa (Bd e2 (Ax dI _) (by simp) (Ab ⟨x.2,rfl,Ab (hQ _ ?_ ((AL ..).trans (AL ..)))⟩));refine⟨_,AS _ e2 (Bl (Ax (Ax dI _) _)),?_,?_⟩
 . rw[BF,BF];exact cI
 . rw[Ax (Ax dI _)];simp[rawInt]
theorem zoT{I a:Addr}{ep n sl i:Nat}{o:Obj}{es:Array (Int×Value)}{t:SetTable}{Q:Option Value->Shared->Prop}(hh:A.handled=none)(hb:w.params.followText "set-order"=false)(hl:t.led=true)(h1:n<=1)(hI:zfI I a (.int (sl:Int) 0) n ep i s.heap)(ho:s.heap.get? a=some o)(hd:o.data=.set es ep t)(hf:t.fits es.size=true)(hn:es.size=n)
   (hx:es[SetTable.below t.place sl]?=none) (hQ:∀ h',B9 I s.heap h'->Q none { s with heap:=h' }):wpAny (model prog w) A (pyNext (.ref I)) Q E s:=by
 obtain⟨oI,eI,cI,dI⟩:=id hI;unfold pyNext;refine Aa (BD (AM (name:=A5 "__next__") hI.ty zay (AC zay hI.ty zbo ?_ (zby _))));unfold Builtin.«set_iterator.__next__»;refine Aa (Ab ?_);refine Aa (BO eI dI ?_);dsimp only;refine Aa (BG ho hd hf ?_);rw[if_neg (by rw[hn];simp)];unfold setNext;refine Aa (Aa (AV ho hd hf ?_));unfold setsByText;refine Aa (Aa (Bn (Ab ?_)));refine A1 (fun z=>absurd (show w.params.followText "set-order"=true from z) (by rw[hb];simp)) (fun _=>?_);dsimp only;refine A1 (fun z=>?_) (fun _=>?_)
 . have z':(!t.plain&&decide (es.size > 1))=true:=z;rw[An] at z';have:=of_decide_eq_true z'.2;omega
 refine Aa (show wpAny _ _ (if (!t.led&&!es.isEmpty)=true then unsupported "set:maker-not-led" else pure ()) _ _ _ from ?_);rw[hl];refine Ab (Ab ?_);rw[A7,hx];show wpAny _ _ (setField (AJ I) 2 AW >>= _) _ _ _;exact Aa (Bd eI dI (by simp) (zhZ hh (hQ:=hQ) (AL ..).extBut))
end
section
variable {prog:Program} {w:World} {A:Around} {E:Value->Shared->Prop} {s:Shared}
noncomputable def slotAt(t:SetTable)(i:Nat):Nat:=if i=0 then 0 else t.place.getD 0 0+1
theorem zjv(hh:A.handled=none){I a:Addr}{n ep:Nat}{es:Array (Int×Value)}{t:SetTable}{vs:List Value}(hb:w.params.followText "set-order"=false)(hl:t.led=true)(h1:n<=1)(hf:t.fits es.size=true)(hn:es.size=n)(hv:vs=es.toList.map (·.2))(hne:a≠I) :
   Walks prog w A I [I,a] [I] n (fun i v=>vs[i]?=some v) (fun i h=>zfI I a (.int (slotAt t i:Int) 0) n ep i h/\zpe a es ep t h) where
 sub:=fun b hb=>by rw[List.mem_singleton.mp hb];simp
 frame:=fun i h h' ⟨⟨o,e,r⟩,o2,e2,r2⟩ k=>⟨⟨o,k I (by simp) o e,r⟩,o2,k a (by simp) o2 e2,r2⟩
 item:=fun i s Q E hi ⟨st,o,e,d⟩ hQ=>by
   have hi0:i=0:=by omega
   have hn1:n=1:=by omega
   subst hi0 hn1;have hp:t.place.size=1:=by
     have:=hf;unfold SetTable.fits at this;rw[An] at this;rw[<-hn];simpa using this.1
   have hx:es[0]?=some es[0]:=AF (by omega);have hk:t.place[0]?=some t.place[0]:=AF (by omega);refine zmP hb hl st e d hf hn hx hk hp fun h' st' sb=>?_;have k:∀ b o,b ∉ [I]->s.heap.get? b=some o->h'.get? b=some o:=fun b o hb e=>sb.extBut b o (fun z=>hb (by simp[z])) e;refine hQ _ h' s.toks ?_ ⟨?_,o,k _ _ (by simpa using hne) e,d⟩ k
   . rw[hv,AA,Az,hx];rfl
   . have:slotAt t (0+1)=t.place[0]+1:=by unfold slotAt;rw[Bj,hk];rfl
     rw[this];exact st'
 done:=fun s Q E ⟨st,o,e,d⟩ hQ=>by
   have hp:t.place.size=n:=by
     have:=hf;unfold SetTable.fits at this;rw[An] at this;rw[<-hn];simpa using this.1
   refine zoT hh hb hl h1 st e d hf hn ?_ fun h' he=>hQ h' s.toks fun b o hb e=>he b o (fun z=>hb (by simp[z])) e
   rcases Nat.eq_zero_or_pos n with z | z
   . rw[zkH (by omega)];exact Ca (by omega)
   . have hn1:n=1:=by omega
     have hk:t.place[0]?=some t.place[0]:=AF (by omega);have:slotAt t n=t.place[0]+1:=by unfold slotAt;rw[if_neg (by omega),Bj,hk];rfl
     rw[this,zg5 (by omega) hk,if_pos (DE _)];exact Ca (by omega)
 self:=fun i s Q E ⟨st,_⟩ hQ=>by
   refine B0 st.ty zbx (AC zbx st.ty zcB ?_ (zcL _));show wpAny _ _ (ret (.ref I)) _ _ s;exact Ab ⟨_,rfl,"set_iterator",_,st.ty,zay.lookup,hQ⟩
inductive IterOk (prog:Program) (w:World) (s:Shared) (a:Addr) (es:Array (Int×Value)) (n:Nat) (h':Heap) (I:Addr) (vs:List Value):Prop
 | mk (fp:List Addr) (St:Nat->Heap->Prop) (k:∀ b u,s.heap.get? b=some u->h'.get? b=some u) (hI:s.heap.objs.size<=I) (W:∀ A:Around,A.handled=none->Walks prog w A I fp [I] n (fun i v=>vs[i]?=some v) St) (st:St 0 h') (hfp:∀ b∈fp,b=a\/s.heap.objs.size<=b) (pv:vs.Perm (es.toList.map (·.2)))
theorem zlR{a:Addr}{n ep:Nat}{o:Obj}{es:Array (Int×Value)}{t:SetTable}{Q:Value->Shared->Prop}(ho:s.heap.get? a=some o)(hx:o.ExactSet)(hd:o.data=.set es ep t)(hf:t.fits es.size=true)(hn:es.size=n)(h3:n < 4096)(hp:n<=1\/t.plain=false)(hled:w.params.followText "set-order"=true\/t.led=true)
   (hQ:∀ h' d I vs,IterOk prog w s a es n h' I vs->Q (.ref I) { s with heap:=h',drawn:=d }):wpAny (model prog w) A (pyIter (.ref a)) Q E s:=by
 have ty:s.TypeIs (.ref a) "set":=⟨o,ho,hx.1⟩
 refine B0 ty F.slot_set_iter (AC F.slot_set_iter ty zdf ?_ (F.args_set_iter_1 _));unfold Builtin.«frozenset.__iter__» ER slotArgs;simp only[GP,CA,Aq,↓reduceIte,bind_assoc,Cg,bne_self_eq_false];unfold EG EH;refine Aa (Ab ?_);dsimp only;refine Aa (Ab ?_);refine Aa (Aa (BG ho hd hf (Ab ?_)));unfold setDrawn;refine Aa (Aa (AV ho hd hf ?_));dsimp only;unfold setsByText;refine Aa (Aa (Bn (Ab (Ab ?_))));have lay:∀ (first:Value) (vs:List Value) (h':Heap) (d:Drawn),(∀ b u,s.heap.get? b=some u->h'.get? b=some u)->(∀ h2:Heap,(∀ b u,h'.get? b=some u->h2.get? b=some u)->zfI h'.objs.size a first n ep 0 h2->zpe a es ep t h2->IterOk prog w s a es n h2 h'.objs.size vs) ->
     wpAny (model prog w) A.in1 (setEpoch a >>= fun e=>newFields "set_iterator" [first,rawInt 0,.ref a,rawInt es.size,rawInt e] >>= fun v=>(ret v:Sem Fin)) (fun fin s'=>∃ v,fin=GM (GO v)/\∃ T' r,s'.TypeIs v T'/\typeLookup (.type T') (A5 "__next__")=pure (some r)/\Q v s') E { s with heap:=h',drawn:=d }:=fun first vs h' d hk hw=>by
   unfold setEpoch;refine Aa (Aa (AV (hk _ _ ho) hd hf (Ab ?_)));refine Aa (Aw (Ab ⟨_,rfl,"set_iterator",_,⟨_,Al _ rfl,rfl⟩,zay.lookup,?_⟩));subst hn;exact hQ _ d _ vs (hw _ (fun b u e=>Ad _ e) ⟨_,Al _ rfl,rfl,rfl⟩ ⟨o,Ad _ (hk _ _ ho),hd⟩)
 have hlt:a < s.heap.objs.size:=Ak ho;have lenP:∀ {vs:List Value},vs.Perm (es.toList.map (·.2))->vs.length=n:=fun pv=>by rw[pv.length_eq,Ag,Au];exact hn
 refine A1 (fun z=>?_) (fun z=>?_)
 . refine Aa (zja _ _ _ _ (by simp) fun ps d hps=>?_);obtain⟨vs,v1,v2,v3⟩:=zfp hps;have hl:ps.length=n:=by rw[hps.length_eq,Ck,hn]
   refine Aa (Aw ?_ (by show _<=_;simp[hl];unfold sizeLine;omega));have sz:(s.heap.push { cls:=.type "tuple",data:=.seq (ps.map fun (i:Nat)=>rawInt i).toArray }).objs.size=s.heap.objs.size+1:=A4 ..;refine lay _ vs _ d (fun b u e=>Ad _ e) fun h2 k si sa=>?_;have hI:s.heap.objs.size<=(s.heap.push { cls:=.type "tuple",data:=.seq (ps.map fun (i:Nat)=>rawInt i).toArray }).objs.size:=by rw[sz];exact BE _
   refine .mk (zgu _ a (.ref s.heap.objs.size)) _ (fun b u e=>k b u (Ad _ e)) hI (fun A hA=>zdE hA hf hn (lenP v1) (AB (As hlt hI))) ⟨si,sa,.drawn ⟨_,k _ _ (Al _ rfl),rfl,_,rfl⟩ v2 v3⟩ (fun b hb=>?_) v1;unfold zgu at hb;simp only[AN,AH,or_false] at hb
   rcases hb with rfl | rfl | rfl
   . exact .inr hI
   . exact .inl rfl
   . exact .inr (Af _)
 . refine Aa (Ab ?_)
   cases hb:w.params.followText "set-order" with
   | true =>
     refine lay _ ((pickOrder (w.params.setOrder a ep) es).toList.map (·.2)) s.heap s.drawn (fun _ _ e=>e) fun h2 k si sa=>?_;refine .mk (zgu _ a (.int 0 0)) _ k (Af _) (fun A hA=>zdE hA hf hn (lenP ((zdI _ es).map _)) (AB hlt)) ⟨si,sa,.text hb rfl⟩ (fun b hm=>?_) ((zdI (w.params.setOrder a ep) es).map _);unfold zgu at hm;simp only[AN,AH,or_false] at hm
     rcases hm with rfl | rfl
     . exact .inr (Af _)
     . exact .inl rfl
   | false =>
     have h1:n<=1:=by
       rcases hp with h | h
       . exact h
       . rcases Nat.lt_or_ge 1 n with q | q
         . refine absurd ?_ z;show (!(w.params.followText "set-order")&&(!t.plain&&decide (es.size > 1)))=true;rw[hb,h,decide_eq_true (by omega)];rfl
         . exact q
     have hl:t.led=true:=hled.resolve_left (by rw[hb];simp);refine lay _ (es.toList.map (·.2)) s.heap s.drawn (fun _ _ e=>e) fun h2 k si sa=>?_;refine .mk [s.heap.objs.size,a] _ k (Af _) (fun A hA=>zjv hA hb hl h1 hf hn rfl (AB hlt)) ⟨si,sa⟩ (fun b hm=>?_) (Cq _);simp only[AN,AH,or_false] at hm
     rcases hm with rfl | rfl
     . exact .inr (Af _)
     . exact .inl rfl
theorem zi3{r:Addr}{Q:Bool->Shared->Prop}(hT:s.TypeIs (.ref r) "set")(h:Q false s):wpAny (model prog w) A (Eb (.ref r)) Q E s:=by
 unfold Eb;refine Aa (EW hT F.slot_set_len.lookup ?_);generalize hid:("set.__len__":String)=id0
 wp_delta
 rw[show splitId id0=some ("set","__len__") from by subst hid;decide +kernel];subst hid;refine Aa (CT (T:="set") (b:=true) hT (by rw[FE];kernel_rfl) (A1 (fun z=>absurd z (by decide)) fun _=>A1 (fun _=>?_) fun z=>absurd (by decide +kernel) z));exact Aa (Ct hT (Ab h))
theorem zhh{a:Addr}{n ep:Nat}{o:Obj}{es:Array (Int×Value)}{t:SetTable}{R:List Value->Shared->Prop}(hh:A.handled=none)(ho:s.heap.get? a=some o)(hx:o.ExactSet)(hd:o.data=.set es ep t)(hf:t.fits es.size=true)(hn:es.size=n)(h3:n < 4096)(hp:n<=1\/t.plain=false)(hled:w.params.followText "set-order"=true\/t.led=true)
   (h:∀ h' d tk vs,(∀ b u,s.heap.get? b=some u->h'.get? b=some u)->s.heap.objs.size < h'.objs.size->vs.Perm (es.toList.map (·.2))->R vs { s with heap:=h',drawn:=d,toks:=tk }):wpAny (model prog w) A (collect (.ref a)) R E s:=by
 have hlt:a < s.heap.objs.size:=Ak ho;have hnl:n<=sizeLine:=by unfold sizeLine;omega
 unfold collect;refine Aa (D2 (BC Dx ?_));rw[By F.plain_proto_collect _];show wpAny _ A.in1 (newList [] >>= fun l=>again (.builtin "list.__iadd__" ⟨[l,.ref a],[]⟩)) _ _ s;refine Aa (Aw (Ab ⟨CB F.plain_list_iadd _,BC entry_list_iadd' ?_⟩));rw[By F.plain_list_iadd _];generalize hl:s.heap.objs.size=l at *;have g1:(s.heap.push { cls:=.type "list",data:=.seq ([]:List Value).toArray }).get? l=some { cls:=.type "list",data:=.seq #[] }:=by subst hl;exact Al _ rfl
 have oa:(s.heap.push { cls:=.type "list",data:=.seq ([]:List Value).toArray }).get? a=some o:=Ad _ ho;have k1:∀ b u,s.heap.get? b=some u->(s.heap.push { cls:=.type "list",data:=.seq ([]:List Value).toArray }).get? b=some u:=fun b u e=>Ad _ e;generalize s.heap.push { cls:=.type "list",data:=.seq ([]:List Value).toArray }=h1 at *;show wpAny _ A.in1 (Cf (.ref l) (.ref a) (.ref l)) _ _ _;unfold Cf;have ty:({ s with heap:=h1 }:Shared).TypeIs (.ref a) "set":=⟨o,oa,hx.1⟩
 refine Aa (Ct (T:="set") ty ?_);have q1:Cw (.ref l) (.ref a)=false:=by simp[Cw,AQ hlt]
 have q2:(BK "set"==BK "list")=false:=by decide
 have q3:(BK "set"==BK "tuple")=false:=by decide
 simp only[q1,q2,q3,FT,Aq,if_false];refine Aa (zlR oa hx hd hf hn h3 hp hled fun h4 d I vs it=>?_);obtain⟨fp,St,k4,hI,WW,st,hfp,pv⟩:=it;refine Aa (A0 (zi3 ⟨o,k4 _ _ oa,hx.1⟩ ?_));refine A1 (fun _=>?_) (fun z=>absurd (by decide +kernel) z);refine Aa (CC (Aa ?_));have g4:=k4 _ _ g1;show wpAny _ _ (updateSeq l (·.push .none) >>= fun _=>updateSeq l (·.pop)) _ _ _;refine Aa (DT g4 rfl ?_);have g5:=AS (Bf (·.push AW)) g4 rfl;refine DT (hz:=by seq_fits) g5 rfl ?_;have g6:=AS (Bf (·.pop)) g5 rfl;have k6:∀ b u,b≠l->h4.get? b=some u->((h4.update l (Bf (·.push AW))).update l (Bf (·.pop))).get? b=some u:=fun b u hb e=>(BQ _ _ (BL hb)).trans ((BQ _ _ (BL hb)).trans e);have hlf:l ∉ fp:=fun z=>by
   rcases hfp l z with z | z
   . exact absurd z (AQ hlt)
   . exact absurd (Ak g1) (Nat.not_lt.mpr z)
 have W:=WW A.in1 hh;refine Ab ⟨CB F.plain_extend_loop _,FO W.toS hnl l hlf _ n 0 _ #[] _ rfl (AZ _) (W.frame 0 h4 _ st fun b hb u e=>k6 b u (fun z=>hlf (z ▸ hb)) e) g6 (HD _) fun s' acc c hm hS hacc=>?_⟩;rw[Hs hm];show wpAny _ A (load l >>= _) _ _ _;refine Aa (GU hS (Ab ?_));have ev:acc.toList=vs:=by
   apply Et;intro i
   by_cases hi:i < n
   . obtain⟨e1,e2⟩:=hacc;have h4:acc[i]?=some acc[i]:=AF (by omega);rw[Az,h4];exact (e2 i _ h4).symm
   . rw[BU (by rw[Au,hacc.1];omega),BU (by rw[pv.length_eq,Ag,Au];omega)]
 rw[ev];refine h s'.heap d s'.toks vs (fun b u e=>hm.heap b u (fun z=>?_) (k6 b u ?_ (k4 b u (k1 b u e)))) (Ak hS) pv
 . rcases List.mem_cons.mp z with z | z
   . exact absurd (Ak e) (by rw[z,hl];exact AY _)
   . exact absurd (As (Ak (k1 b u e)) hI) (by rw[List.mem_singleton.mp z];exact AY _)
 . exact fun z=>absurd (Ak e) (by rw[z,hl];exact AY _)
end
end L2.MP
namespace L2.MP
open PySem PySem.Spec
section
variable {prog:Program} {w:World} {A:Around} {R:Result->Shared->Prop} {I:Addr} {fp wr:List Addr} {G:Array GenState->Array GenState->Prop} {n:Nat} {P:Nat->Value->Prop} {St:Nat->Shared->Prop}
theorem zjM(W:WalksS prog w A.in1 I fp wr G n P St)(Z:Addr)(hZ:Z ∉ fp)(val:Nat->Str)(hv:∀ i v,P i v->∃ t,v=.str (val i) t)(hb:n+1 < scanBound) :
   ∀ (k i:Nat) (s:Shared),n - i=k->i<=n->St i s->SetD (strKind prog w) s.heap Z (fun x=>decide (x∈met val i)) (met val i).length ->
     (∀ s',Moved (Z::wr) G s s'->SetD (strKind prog w) s'.heap Z (fun x=>decide (x∈met val n)) (met val n).length->R (.ok (.ret .none)) s') ->
     codeAny (model prog w) A (.builtin "set.update.loop" ⟨[.ref Z,.ref I],[]⟩) R s:=by
 have hw:Z ∉ wr:=fun q=>hZ (W.sub _ q);have up:∀ b∈wr,b∈Z::wr:=fun b q=>Ah _ q;have keep:∀ {s s':Shared} {S:Str->Bool} {m:Nat},Moved wr G s s'->SetD (strKind prog w) s.heap Z S m->SetD (strKind prog w) s'.heap Z S m:=fun hm x=>by
   obtain⟨o,es,ep,t,ho,r⟩:=x;exact⟨o,es,ep,t,hm.heap Z _ hw ho,r⟩
 intro k
 induction k with
 | zero =>
   intro i s hk hi hs x go;have e:i=n:=by omega
   subst e;refine BC BJ ?_;rw[By Bk _];show wpAny _ A.in1 (pyNext (.ref I) >>= _) _ _ s;refine Aa (W.done s _ _ hs fun s' hm=>?_);exact Ab (go s' (hm.mono up) (keep hm x))
 | succ k ih =>
   intro i s hk hi hs x go;have lt:i < n:=by omega
   refine BC BJ ?_;rw[By Bk _];show wpAny _ A.in1 (pyNext (.ref I) >>= _) _ _ s;refine Aa (W.item i s _ _ lt hs fun v s1 hP hs1 hm=>?_);obtain⟨vt,rfl⟩:=hv i v hP;have v1:=strKind_is prog w (val i) vt;have x1:=keep hm x;show wpAny _ A.in1 (holding [_] (setAdd Z _) >>= _) _ _ s1;refine Aa (A0 ?_);unfold setAdd;refine A0 (Aa ((strKind prog w).pyHash (k:=val i) v1 ?_));have room:(met val i).length+1 < scanBound:=by have:=zgQ val i;omega
   refine znc (s:={ s1 with toks:=s1.toks+1 }) x1 room fun h' sb x2=>?_;have x3:SetD (strKind prog w) h' Z (fun y=>decide (y∈met val (i+1))) (met val (i+1)).length:=SetD.as x2 (fun y=>(zk4 val i y).symm) (zmp val i).symm;refine Ab ⟨CB Bk _,ih (i+1) _ (by omega) lt (W.frame _ s1 _ _ hs1 (BE _) fun b hb o e=>?_) x3 fun s2 hm2 x4=>?_⟩
   . rw[sb.2 b (fun q:b=Z=>hZ (by rw[<-q];exact hb))];exact e
   . refine go s2 (HE W.gtrans ((hm.mono up).then_heap (BE _) fun b o hb e=>?_) hm2) x4;rw[sb.2 b (fun q:b=Z=>hb (by rw[q];exact Aj))];exact e
end
section
variable {prog:Program} {w:World} {A:Around} {E:Value->Shared->Prop} {s:Shared}
theorem zib(a:Value){Q₁:Value->Shared->Prop}(h:Q₁ (.ref s.heap.objs.size) { s with heap:=s.heap.push (zec (!w.params.followText "set-order")) }):codeAny (model prog w) A (.call (.builtin "set.__new__") ⟨[.type "set",a],[]⟩) (wants Q₁ E) s:=by
 refine Fe ?_;show wpAny _ A.in1 (checkBuiltinCall "set.__new__" ⟨[.type "set",a],[]⟩ >>= fun _=>again (.builtin "set.__new__" ⟨[.type "set",a],[]⟩)) _ _ s;refine Aa (D5 (F.newCall_set_1 a) (Ab ⟨CB F.plain_set_new _,BC F.entry_set_new ?_⟩));rw[By F.plain_set_new _];unfold Builtin.«set.__new__» Ht;have hsub:=sub_set_self;obtain⟨hp,g,d,tk,os⟩:=s;dsimp only at h ⊢
 wp_walk
 refine Bn (Ab ?_);dsimp only;simp only[newObj];exact Aa (wpAny_alloc (Ab (Ab h)))
theorem zjO{l:Addr}{its:Array Value}{val:Nat->Str}{Q:Value->Shared->Prop}(hh:A.handled=none)(hl:s.heap.IsList l its)(hv:∀ (i:Nat) (v:Value),its[i]?=some v->∃ t,v=.str (val i) t)(hb:its.size+1 < scanBound)
   (go:∀ (h':Heap) (tk:Nat),SetD (strKind prog w) h' s.heap.objs.size (fun x=>decide (x∈met val its.size)) (met val its.size).length->(∀ b o,b < s.heap.objs.size->s.heap.get? b=some o->h'.get? b=some o)->Q (.ref s.heap.objs.size) { s with heap:=h',toks:=tk }) :
   wpAny (model prog w) A (call (.type "set") [.ref l]) Q E s:=by
 obtain⟨c,tl,hmro⟩:=F.called_set.mro;have q1:=F.called_set.made;have q2:=F.called_set.sub;refine GV (Fe ?_);show wpAny _ _ (callAny (.type "set") _) _ _ _;refine Ab ⟨Gh _ (by decide +kernel),BC F.entry_type_call ?_⟩;rw[Gi (FG "set" [.ref l] []) rfl];have q3:=F.called_set.notType;have q4:=F.called_set.canCreate;have q5:=F.typeCall_set_1 (.ref l)
 repeat (any_goals (first | assumption | wp_step))
 refine CM (zib (.ref l) (E:=E) (Q₁:=fun obj s₁=>∃ led:Bool,led=(!w.params.followText "set-order")/\obj=.ref s.heap.objs.size/\s₁={ s with heap:=s.heap.push (zec led) }) ⟨_,rfl,rfl,rfl⟩) fun r s1 hr=>?_
 cases r with
 | error e=>exact hr
 | ok fl =>
   cases fl with
   | ret obj =>
     obtain⟨led,hled,rfl,rfl⟩:=hr;have at0:(s.heap.push (zec led)).get? s.heap.objs.size=some (zec led):=Al _ rfl;have ty:Eh { s with heap:=s.heap.push (zec led) } (.ref s.heap.objs.size) "set":=⟨_,at0,rfl⟩
     have q6:=F.called_set.init.lookup;have q7:=F.called_set.init.bind (.ref s.heap.objs.size)
     repeat (any_goals (first | assumption | wp_step))
     refine CM (FP (R:=wants (fun r s₂=>r=.none/\∃ h' tk,s₂={ s with heap:=h',toks:=tk }/\SetD (strKind prog w) h' s.heap.objs.size (fun x=>decide (x∈met val its.size)) (met val its.size).length/\(∀ b o,b < s.heap.objs.size->s.heap.get? b=some o->h'.get? b=some o)) E) F.called_set.init.plain F.entry_set_init (check_set_init_1 ty ?_)) fun r2 s2 hr2=>?_
     . obtain⟨u,hu,hc,m,hd⟩:=hl;obtain⟨uc,ud,ux,us⟩:=u;simp only at hc hd;subst hc;subst hd;have at1:(s.heap.push (zec led)).get? l=some { cls:=.type "list",dict:=ud,data:=.seq its m,slots:=us }:=Ad _ hu;have l1:(s.heap.push (zec led)).IsList l its:=⟨_,at1,rfl,m,rfl⟩
       have z1:=F.sub_list_set;have z2:=F.sub_list_frozenset;have z3:(BK "list"==BK "dict")=false:=by decide
       unfold Builtin.«set.__init__» noKeywords D3;generalize hPI:pyIter=PI
       wp_walk
       subst hPI;refine CK l1 (Aa (D2 ?_));have ll:l < s.heap.objs.size:=Ak hu;have h3:A.in1.in1.in1.handled=none:=by simp[hh]
       have n1:l≠(s.heap.push (zec led)).objs.size:=by rw[A4];exact AB (BY ll)
       have n2:s.heap.objs.size ∉ [(s.heap.push (zec led)).objs.size,l]:=by
         rw[A4,AN,Ce];rintro (z | z)
         . exact absurd z (AB (DE _))
         . exact absurd z (AQ ll)
       refine zjM ((GZ h3 _ l n1 its).toS) s.heap.objs.size n2 val hv hb (its.size - 0) 0 _ (by omega) (AZ _) ⟨⟨_,Al _ rfl,rfl,rfl⟩,(l1.push _)⟩ ?first ?rest
       case first =>
         have g:((s.heap.push (zec led)).push { cls:=.type "list_iterator",data:=.fields #[.ref l,.int 0 0] }).get? s.heap.objs.size=some (zec led):=Ad _ at0;exact⟨_,#[],0,_,g,⟨rfl,rfl,rfl⟩,rfl,fun e he=>(by simp at he),fun k=>(by simp[met]),(by decide),rfl,rfl,.inl rfl,(by rw[hled];cases w.params.followText "set-order";exact .inr rfl;exact .inl rfl)⟩
       case rest =>
         intro s' hm x;obtain⟨h',g',d',tk',os'⟩:=s';have eg:g'=s.gens:=hm.gens;have ed:d'=s.drawn:=hm.drawn;have eo:os'=s.os:=hm.os;subst eg;subst ed;subst eo;show wpAny _ _ _ _ _ _;refine Ab ?_;show wpAny _ _ (ret AW) _ _ _;refine Ab ⟨rfl,h',tk',rfl,x,fun b o hb e=>?_⟩;refine hm.heap b o ?_ (Ad _ (Ad _ e));rw[A4,AN,Ce];rintro (z | z)
         . exact absurd z (AB hb)
         . exact absurd z (AB (BY hb))
     . cases r2 with
       | error e=>exact hr2
       | ok fl2 =>
         cases fl2 with
         | ret r =>
           obtain⟨rfl,h',tk,rfl,x,k⟩:=hr2
           repeat (any_goals (first | assumption | wp_step))
           exact go _ _ x k
         | _=>exact hr2.elim
   | _=>exact hr.elim
end
end L2.MP
namespace L2.MP
open PySem PySem.Spec PyProof.Rows
theorem zeO{α:Type}[DecidableEq α]:∀ {m l:List α},m.Nodup->(∀ x∈m,x∈l)->l.length=m.length->l.Perm m
 | [],l,_,_,e=>by
   have:l=[]:=List.length_eq_zero_iff.mp e;rw[this]
 | x::r,l,nd,h,e=>by
   have hx:=h x Aj;obtain⟨n1,n2⟩:=List.nodup_cons.mp nd;refine (List.perm_cons_erase hx).trans (FC x (zeO n2 (fun y hy=>(DU (fun z:y=x=>n1 (z ▸ hy))).mpr (h y (Ah _ hy))) ?_));rw[Df hx,e];rfl
theorem zdd{κ:Type}[DecidableEq κ](val:Nat->κ):∀ i,(met val i).Nodup
 | 0=>DZ
 | i+1=>by
   rw[met]
   split
   . exact zdd val i
   . rename_i h;refine List.nodup_append.mpr ⟨zdd val i,by simp,?_⟩;intro a ha b hb e;rw[List.mem_singleton.mp hb] at e;exact h (e ▸ ha)
noncomputable def once(ss:List Str):List Str:=met (fun i=>ss.getD i E4) ss.length
inductive SetX (w:World) (a:Addr) (ms:List Str) (h:Heap):Prop
 | mk (o:Obj) (es:Array (Int×Value)) (ep:Nat) (t:SetTable) (h1:h.get? a=some o) (h2:o.ExactSet) (h3:o.data=.set es ep t) (h4:StrsAre (es.toList.map (·.2)) (es.toList.map fun e=>strOf e.2)) (h5:(es.toList.map fun e=>strOf e.2).Perm ms) (h6:es.size < 4096) (h7:t.fits es.size=true) (h8:es.size=ms.length) (h9:ms.length=0\/t.plain=false) (h10:∃ b:Bool,w.params.followText "set-order"=b/\(b=true\/t.led=true))
theorem znJ{prog:Program}{w:World}{h:Heap}{a:Addr}{ms:List Str}(nd:ms.Nodup)(x:SetD (strKind prog w) h a (fun x=>decide (x∈ms)) ms.length):SetX w a ms h:=by
 obtain⟨o,es,ep,t,g,gx,gd,k1,k2,k3,k4,k5,k6,k7⟩:=x;have all:∀ e∈es.toList,∃ z tk,e.2=.str z tk:=fun e he=>by
   obtain⟨⟨k,hk,_⟩,_⟩:=k1 e he;obtain⟨t,ht⟩:=DW hk;exact⟨k,t,ht⟩
 refine⟨o,es,ep,t,g,gx,gd,?_,zeO nd (fun z hz=>?_) (by simpa using k5),k3,k4,k5,k6,⟨_,rfl,k7⟩⟩
 . have:=strsAre_map (es.toList.map (·.2)) fun v hv=>by
     obtain⟨e,he,rfl⟩:=List.mem_map.mp hv;exact all e he
   rwa [Bo] at this
 . obtain⟨e,he,u⟩:=(k2 z).mp (decide_eq_true hz);obtain⟨t,ht⟩:=DW u;exact List.mem_map.mpr ⟨e,he,by rw[ht];rfl⟩
theorem ziY{X:Cx}{pins:List (Addr×Obj)}{σ:List (Option V)}{H:Hp}{s:Shared}(I:Inv X pins σ H s)(d:Drawn):Inv X pins σ H { s with drawn:=d }:=⟨I.ok,I.os,I.bare,I.base,I.loc,I.cell,I.free,I.freeC,I.pin,I.hok,I.len⟩
section
variable {X:Cx}
theorem znI{P:Program}{w:World}{H:Hp}{h:Heap}{a:Addr}{ms:List Str}{w':World}(x:SetX w' a ms h):zdi P w H h a (.ext (SetX w' a ms)):=by
 have y:=x;obtain⟨o,es,ep,t,h1⟩:=y;refine⟨x,⟨o,h1⟩,?_⟩;rintro g1 g2 ⟨o,es,ep,t,h1,h2,h3,h4,h5,h6,h7,h8,h9,h10⟩ k;exact⟨o,es,ep,t,k o h1,h2,h3,h4,h5,h6,h7,h8,h9,h10⟩
inductive SetL (w:World) (K:Ae) (H:Hp) (Q:VK):List V->Prop
 | mk (a:Addr) (ss:List Str) (h1:SqL K H a (ss.map V.str)) (h2:ss.length<=4000) (h3:∀ p,H p=none->Q (.ref p) (upd H p (.ext (SetX w p (once ss))))):SetL w K H Q [.ref a]
theorem zkB(hc:X.calm=true):zfK X (.type "set") (fun xs H Q=>SetL X.w X.K H Q xs):=by
 rintro pins s σ H xs us Q I r ⟨a,ss,h1,h2,h3⟩;obtain⟨u,rfl,ru⟩:=r.one;cases ru;obtain⟨its,rv,pl,hz⟩:=I.list h1;have hl:its.length=ss.length:=by
   have:=rv.length;rw[Ag] at this;exact this.symm
 have sz:its.toArray.size=ss.length:=by rw[Ao];exact hl
 refine zjO (val:=fun i=>ss.getD i E4) (I.ok.hd hc) pl.isList (fun i v e=>?_) (by rw[sz];unfold scanBound;omega) fun h' tk hs hk=>?_
 . rw[CP] at e;have hi:i < ss.length:=by rw[<-hl];exact (List.getElem?_eq_some_iff.mp e).1
   obtain⟨y,hy,ry⟩:=rv.get (i:=i) (x:=V.str ss[i]) (by rw[AA,Am hi];rfl);rw[e] at hy;cases hy;obtain⟨t,rfl⟩:=ry;refine⟨t,?_⟩;rw[AD,Am hi];rfl
 . rw[sz] at hs;refine⟨.ref s.heap.objs.size,_,I.laid (t':=tk) (fun b o q=>hk b o (Ak q) q) (Af _) (znI (znJ (zdd _ _) hs)),rfl,?_⟩;exact h3 _ (I.hok.fresh (Af _))
inductive SrtX (w:World) (H:Hp) (Q:VK):List V->Prop
 | mk (a:Addr) (ms:List Str) (h1:H a=some (.ext (SetX w a ms))) (h3:ms.length < 64) (h4:∀ l,H l=none->Q (.ref l) (upd H l (.lst ((zcf ms).map V.str)))):SrtX w H Q [.ref a]
theorem zkA(hc:X.calm=true):zfK X (.builtin "sorted") (fun xs H Q=>SrtX X.w H Q xs):=by
 rintro pins s σ H xs us Q I r ⟨a,ms,hH,h3,h4⟩;obtain⟨u,rfl,ru⟩:=r.one;cases ru;obtain⟨⟨o,es,ep,t,e1,e2,e3,e4,e5,e6,e7,e8,e9,⟨_,rfl,e10⟩⟩,_,_⟩:=I.hok a _ hH;have hp:ms.length<=1\/t.plain=false:=e9.imp (fun z=>by omega) id;refine C6 kind_sorted plain_sorted entry_sorted (Gd _) ?_;unfold Builtin.«sorted»;refine Aa (m:=checkCount "sorted" 1 1 _) (Ab (Aa (zhh (A:=X.A.in1) (I.ok.hd hc) e1 e2 e3 e7 e8 (by omega) hp e10 fun h' d tk vs hk hsz hv=>?_)));have hvs:StrsAre vs (vs.map strOf):=strsAre_map vs fun v hm=>e4.all v (hv.mem_iff.mp hm);have hvp:(vs.map strOf).Perm ms:=by
   have:=hv.map strOf;rw[Bo] at this;exact this.trans e5
 have hlen:vs.length=ms.length:=by rw[hv.length_eq,Ag,Au,e8]
 refine Aa (DA ?_ (by rw[hlen];exact lt64 h3));have g0:(h'.push (seqObj "list" vs.toArray 0)).get? h'.objs.size=some (seqObj "list" vs.toArray 0):=Al _ rfl;refine Aa (A0 (AC Fx ⟨_,g0,rfl⟩ Fb (list_sort_treeK strKind_oneLt g0 hvs.keysOf (fun v₁ v₂ rest e=>keyKind_strs (by rw[<-e];exact hvs)) (by omega) fun st' a1 a2=>⟨_,rfl,Ab ⟨_,rfl,?_⟩⟩) (Fy _)));obtain⟨ss',b1,b2,b3⟩:=sorted_out_str hvs a1 a2;have es:=zdu (b2.trans hvp) b3;have hs:s.heap.objs.size<=h'.objs.size:=Cr hsz;obtain⟨c,hat⟩:=sortedHeap_at (vs:=vs) (out:=(arrOf st').map (·.2)) (n:=0) g0;have hlen':(ss'.map V.str).length<=sizeLine:=by rw[Ag,(b2.trans hvp).length_eq];exact lt64 h3
 refine⟨.ref h'.objs.size,upd H h'.objs.size (.lst (ss'.map V.str)),((ziY I d).laid (t':=tk) (a:=h'.objs.size) (fun b u q=>?_) hs ⟨hlen',((arrOf st').map (·.2)).toList,c,zdG b1,by rw[Array.toArray_toList];exact hat⟩),rfl,?_⟩
 . have q1:=hk b u q;have hb:=Ak q1;rw[sortedHeap_old (AB hb) (by rw[size_push'];exact BY hb)];exact Ad _ q1
 . rw[es];exact h4 _ (I.hok.fresh hs)
end
noncomputable def znh(m:ME):ME:=fun ρ st=>(m ρ st).bind fun (d,s)=>match d with
 | .ref n=>(zca s n).bind fun ds=>(strsOf ds).bind fun ss=>if (decide (ss.length<=4000)&&decide ((once ss).length < 64))=true then some (.ref s.length,s++[.lst ((zcf (once ss)).map D.str)]) else none
 | _=>none
section
variable {X:Cx} {K:Ae} {H:Hp} {io:List Addr} {st st':Sto} {pos:Pos} {m:ME}
theorem zgF:∀ {xs:List V} {ds:List D} {ss:List Str},Reps K H io xs ds->strsOf ds=some ss->xs=ss.map V.str
 | xs,[],ss,r,e=>by
   cases e;exact r
 | xs,d::ds,ss,r,e=>by
   obtain⟨x,zs,rfl,e1,rfl⟩:=zee e;obtain⟨v,vs,rfl,r1,r2⟩:=r;cases r1;rw[zgF r2 e1];rfl
theorem znM{o:Expr}{p p2 pos2:Pos}(hc:X.calm=true)(hg:Gl X "sorted")(hm:X.mg "sorted"=none)(hg2:Gl X "set")(hm2:X.mg "set"=none)(ho:SE X o m)
   (ho2:starEach [o] X.env=(false,eval o X.env)::starEach [] X.env:=by rfl) (hp2:(backTo pos2 (starEach [] X.env)).any (·.1)=false:=by rfl)
   (he:starEach [Hm (.Name "set" p2) [o] [] pos2] X.env=(false,eval (.Call (.Name "set" p2) [o] [] pos2) X.env)::starEach [] X.env:=by rfl) (hpl:(backTo pos (starEach [] X.env)).any (·.1)=false:=by rfl) :
   SE X (.Call (.Name "sorted" p) [.Call (.Name "set" p2) [o] [] pos2] [] pos) (znh m) :=
 PE.imp (zeR (zkA hc) hg hm zdK (zdW (zeQ (zkB hc) hg2 hm2 zo4 (zdW ho zhq ho2) (by decide) (by decide) ho2 hp2) zhq he) (by decide) (by decide) he hpl) <| by
   rintro σ H Q ⟨ρ,st,io,d,st',E,S,e,k⟩;obtain⟨⟨x,s1⟩,e1,f1⟩:=zag e;clear e;refine⟨ρ,st,io,x,s1,E,S,e1,fun v H1 k1 X1 S1 R1=>?_⟩
   cases x with
   | ref n =>
     dsimp only at f1;obtain⟨ds,e2,f2⟩:=zag f1;obtain⟨ss,e3,f3⟩:=zag f2;obtain⟨hl,e⟩:=zav f3;cases e;rw[An] at hl;obtain⟨a,rfl,ha⟩:=R1;obtain⟨xs,hq,r⟩:=zbf S1 ha e2;rw[zgF r e3] at hq;refine⟨a,ss,hq,of_decide_eq_true hl.1,fun p hp=>?_⟩;obtain⟨E2,S2⟩:=zej (o:=.ext (SetX X.w p (once ss))) S1 hp;refine⟨p,once ss,zbv,of_decide_eq_true hl.2,fun l hf=>?_⟩;exact ((k.on S1 X1).on S2 E2).lst S2 (zgz _) hf
   | _=>cases f1
end
variable {X:Cx} {pos:Pos}
end L2.MP
namespace L2.MP
open PySem PySem.Spec PyProof.Rows
noncomputable def upD(x:D)(st:Sto):Option (D×Sto):=match x with
 | .str z=>if (!Builtin.Str.tooLong (CS z).length)=true then some (.str (CS z),st) else none
 | _=>none
noncomputable def mUp(m:ME):ME:=fun ρ st=>(m ρ st).bind fun (x,s)=>upD x s
section
variable {X:Cx} {m:ME}
noncomputable def tUp(ta:TE):TE:=fun σ H Q=>ta σ H fun x H1=>∃ z,x=.str z/\C0 (CS z).length=false/\Q (.str (CS z)) H1
theorem zrI{o:Expr}{ta:TE}{apos cpos:Pos}(he:PE X o ta)(hbase:attributeBase o "upper" X.env (eval o X.env)=eval o X.env:=by rfl)(hline:(apos.endLine==cpos.line)=true:=by rfl):PE X (.Call (.Attribute o "upper" apos) [] [] cpos) (tUp ta):=by
 intro pins s σ H Q I h;refine EO hbase hline (thn (he pins s σ H _ I h) ?_);rintro v s2 ⟨x,H1,I1,r1,q⟩;obtain⟨z,rfl,hz,q⟩:=q;obtain⟨t,rfl⟩:=r1;refine⟨"str","str.upper",Fm,PySem.F.slot_str_upper,PySem.F.type_str_upper,Ex _ _ _,(fun _ e=>by cases e),Dt rfl (FY (SC.upper hz ?_))⟩;exact⟨.str _,H1,I1.tok _,⟨_,rfl⟩,q⟩
theorem zrC{o:Expr}{apos cpos:Pos}(ho:SE X o m)(hbase:attributeBase o "upper" X.env (eval o X.env)=eval o X.env:=by rfl)(hline:(apos.endLine==cpos.line)=true:=by rfl):SE X (.Call (.Attribute o "upper" apos) [] [] cpos) (mUp m) :=
 PE.imp (zrI ho hbase hline) <| by
   rintro σ H Q ⟨ρ,st,io,d,st',E,S,e,k⟩;obtain⟨⟨x,s1⟩,e1,f1⟩:=zag e;clear e;refine⟨ρ,st,io,x,s1,E,S,e1,fun v H1 k1 X1 S1 R1=>?_⟩;unfold upD at f1;dsimp only at f1
   split at f1
   . rename_i z;obtain⟨hf,e⟩:=zav f1;cases e;exact⟨z,R1,by simpa using hf,(k.on S1 X1).now S1 rfl⟩
   . cases f1
end
noncomputable def eqU0:G2:=fun x y st=>match x,y with
 | .tup ds,.tup []=>some (.bl ds.isEmpty,st)
 | _,_=>none
section
variable {X:Cx}
theorem zor(hu:X.A.units+100 < cLine):OpM X (compareOp .Eq) eqU0:=by
 rintro pins s σ H x y v u Q I rx ry ⟨dx,dy,st,io,d,st',Rx,Ry,S,e,k⟩;unfold eqU0 at e
 split at e
 . rename_i ds;cases e;obtain⟨p,xs,rfl,hp,r1⟩:=Rx;obtain⟨q,ys,rfl,hq,r2⟩:=Ry;cases rx;cases ry;obtain⟨z1,us,v1,t1⟩:=I.hok p _ hp;obtain⟨z2,ws,v2,t2⟩:=I.hok q _ hq;have e2:ys=[]:=r2;subst e2;cases v2;refine PySem.SeqAt.eq_tupleAt (e:=fun _=>true) t1.t t2.t (by omega) (fun j h1 h2=>by simp at h2) ?_;have hl:us.length=ds.length:=by
     have:=v1.length;have:=r1.length;omega
   have eb:((AX (min us.toArray.size ([]:List Value).toArray.size)).all (fun _=>true)&&us.toArray.size==([]:List Value).toArray.size)=ds.isEmpty:=by
     cases ds with
     | nil=>simp at hl;simp[hl]
     | cons a r =>
       cases us with
       | nil=>simp at hl
       | cons b t=>simp
   rw[eb];exact⟨.bl _,H,I,rfl,k.now S rfl⟩
 . cases e
noncomputable def eqZ:G2:=orG eqD eqU0
theorem zqs(hu:X.A.units+100 < cLine):OpM X (compareOp .Eq) eqZ:=zhr (zea hu) (zor hu)
end
end L2.MP
namespace L2.MP.ST
open PySem PySem.SetTable
def Rise(xs:Array Nat):Prop:=∀ i j,i < j->j < xs.size->xs.getD i 0 < xs.getD j 0
theorem getD_in{xs:Array Nat}{i a b:Nat}(h:i < xs.size):xs.getD i a=xs.getD i b:=by
 simp[EA,h]
theorem zgt{xs:Array Nat}{j:Nat}(R:Rise xs):∀ (f lo hi:Nat),hi - lo<=f->lo<=hi->hi<=xs.size->(∀ i,i < lo->xs.getD i 0 < j)->(∀ i,hi<=i->i < xs.size->j<=xs.getD i 0) ->
   below.go xs j f lo hi<=xs.size/\(∀ i,i < below.go xs j f lo hi->xs.getD i 0 < j)/\∀ i,below.go xs j f lo hi<=i->i < xs.size->j<=xs.getD i 0
 | 0,lo,hi,hf,h1,h2,h3,h4=>by
   have:lo=hi:=by omega
   subst this;exact⟨h2,h3,h4⟩
 | f+1,lo,hi,hf,h1,h2,h3,h4=>by
   unfold below.go
   by_cases c:lo < hi
   . rw[if_pos c];dsimp only;have hm:(lo+hi) / 2 < xs.size:=by omega
     rw[getD_in (b:=0) hm]
     by_cases d:xs.getD ((lo+hi) / 2) 0 < j
     . rw[if_pos d];refine zgt R f _ hi (by omega) (by omega) h2 (fun i hi'=>?_) h4
       by_cases e:i=(lo+hi) / 2
       . rw[e];exact d
       . exact F9 (R i ((lo+hi) / 2) (by omega) hm) d
     . rw[if_neg d];refine zgt R f lo _ (by omega) (by omega) (by omega) h3 fun i hi' hs=>?_
       by_cases e:i=(lo+hi) / 2
       . rw[e];omega
       . have:=R ((lo+hi) / 2) i (by omega) hs;omega
   . rw[if_neg c];have:lo=hi:=by omega
     subst this;exact⟨h2,h3,h4⟩
theorem below_spec{xs:Array Nat}{j:Nat}(R:Rise xs):below xs j<=xs.size/\(∀ i,i < below xs j->xs.getD i 0 < j)/\∀ i,below xs j<=i->i < xs.size->j<=xs.getD i 0 :=
 zgt R xs.size 0 xs.size (by omega) (AZ _) (Af _) (fun i h=>by omega) fun i h1 h2=>by omega
theorem below_at{xs:Array Nat}{i j:Nat}(R:Rise xs)(h:xs[i]?=some j):below xs j=i:=by
 obtain⟨b1,b2,b3⟩:=below_spec (j:=j) R;have hi:i < xs.size:=by
   by_cases c:i < xs.size
   . exact c
   . rw[Ca (by omega)] at h;cases h
 have hv:xs.getD i 0=j:=by simp[h]
 generalize below xs j=r at *
 by_cases c:i < r
 . have:=b2 i c;omega
 . by_cases d:r < i
   . have:=R r i d hi;have:=b3 r (Af _) (by omega);omega
   . omega
theorem slot_live{t:SetTable}{i j:Nat}(R:Rise t.place)(h:t.place[i]?=some j):t.slot j=.live i:=by
 unfold SetTable.slot;dsimp only;rw[below_at R h,h];simp
theorem zh7{t:SetTable}{j:Nat}(hd:t.dummies=#[])(h:j ∉ t.place.toList):t.slot j=.empty:=by
 unfold SetTable.slot;dsimp only;have h1:(t.place[below t.place j]?==some j)=false:=by
   apply beq_false_of_ne;intro e;exact h (by rw[<-Az] at e;exact Bc e)
 have h2:has t.dummies j=false:=by
   rw[hd];unfold has;simp
 rw[h1,h2];rfl
noncomputable def adv(mask:Nat)(p:Probe):Probe :=
 if p.more > 0 then { p with j:=p.j+1,more:=p.more - 1 } else
 { p with j:=(leap mask p.i p.perturb).1,more:=runEnd mask (leap mask p.i p.perturb).1 - (leap mask p.i p.perturb).1,i:=(leap mask p.i p.perturb).1,perturb:=(leap mask p.i p.perturb).2 }
noncomputable def at_(mask i pb:Nat):Probe:={ j:=i,more:=runEnd mask i - i,i:=i,perturb:=pb,dummy:=none }
noncomputable def pr(mask:Nat)(h:Int):Nat->Probe
 | 0=>at_ mask (bits h % (mask+1)) (bits h)
 | k+1=>adv mask (pr mask h k)
noncomputable def tI(mask:Nat)(h:Int):Nat->Nat×Nat
 | 0=>(bits h % (mask+1),bits h)
 | r+1=>leap mask (tI mask h r).1 (tI mask h r).2
noncomputable def tK(mask:Nat)(h:Int):Nat->Nat
 | 0=>0
 | r+1=>tK mask h r+(runEnd mask (tI mask h r).1 - (tI mask h r).1)+1
theorem zpP(mask i:Nat):runEnd mask i - i<=9:=by unfold runEnd;split <;> omega
theorem zq2(mask:Nat)(h:Int):∀ r,tK mask h r<=10*r
 | 0=>Af _
 | r+1=>by
   have:=zq2 mask h r;have:=zpP mask (tI mask h r).1;unfold tK;omega
theorem zna{mask:Nat}{p:Probe}(h:0 < p.more):adv mask p={ p with j:=p.j+1,more:=p.more - 1 }:=by
 unfold adv;rw[if_pos h]
theorem znb{mask i pb j:Nat}:adv mask { j:=j,more:=0,i:=i,perturb:=pb,dummy:=none }=at_ mask (leap mask i pb).1 (leap mask i pb).2:=rfl
theorem ziZ{mask:Nat}{h:Int}{r:Nat}(h0:pr mask h (tK mask h r)=at_ mask (tI mask h r).1 (tI mask h r).2):∀ c,c<=runEnd mask (tI mask h r).1 - (tI mask h r).1 ->
   pr mask h (tK mask h r+c)={ j:=(tI mask h r).1+c,more:=runEnd mask (tI mask h r).1 - (tI mask h r).1 - c,i:=(tI mask h r).1,perturb:=(tI mask h r).2,dummy:=none }
 | 0,_=>h0
 | c+1,hc=>by
   have ih:=ziZ h0 c (by omega);show adv mask (pr mask h (tK mask h r+c))=_;rw[ih,zna (by dsimp only;omega)];dsimp only
   congr 1
theorem zkL(mask:Nat)(h:Int):∀ r,pr mask h (tK mask h r)=at_ mask (tI mask h r).1 (tI mask h r).2
 | 0=>rfl
 | r+1=>by
   have e:=ziZ (zkL mask h r) _ (Af _);show adv mask (pr mask h (tK mask h r+(runEnd mask (tI mask h r).1 - (tI mask h r).1)))=_;rw[e,C8,znb];rfl
theorem zjx(mask:Nat)(h:Int)(r c:Nat)(hc:c<=runEnd mask (tI mask h r).1 - (tI mask h r).1):(pr mask h (tK mask h r+c)).j=(tI mask h r).1+c:=by rw[ziZ (zkL mask h r) c hc]
noncomputable def it(n:Nat):Nat->Nat->Nat
 | 0,i=>i
 | s+1,i=>it n s ((i*5+1) % n)
theorem ziW(n:Nat):∀ a b i,it n (a+b) i=it n b (it n a i)
 | 0,b,i=>by rw[Nat.zero_add];rfl
 | a+1,b,i=>by
   rw[Nat.add_right_comm];show it n (a+b) _=it n b (it n a _);exact ziW n a b _
noncomputable def orb(n:Nat):Nat->Nat->List Nat
 | 0,_=>[]
 | k+1,i=>i::orb n k ((i*5+1) % n)
theorem zol(n:Nat):∀ k i e,e∈orb n k i->∃ s,s < k/\it n s i=e
 | 0,i,e,h=>by simp[orb] at h
 | k+1,i,e,h=>by
   rcases List.mem_cons.mp h with rfl | h
   . exact⟨0,by omega,rfl⟩
   . obtain⟨s,hs,e1⟩:=zol n k _ e h;exact⟨s+1,by omega,e1⟩
def Siz(n:Nat):Prop:=n=8\/n=32\/n=128
theorem zr3{n:Nat}(h:Siz n):it n n 0=0/\∀ e,e < n->∃ s,s < n/\it n s 0=e:=by
 have key:∀ n,(it n n 0==0&&(AX n).all fun e=>(orb n n 0).contains e)=true->it n n 0=0/\∀ e,e < n->∃ s,s < n/\it n s 0=e:=fun n hn=>by
   rw[An,Cu] at hn;exact⟨by simpa using hn.1,fun e he=>zol n n 0 e (by simpa using hn.2 e (List.mem_range.mpr he))⟩
 rcases h with rfl | rfl | rfl
 . exact key 8 (by decide +kernel)
 . exact key 32 (by decide +kernel)
 . exact key 128 (by decide +kernel)
theorem full{n i e:Nat}(h:Siz n)(hi:i < n)(he:e < n):∃ s,s < n/\it n s i=e:=by
 obtain⟨z,f⟩:=zr3 h;obtain⟨a,ha,ea⟩:=f i hi;obtain⟨b,hb,eb⟩:=f e he
 by_cases c:a<=b
 . refine⟨b - a,by omega,?_⟩;rw[<-ea,<-ziW,show a+(b - a)=b from by omega];exact eb
 . refine⟨b+n - a,by omega,?_⟩;rw[<-ea,<-ziW,show a+(b+n - a)=n+b from by omega,ziW,z];exact eb
theorem zq3(mask:Nat)(h:Int):∀ r,(tI mask h r).2=bits h / 32 ^ r
 | 0=>by simp[tI]
 | r+1=>by
   show (tI mask h r).2 / 32=_;rw[zq3 mask h r,Nat.div_div_eq_div_mul,Nat.pow_succ]
theorem zo7(h:Int):bits h < 2 ^ 64:=by
 unfold bits;have h1:=CH h (b:=(2 ^ 64:Int)) (by decide);have h2:=CI h (b:=(2 ^ 64:Int)) (by decide);omega
theorem zok(mask:Nat)(h:Int)(s:Nat):(tI mask h (13+s)).2=0:=by
 rw[zq3];refine Nat.div_eq_of_lt ?_;have h1:=zo7 h;have h2:(32:Nat) ^ 13<=32 ^ (13+s):=Nat.pow_le_pow_right (by decide) (by omega);have h3:(2:Nat) ^ 64 < 32 ^ 13:=by decide
 omega
theorem zq5(mask:Nat)(h:Int):∀ s,(tI mask h (13+s)).1=it (mask+1) s (tI mask h 13).1
 | 0=>rfl
 | s+1=>by
   have e:=ziW (mask+1) s 1 (tI mask h 13).1;rw[e,<-zq5 mask h s];show ((tI mask h (13+s)).1*5+1+(tI mask h (13+s)).2 / 32) % (mask+1)=_;rw[zok];rfl
theorem zq4(mask:Nat)(h:Int):∀ r,(tI mask h r).1 < mask+1
 | 0=>DS _ (EI _)
 | r+1=>DS _ (EI _)
theorem reach{mask:Nat}(hs:Siz (mask+1))(h:Int){e:Nat}(he:e<=mask):∃ r,r < mask+14/\(tI mask h r).1=e:=by
 obtain⟨s,h1,h2⟩:=full hs (zq4 mask h 13) (Nat.lt_succ_of_le he);exact⟨13+s,by omega,by rw[zq5];exact h2⟩
theorem getD_list{xs:Array Nat}{i:Nat}(h:i < xs.toList.length):xs.getD i 0=xs.toList[i]:=by
 have:i < xs.size:=by simpa using h
 simp[EA,this]
theorem zf6{xs:Array Nat}:Rise xs ↔ xs.toList.Pairwise (· < ·):=by
 rw[Ez]
 constructor
 . intro R i j hi hj h;have:=R i j h (by simpa using hj);rw[getD_list hi,getD_list hj] at this;exact this
 . intro R i j h hj;have hj':j < xs.toList.length:=by simpa using hj
   have hi':i < xs.toList.length:=by omega
   rw[getD_list hi',getD_list hj'];exact R i j hi' hj' h
theorem zn9:∀ (n:Nat) (l:List Nat),(∀ e,e < n->e∈l)->n<=l.length
 | 0,l,_=>AZ _
 | n+1,l,h=>by
   have hn:=h n (by omega);have:=zn9 n (l.erase n) fun e he=>(DU (by omega)).mpr (h e (by omega));rw[Df hn] at this;have:=Fs hn;omega
theorem left{n:Nat}{l:List Nat}(h:l.length < n):∃ e,e < n/\e ∉ l:=by
 by_cases c:∃ e,e < n/\e ∉ l
 . exact c
 . exfalso;have:=zn9 n l fun e he=>by
     by_cases d:e∈l
     . exact d
     . exact absurd ⟨e,he,d⟩ c
   omega
theorem least{P:Nat->Prop}:∀ (n:Nat),P n->∃ k,k<=n/\P k/\∀ j,j < k->¬ P j:=by
 intro n
 induction n using Hg with
 | ind n ih =>
   intro h
   by_cases c:∃ j,j < n/\P j
   . obtain⟨j,hj,hp⟩:=c;obtain⟨k,h1,h2,h3⟩:=ih j hj hp;exact⟨k,by omega,h2,h3⟩
   . exact⟨n,Af _,h,fun j hj hp=>c ⟨j,hj,hp⟩⟩
theorem zp6(mask:Nat)(h:Int):∀ k,(pr mask h k).j+(pr mask h k).more<=mask/\(pr mask h k).dummy=none
 | 0=>by
   have hb:bits h % (mask+1) < mask+1:=DS _ (EI _);refine⟨?_,rfl⟩;show bits h % (mask+1)+(runEnd mask (bits h % (mask+1)) - bits h % (mask+1))<=mask;unfold runEnd
   split <;> omega
 | k+1=>by
   have ih:=zp6 mask h k;show (adv mask (pr mask h k)).j+(adv mask (pr mask h k)).more<=mask/\(adv mask (pr mask h k)).dummy=none;generalize pr mask h k=p at *;unfold adv
   by_cases c:p.more > 0
   . rw[if_pos c];dsimp only;exact⟨by omega,ih.2⟩
   . rw[if_neg c];dsimp only;refine⟨?_,ih.2⟩;have hb:(leap mask p.i p.perturb).1 < mask+1:=DS _ (EI _);unfold runEnd
     split <;> omega
def znd(mask:Nat)(occ:List Nat)(h:Int)(p:Nat):Prop:=∃ k,(pr mask h k).j=p/\∀ k',k' < k->(pr mask h k').j∈occ
structure Good(t:SetTable)(hs:List Int):Prop where
 size:t.place.size=hs.length
 dum:t.dummies=#[]
 rise:Rise t.place
 top:∀ p∈t.place.toList,p<=t.mask
 siz:Siz (t.mask+1)
 room:t.place.size<=t.mask
 road:∀ q∈t.place.toList.zip hs,znd t.mask t.place.toList q.2 q.1
structure Free(t:SetTable)(h:Int)(K:Nat):Prop where
 few:K < 10*turns t.mask
 none:(pr t.mask h K).j ∉ t.place.toList
 full:∀ k,k < K->(pr t.mask h k).j∈t.place.toList
theorem Good.free{t:SetTable}{hs:List Int}(G:Good t hs)(h:Int):∃ K,Free t h K:=by
 obtain⟨e,he,hn⟩:=left (n:=t.mask+1) (l:=t.place.toList) (by have:=G.room;simp;omega);obtain⟨r,hr,er⟩:=reach G.siz h (Eu he);have ej:=zjx t.mask h r 0 (AZ _);rw[EF,EF,er] at ej;have hk:=zq2 t.mask h r;obtain⟨K,k1,k2,k3⟩:=least (P:=fun k=>(pr t.mask h k).j ∉ t.place.toList) (tK t.mask h r) (by rw[ej];exact hn);refine⟨K,by unfold turns;omega,k2,fun k hk=>?_⟩
 by_cases c:(pr t.mask h k).j∈t.place.toList
 . exact c
 . exact absurd c (k3 k hk)
theorem zlp{α β:Type}:∀ {a:List α} {b:List β} {i:Nat} {x:α} {y:β},a[i]?=some x->b[i]?=some y->(x,y)∈a.zip b
 | [],b,i,x,y,h,_=>by simp at h
 | _::_,[],i,x,y,_,h=>by simp at h
 | a::as,b::bs,0,x,y,h,h'=>by
   simp at h h';subst h;subst h';exact Aj
 | a::as,b::bs,i+1,x,y,h,h'=>by
   rw[ES] at h h';exact Ah _ (zlp h h')
theorem zla{t:SetTable}{hs:List Int}{hashAt:Nat->Int}{h:Int}{K:Nat}(G:Good t hs)(hH:∀ i x,hs[i]?=some x->hashAt i=x)(F:Free t h K):∀ (d k fuel:Nat),k+d=K->d < fuel ->
   (probe.go t hashAt h fuel (pr t.mask h k)=some (.empty (pr t.mask h K).j none)/\∀ k',k<=k'->k' < K->∀ i:Nat,t.place[i]?=some (pr t.mask h k').j->hs[i]?≠some h) \/
   ∃ k1 i,k<=k1/\k1 < K/\t.place[i]?=some (pr t.mask h k1).j/\hs[i]?=some h/\probe.go t hashAt h fuel (pr t.mask h k)=some (.candidate (pr t.mask h k1).j i (pr t.mask h (k1+1)))/\∀ k',k<=k'->k' < k1->∀ i:Nat,t.place[i]?=some (pr t.mask h k').j->hs[i]?≠some h
 | 0,k,0,e,hf=>by omega
 | 0,k,fuel+1,e,hf=>by
   have:k=K:=by omega
   subst this;refine .inl ⟨?_,fun k' h1 h2=>by omega⟩;unfold probe.go;rw[zh7 G.dum F.none];dsimp only;rw[(zp6 t.mask h k).2]
 | d+1,k,0,e,hf=>by omega
 | d+1,k,fuel+1,e,hf=>by
   have hm:=F.full k (by omega);obtain⟨i,hi⟩:=CU hm;rw[Az] at hi;have hil:i < hs.length:=by
     rw[<-G.size]
     by_cases c:i < t.place.size
     . exact c
     . rw[Ca (by omega)] at hi;cases hi
   have hv:=Am hil;have uniq:∀ i',t.place[i']?=some (pr t.mask h k).j->i'=i:=fun i' hi'=>by
     rw[<-below_at G.rise hi',below_at G.rise hi]
   by_cases c:hs[i]=h
   . refine .inr ⟨k,i,Af _,by omega,hi,by rw[hv,c],?_,fun k' h1 h2=>by omega⟩;unfold probe.go;rw[slot_live G.rise hi];dsimp only;rw[hH i _ hv,c,if_pos (by simp)];rfl
   . have stp:probe.go t hashAt h (fuel+1) (pr t.mask h k)=probe.go t hashAt h fuel (pr t.mask h (k+1)):=by
       conv=>lhs;unfold probe.go
       rw[slot_live G.rise hi];dsimp only;rw[hH i _ hv,if_neg (by simpa using c)];rfl
     rw[stp];have here:∀ i':Nat,t.place[i']?=some (pr t.mask h k).j->hs[i']?≠some h:=fun i' hi'=>by
       rw[uniq i' hi',hv];intro z;exact c (Ay z)
     rcases zla G hH F d (k+1) fuel (by omega) (by omega) with ⟨e1,e2⟩ | ⟨k1,i1,a1,a2,a3,a4,a5,a6⟩
     . refine .inl ⟨e1,fun k' h1 h2=>?_⟩
       by_cases q:k'=k
       . rw[q];exact here
       . exact e2 k' (by omega) h2
     . refine .inr ⟨k1,i1,by omega,a2,a3,a4,a5,fun k' h1 h2=>?_⟩
       by_cases q:k'=k
       . rw[q];exact here
       . exact a6 k' (by omega) h2
theorem probe_step{t:SetTable}{hs:List Int}{hashAt:Nat->Int}{h:Int}{K k:Nat}(G:Good t hs)(hH:∀ i x,hs[i]?=some x->hashAt i=x)(F:Free t h K)(hk:k<=K) :
   (t.probe hashAt h (pr t.mask h k)=some (.empty (pr t.mask h K).j none)/\∀ k',k<=k'->k' < K->∀ i:Nat,t.place[i]?=some (pr t.mask h k').j->hs[i]?≠some h) \/
   ∃ k1 i,k<=k1/\k1 < K/\t.place[i]?=some (pr t.mask h k1).j/\hs[i]?=some h/\t.probe hashAt h (pr t.mask h k)=some (.candidate (pr t.mask h k1).j i (pr t.mask h (k1+1)))/\∀ k',k<=k'->k' < k1->∀ i:Nat,t.place[i]?=some (pr t.mask h k').j->hs[i]?≠some h :=
 zla G hH F (K - k) k (10*turns t.mask) (by omega) (by have:=F.few;omega)
theorem Good.before{t:SetTable}{hs:List Int}{h:Int}{K i:Nat}(G:Good t hs)(F:Free t h K)(hi:hs[i]?=some h):∃ k,k < K/\t.place[i]?=some (pr t.mask h k).j:=by
 have hil:i < t.place.size:=by rw[G.size];exact (List.getElem?_eq_some_iff.mp hi).1
 have hp:t.place.toList[i]?=some t.place[i]:=by rw[Az,AF hil]
 obtain⟨k,e,f⟩:=G.road _ (zlp hp hi);dsimp only at e f;refine⟨k,?_,by rw[AF hil,e]⟩
 by_cases c:k < K
 . exact c
 . exfalso
   by_cases d:K < k
   . exact F.none (f K d)
   . have:k=K:=by omega
     subst this;exact F.none (by rw[e];simp)
theorem znr{xs:Array Nat}{j c:Nat}(R:Rise xs)(h:c∈xs.toList.take (below xs j)):c < j:=by
 obtain⟨b1,b2,b3⟩:=below_spec (j:=j) R;obtain⟨i,hi,rfl⟩:=List.mem_iff_getElem.mp h;rw[Bm] at hi;rw[GA];rw[<-getD_list];exact b2 i (by omega)
theorem zle{xs:Array Nat}{j c:Nat}(R:Rise xs)(h:c∈xs.toList.drop (below xs j)):j<=c:=by
 obtain⟨b1,b2,b3⟩:=below_spec (j:=j) R;obtain⟨i,hi,rfl⟩:=List.mem_iff_getElem.mp h;rw[B6] at hi;rw[List.getElem_drop];rw[<-getD_list];exact b3 _ (by omega) (by simp at hi;omega)
theorem zkK{α β:Type}{x:α}{y:β}:∀ {a:List α} {b:List β} {p:Nat} {q:α×β},a.length=b.length->q∈(a.take p++x::a.drop p).zip (b.take p++y::b.drop p)->q=(x,y)\/q∈a.zip b
 | [],[],p,q,_,hq=>by
   simp at hq;exact .inl hq
 | [],b::bs,p,q,h,_=>by simp at h
 | a::as,[],p,q,h,_=>by simp at h
 | a::as,b::bs,0,q,h,hq=>by
   rcases List.mem_cons.mp hq with hq | hq
   . exact .inl hq
   . exact .inr hq
 | a::as,b::bs,p+1,q,h,hq=>by
   rw[F0,F0,F5,F5,DI,DI,CD] at hq
   rcases List.mem_cons.mp hq with hq | hq
   . exact .inr (by rw[hq];exact Aj)
   . rcases zkK (by simpa using h) hq with e | e
     . exact .inl e
     . exact .inr (Ah _ e)
theorem zmF{α:Type}{xs:Array α}{p:Nat}{x:α}(h:p<=xs.size):(insertAt xs p x).toList=xs.toList.take p++x::xs.toList.drop p:=by
 rw[SetTable.toList_insertAt]
theorem Good.put{t:SetTable}{hs:List Int}{h:Int}{K:Nat}(G:Good t hs)(F:Free t h K)(hr:t.place.size+1<=t.mask):Good (t.put (pr t.mask h K).j).1 (hs.take (t.put (pr t.mask h K).j).2++h::hs.drop (t.put (pr t.mask h K).j).2):=by
 obtain⟨b1,b2,b3⟩:=below_spec (j:=(pr t.mask h K).j) G.rise;have hin:=(zp6 t.mask h K).1;have hd:(if has t.dummies (pr t.mask h K).j=true then eraseAt t.dummies (below t.dummies (pr t.mask h K).j) else t.dummies)=#[]:=by
   rw[G.dum];have:has #[] (pr t.mask h K).j=false:=by unfold has;simp
   rw[this];rfl
 have hl:(insertAt t.place (below t.place (pr t.mask h K).j) (pr t.mask h K).j).toList=t.place.toList.take (below t.place (pr t.mask h K).j)++(pr t.mask h K).j::t.place.toList.drop (below t.place (pr t.mask h K).j):=zmF b1;have hn:=F.none;have hs1:t.place.toList.length=hs.length:=by simpa using G.size
 have sub:∀ c,c∈t.place.toList->c∈(insertAt t.place (below t.place (pr t.mask h K).j) (pr t.mask h K).j).toList:=fun c hc=>by
   rw[hl];rw[<-List.take_append_drop (below t.place (pr t.mask h K).j) t.place.toList] at hc
   rcases List.mem_append.mp hc with hc | hc
   . exact Bx _ hc
   . exact A2 _ (Ah _ hc)
 have len:(insertAt t.place (below t.place (pr t.mask h K).j) (pr t.mask h K).j).size=t.place.size+1:=by
   rw[<-Au,hl];simp;omega
 unfold SetTable.put;dsimp only;rw[hd];refine⟨?_,rfl,?_,?_,G.siz,?_,?_⟩
 . show (insertAt t.place (below t.place (pr t.mask h K).j) (pr t.mask h K).j).size=_;rw[len,G.size];have:below t.place (pr t.mask h K).j<=hs.length:=by rw[<-G.size];exact b1
   simp;omega
 . show Rise (insertAt t.place (below t.place (pr t.mask h K).j) (pr t.mask h K).j);have R:=zf6.mp G.rise;rw[zf6,hl];refine List.pairwise_append.mpr ⟨R.sublist (Gn _ _),List.pairwise_cons.mpr ⟨fun c hc=>?_,R.sublist (List.drop_sublist _ _)⟩,fun a ha b hb=>?_⟩
   . have h1:=zle G.rise hc;have h2:c≠(pr t.mask h K).j:=fun e=>hn (e ▸ DV hc);omega
   . have h1:=znr G.rise ha
     rcases List.mem_cons.mp hb with rfl | hb
     . exact h1
     . have:=zle G.rise hb;omega
 . intro c hc;have hc':c∈(insertAt t.place (below t.place (pr t.mask h K).j) (pr t.mask h K).j).toList:=hc;rw[hl] at hc'
   rcases List.mem_append.mp hc' with hc | hc
   . exact G.top c (DR hc)
   . rcases List.mem_cons.mp hc with rfl | hc
     . show (pr t.mask h K).j<=t.mask;omega
     . exact G.top c (DV hc)
 . show (insertAt t.place (below t.place (pr t.mask h K).j) (pr t.mask h K).j).size<=t.mask;rw[len];exact hr
 . intro q hq;have hq':q∈(insertAt t.place (below t.place (pr t.mask h K).j) (pr t.mask h K).j).toList.zip (hs.take (below t.place (pr t.mask h K).j)++h::hs.drop (below t.place (pr t.mask h K).j)):=hq;rw[hl] at hq'
   rcases zkK hs1 hq' with rfl | hq
   . exact⟨K,rfl,fun k' hk'=>sub _ (F.full k' hk')⟩
   . obtain⟨k,e,f⟩:=G.road q hq;exact⟨k,e,fun k' hk'=>sub _ (f k' hk')⟩
structure Lay(mask:Nat)(owner:Array (Option Nat))(hs:List Int)(ps:List Nat):Prop where
 size:owner.size=mask+1
 len:ps.length=hs.length
 nd:ps.Nodup
 top:∀ p∈ps,p<=mask
 at_:∀ (j q:Nat),owner[j]?=some (some q) ↔ ps[q]?=some j
 road:∀ q∈ps.zip hs,znd mask ps q.2 q.1
theorem Lay.none_iff{mask:Nat}{owner:Array (Option Nat)}{hs:List Int}{ps:List Nat}(L:Lay mask owner hs ps){j:Nat}(hj:j<=mask):(owner.getD j (some 0)).isNone=true ↔ j ∉ ps:=by
 have hlt:j < owner.size:=by rw[L.size];omega
 have e:owner.getD j (some 0)=owner[j]:=by simp[EA,hlt]
 have e2:owner[j]?=some owner[j]:=AF hlt;rw[e]
 cases ho:owner[j] with
 | none =>
   refine⟨fun _ hm=>?_,fun _=>rfl⟩;obtain⟨q,hq⟩:=CU hm;have:=(L.at_ j q).mpr hq;rw[e2,ho] at this;cases this
 | some q =>
   refine⟨fun z=>(by cases z),fun hn=>?_⟩;exact absurd (Bc ((L.at_ j q).mp (by rw[e2,ho]))) hn
theorem zjX{mask i:Nat}(h:i<=mask):runEnd mask i<=mask:=by unfold runEnd;split <;> omega
theorem zjY{mask i:Nat}:i<=runEnd mask i:=by unfold runEnd;split <;> omega
theorem zlb{mask:Nat}{owner:Array (Option Nat)}{hs:List Int}{ps:List Nat}{h:Int}(L:Lay mask owner hs ps):∀ (fuel r:Nat),(∀ k',k' < tK mask h r->(pr mask h k').j∈ps)->(∃ r',r<=r'/\r' < r+fuel/\(tI mask h r').1 ∉ ps) ->
   ∃ j,layClean.free mask owner fuel (tI mask h r).1 (tI mask h r).2=some j/\j ∉ ps/\j<=mask/\znd mask ps h j
 | 0,r,_,⟨r',h1,h2,_⟩=>by omega
 | fuel+1,r,hb,⟨r',h1,h2,h3⟩=>by
   have hi:(tI mask h r).1<=mask:=Eu (zq4 mask h r);have re:=zjX hi;have rg:=zjY (mask:=mask) (i:=(tI mask h r).1);unfold layClean.free
   cases hf:(AX (runEnd mask (tI mask h r).1+1 - (tI mask h r).1)).find? fun k=>(owner.getD ((tI mask h r).1+k) (some 0)).isNone with
   | some k =>
     obtain⟨f1,f2,f3⟩:=List.find?_range_eq_some.mp hf;rw[FI] at f2;refine⟨(tI mask h r).1+k,rfl,(L.none_iff (by omega)).mp f1,by omega,tK mask h r+k,zjx mask h r k (by omega),fun k' hk'=>?_⟩
     by_cases c:k' < tK mask h r
     . exact hb k' c
     . obtain⟨c',rfl⟩:∃ c',k'=tK mask h r+c':=⟨k' - tK mask h r,by omega⟩
       rw[zjx mask h r c' (by omega)];have:=f3 c' (by omega)
       by_cases d:(tI mask h r).1+c'∈ps
       . exact d
       . rw[(L.none_iff (by omega)).mpr d] at this;cases this
   | none =>
     have fn:=List.find?_range_eq_none.mp hf;have all:∀ c,c<=runEnd mask (tI mask h r).1 - (tI mask h r).1->(tI mask h r).1+c∈ps:=fun c hc=>by
       have:=fn c (by omega)
       by_cases d:(tI mask h r).1+c∈ps
       . exact d
       . rw[(L.none_iff (by omega)).mpr d] at this;cases this
     have ne:r'≠r:=fun e=>by
       have:=all 0 (AZ _);rw[EF] at this;exact h3 (e ▸ this)
     exact zlb L fuel (r+1) (fun k' hk'=>by
       have ek:tK mask h (r+1)=tK mask h r+(runEnd mask (tI mask h r).1 - (tI mask h r).1)+1:=rfl
       by_cases c:k' < tK mask h r
       . exact hb k' c
       . obtain⟨c',rfl⟩:∃ c',k'=tK mask h r+c':=⟨k' - tK mask h r,by omega⟩
         rw[zjx mask h r c' (by omega)];exact all c' (by omega)) ⟨r',by omega,by omega,h3⟩
theorem zhK{α β:Type}{x:α}{y:β}:∀ {a:List α} {b:List β} {q:α×β},a.length=b.length->q∈(a++[x]).zip (b++[y])->q=(x,y)\/q∈a.zip b
 | [],[],q,_,hq=>by simp at hq;exact .inl hq
 | [],b::bs,q,h,_=>by simp at h
 | a::as,[],q,h,_=>by simp at h
 | a::as,b::bs,q,h,hq=>by
   rw[DI,DI,CD] at hq
   rcases List.mem_cons.mp hq with hq | hq
   . exact .inr (by rw[hq];exact Aj)
   . rcases zhK (by simpa using h) hq with e | e
     . exact .inl e
     . exact .inr (Ah _ e)
theorem Lay.more{mask:Nat}{owner:Array (Option Nat)}{hs:List Int}{ps:List Nat}{h:Int}(hz:Siz (mask+1))(L:Lay mask owner hs ps)(hr:ps.length<=mask):∃ j,layClean.free mask owner (turns mask) (bits h % (mask+1)) (bits h)=some j/\Lay mask (owner.setIfInBounds j (some ps.length)) (hs++[h]) (ps++[j]):=by
 obtain⟨e,he,hn⟩:=left (n:=mask+1) (l:=ps) (by omega);obtain⟨r,hr1,er⟩:=reach hz h (Eu he);obtain⟨j,f1,f2,f3,f4⟩:=zlb (h:=h) L (turns mask) 0 (fun k' hk'=>absurd hk' (by simp[tK])) ⟨r,AZ _,by unfold turns;omega,by rw[er];exact hn⟩;have hjs:j < owner.size:=by rw[L.size];omega
 refine⟨j,f1,by rw[Array.size_setIfInBounds];exact L.size,by simp[L.len],List.nodup_append.mpr ⟨L.nd,by simp,fun a ha b hb e=>f2 (by rw[List.mem_singleton.mp hb] at e;exact e ▸ ha)⟩,fun p hp=>?_,fun j' q=>?_,fun q hq=>?_⟩
 . rcases List.mem_append.mp hp with hp | hp
   . exact L.top p hp
   . rw[List.mem_singleton.mp hp];exact f3
 . by_cases c:j'=j
   . subst c;rw[Array.getElem?_setIfInBounds_self_of_lt hjs]
     constructor
     . intro e;have:q=ps.length:=by
         have:=Ay (Ay e);exact this.symm
       subst this;simp
     . intro e
       by_cases d:q < ps.length
       . rw[AK d] at e;exact absurd (Bc e) f2
       . have hq:=(List.getElem?_eq_some_iff.mp e).1;simp at hq;have:q=ps.length:=by omega
         rw[this]
   . rw[Array.getElem?_setIfInBounds_ne (fun z=>c z.symm),L.at_]
     by_cases d:q < ps.length
     . rw[AK d]
     . constructor
       . intro e;exact absurd (List.getElem?_eq_some_iff.mp e).1 d
       . intro e;have hq:=(List.getElem?_eq_some_iff.mp e).1;simp at hq;have:q=ps.length:=by omega
         rw[this] at e;simp at e;exact absurd e.symm c
 . rcases zhK L.len hq with rfl | hq
   . obtain⟨k,e1,e2⟩:=f4;exact⟨k,e1,fun k' hk'=>Bx _ (e2 k' hk')⟩
   . obtain⟨k,e1,e2⟩:=L.road q hq;exact⟨k,e1,fun k' hk'=>Bx _ (e2 k' hk')⟩
noncomputable def zpg(mask:Nat)(acc:Option (Array (Option Nat)×Nat))(h:Int):Option (Array (Option Nat)×Nat):=do
 let (owner,k) <-acc
 let j <-layClean.free mask owner (turns mask) (bits h % (mask+1)) (bits h)
 pure (owner.setIfInBounds j (some k),k+1)
theorem zlc{mask:Nat}(hz:Siz (mask+1)):∀ (rest:List Int) (owner:Array (Option Nat)) (hs:List Int) (ps:List Nat),Lay mask owner hs ps->hs.length+rest.length<=mask->∃ owner' ps',rest.foldl (zpg mask) (some (owner,ps.length))=some (owner',ps'.length)/\Lay mask owner' (hs++rest) ps'
 | [],owner,hs,ps,L,_=>⟨owner,ps,rfl,by rw[Ap];exact L⟩
 | h::rest,owner,hs,ps,L,hr=>by
   simp at hr;obtain⟨j,e,L'⟩:=L.more (h:=h) hz (by rw[L.len];omega);obtain⟨o',ps',e',L''⟩:=zlc hz rest _ _ _ L' (by simp;omega);refine⟨o',ps',?_,by rw[Av] at L'';exact L''⟩;rw[List.foldl_cons];have:zpg mask (some (owner,ps.length)) h=some (owner.setIfInBounds j (some ps.length),(ps++[j]).length):=by
     unfold zpg;simp[e]
   rw[this];exact e'
theorem zm1{mask:Nat}(hz:Siz (mask+1))(hs:Array Int)(hr:hs.size<=mask):∃ owner ps,layClean mask hs=some owner/\Lay mask owner hs.toList ps:=by
 have L0:Lay mask (Hh (mask+1) none) [] []:=⟨by simp,rfl,DZ,by simp,fun j q=>by
   constructor
   . intro e;rw[Array.getElem?_replicate] at e
     split at e
     . cases e
     . cases e
   . intro e;simp at e,by simp⟩
 obtain⟨o,ps,e,L⟩:=zlc hz hs.toList _ _ _ L0 (by simpa using hr);refine⟨o,ps,?_,by simpa using L⟩;unfold layClean;rw[<-Array.foldl_toList];show (hs.toList.foldl (zpg mask) (some (Hh (mask+1) none,0))).map _=_;rw[show (0:Nat)=([]:List Nat).length from rfl,e];rfl
theorem zge{α:Type}[DecidableEq α]:∀ {l m:List α},l.Nodup->(∀ x∈l,x∈m)->l.length<=m.length
 | [],m,_,_=>AZ _
 | x::r,m,nd,h=>by
   obtain⟨n1,n2⟩:=List.nodup_cons.mp nd;have hx:=h x Aj;have:=zge (m:=m.erase x) n2 fun y hy=>(DU (fun z:y=x=>n1 (z ▸ hy))).mpr (h y (Ah _ hy));rw[Df hx] at this;have:=Fs hx;simp;omega
theorem zf9{es:Array (Int×Value)}:∀ {l:List (Nat×Nat)},(∀ x∈l,x.2 < es.size)->((l.map (·.2)).filterMap (es[·]?)).length=l.length
 | [],_=>rfl
 | x::l,h=>by
   have hx:=h x Aj;rw[Ar,EJ (AF hx),A6,A6,zf9 fun y hy=>h y (Ah _ hy)]
theorem zir{es:Array (Int×Value)}:∀ {l:List (Nat×Nat)} {q:Nat×Int},(∀ x∈l,x.2 < es.size)->q∈(l.map (·.1)).zip (((l.map (·.2)).filterMap (es[·]?)).map (·.1))->∃ x∈l,q.1=x.1/\∃ e,es[x.2]?=some e/\q.2=e.1
 | [],q,_,hq=>by simp at hq
 | x::l,q,h,hq=>by
   have hx:=h x Aj;rw[Ar,Ar,EJ (AF hx),Ar,CD] at hq
   rcases List.mem_cons.mp hq with rfl | hq
   . exact⟨x,Aj,rfl,es[x.2],AF hx,rfl⟩
   . obtain⟨y,hy,e⟩:=zir (fun y hy=>h y (Ah _ hy)) hq;exact⟨y,Ah _ hy,e⟩
theorem laid_ok{mask finger moves:Nat}{led plain:Bool}(hz:Siz (mask+1))(es:Array (Int×Value))(hr:es.size<=mask) :
   ∃ t' order,laid mask finger moves led plain (es.map (·.1))=some (t',order)/\t'.mask=mask/\t'.led=led/\t'.plain=plain/\(order.filterMap (es[·]?)).size=es.size/\(order.filterMap (es[·]?)).toList.Perm es.toList/\Good t' ((order.filterMap (es[·]?)).toList.map (·.1)):=by
 obtain⟨owner,ps,ec,L⟩:=zm1 hz (es.map (·.1)) (by simpa using hr);have hn:ps.length=es.size:=by rw[L.len];simp
 generalize hlive:(AX (mask+1)).filterMap (fun j=>(owner.getD j none).map (j,·))=live;have mem:∀ x:Nat×Nat,x∈live ↔ ps[x.2]?=some x.1:=fun x=>by
   rw[<-hlive,List.mem_filterMap]
   constructor
   . rintro ⟨j,hj,e⟩;rw[FI] at hj
     cases ho:owner.getD j none with
     | none=>rw[ho] at e;cases e
     | some q =>
       rw[ho] at e;cases e;refine (L.at_ j q).mp ?_;have hlt:j < owner.size:=by rw[L.size];exact hj
       simp[EA,hlt] at ho;rw[AF hlt,ho]
   . intro h;have hj:x.1<=mask:=L.top x.1 (Bc h);have hlt:x.1 < owner.size:=by rw[L.size];omega
     have ho:=(L.at_ x.1 x.2).mpr h;refine⟨x.1,List.mem_range.mpr (by omega),?_⟩;have:owner.getD x.1 none=some x.2:=by
       rw[AF hlt] at ho;simp[EA,hlt];exact Ay ho
     rw[this];rfl
 have inn:∀ x∈live,x.2 < es.size:=fun x hx=>by
   rw[<-hn];exact (List.getElem?_eq_some_iff.mp ((mem x).mp hx)).1
 have pw:(live.map (·.1)).Pairwise (· < ·):=by
   rw[Gx,<-hlive,List.pairwise_filterMap];refine List.pairwise_lt_range.imp ?_;intro a b hab x hx y hy
   cases ha:owner.getD a none with
   | none=>rw[ha] at hx;cases hx
   | some q =>
     cases hb:owner.getD b none with
     | none=>rw[hb] at hy;cases hy
     | some q' =>
       rw[ha] at hx;rw[hb] at hy;cases hx;cases hy;exact hab
 have memL:∀ j,j∈live.map (·.1) ↔ j∈ps:=fun j=>by
   constructor
   . intro h;obtain⟨x,hx,rfl⟩:=List.mem_map.mp h;exact Bc ((mem x).mp hx)
   . intro h;obtain⟨q,hq⟩:=CU h;exact List.mem_map.mpr ⟨(j,q),(mem (j,q)).mpr hq,rfl⟩
 have ndL:(live.map (·.1)).Nodup:=pw.imp fun h=>AB h;have lenL:live.length=es.size:=by
   have h1:=zge ndL fun x hx=>(memL x).mp hx;have h2:=zge L.nd fun x hx=>(memL x).mpr hx;rw[Ag] at h1 h2;omega
 have ordP:(live.map (·.2)).Perm (AX es.size):=zeO List.nodup_range (fun q hq=>by
   rw[FI,<-hn] at hq;exact List.mem_map.mpr ⟨(ps[q],q),(mem (ps[q],q)).mpr (Am hq),rfl⟩) (by rw[Ag,Ck,lenL])
 have el:((live.map (·.2)).toArray.filterMap (es[·]?)).toList=(live.map (·.2)).filterMap (es[·]?):=by rw[Array.toList_filterMap]
 refine⟨{ mask:=mask,place:=(live.map (·.1)).toArray,dummies:=#[],finger:=finger,led:=led,moves:=moves,plain:=plain },(live.map (·.2)).toArray,?_,rfl,rfl,rfl,?_,?_,?_⟩
 . unfold laid;rw[ec];show some _=_;rw[hlive]
 . rw[<-Au,el,zf9 inn,lenL]
 . rw[el];have:=ordP.filterMap (fun i=>es[i]?);rw[filterMap_getElem?_range] at this;exact this
 . rw[el];refine⟨?_,rfl,?_,?_,hz,?_,?_⟩
   . rw[Ag,zf9 inn];simp
   . rw[zf6];simpa using pw
   . intro p hp;have hp':p∈live.map (·.1):=by simpa using hp
     exact L.top p ((memL p).mp hp')
   . show (live.map (·.1)).toArray.size<=mask;rw[Ao,Ag,lenL];exact hr
   . intro q hq;have hq':q∈(live.map (·.1)).zip (((live.map (·.2)).filterMap (es[·]?)).map (·.1)):=by simpa using hq
     obtain⟨x,hx,e1,e,e2,e3⟩:=zir inn hq';have hps:=(mem x).mp hx;have hhs:(es.map (·.1)).toList[x.2]?=some e.1:=by
       rw[Az,Array.getElem?_map,e2];rfl
     obtain⟨k,k1,k2⟩:=L.road _ (zlp hps hhs);dsimp only at k1 k2;refine⟨k,by rw[e3,e1];exact k1,fun k' hk'=>?_⟩;have:=(memL _).mpr (k2 k' hk');rw[e3];simpa using this
end L2.MP.ST
namespace L2.MP
open PySem PySem.Spec PyProof.Rows
section
variable {prog:Program} {w:World} {A:Around} {E:Value->Shared->Prop} {s:Shared}
theorem zlV{I a:Addr}{ep n i sl:Nat}{o:Obj}{es:Array (Int×Value)}{t:SetTable}{x:Int×Value}{k:Nat}{Q:Option Value->Shared->Prop}(hb:w.params.followText "set-order"=false)(hl:t.led=true)(hI:zfI I a (.int (sl:Int) 0) n ep i s.heap)(ho:s.heap.get? a=some o)(hd:o.data=.set es ep t)(hf:t.fits es.size=true)(hn:es.size=n)(hdr:(!t.plain&&decide (es.size > 1))=false)(hs:SetTable.below t.place sl=i)
   (hx:es[i]?=some x) (hk:t.place[i]?=some k) (hQ:∀ h',zfI I a (.int ((k+1:Nat):Int) 0) n ep (i+1) h'->Bg I s.heap h'->Q (some x.2) { s with heap:=h' }):wpAny (model prog w) A (pyNext (.ref I)) Q E s:=by
 obtain⟨oI,eI,cI,dI⟩:=id hI;unfold pyNext;refine Aa (BD (AM (name:=A5 "__next__") hI.ty zay (AC zay hI.ty zbo ?_ (zby _))));unfold Builtin.«set_iterator.__next__»;refine Aa (Ab ?_);refine Aa (BO eI dI ?_);dsimp only;refine Aa (BG ho hd hf ?_);rw[if_neg (by rw[hn];simp)];unfold setNext;refine Aa (Aa (AV ho hd hf ?_));unfold setsByText;refine Aa (Aa (Bn (Ab ?_)));refine A1 (fun z=>absurd (show w.params.followText "set-order"=true from z) (by rw[hb];simp)) (fun _=>?_);dsimp only;refine A1 (fun z=>?_) (fun _=>?_)
 . have z':(!t.plain&&decide (es.size > 1))=true:=z;rw[hdr] at z';cases z'
 refine Aa (show wpAny _ _ (if (!t.led&&!es.isEmpty)=true then unsupported "set:maker-not-led" else pure ()) _ _ _ from ?_);rw[hl];refine Ab (Ab ?_);rw[A7,hs,hx,hk];show wpAny _ _ (setField (AJ I) 0 (rawInt ((k+1:Nat):Int)) >>= _) _ _ _;refine Aa (Bd eI dI (by simp) ?_);have e2:=AS (CY (·.setIfInBounds 0 (rawInt ((k+1:Nat):Int)))) eI (Bl (Ax dI _));refine Aa (Bd e2 (Ax dI _) (by simp) (Ab ⟨x.2,rfl,Ab (hQ _ ?_ ((AL ..).trans (AL ..)))⟩));refine⟨_,AS _ e2 (Bl (Ax (Ax dI _) _)),?_,?_⟩
 . rw[BF,BF];exact cI
 . rw[Ax (Ax dI _)];simp[rawInt]
theorem znX{I a:Addr}{ep n sl i:Nat}{o:Obj}{es:Array (Int×Value)}{t:SetTable}{Q:Option Value->Shared->Prop}(hh:A.handled=none)(hb:w.params.followText "set-order"=false)(hl:t.led=true)(hI:zfI I a (.int (sl:Int) 0) n ep i s.heap)(ho:s.heap.get? a=some o)(hd:o.data=.set es ep t)(hf:t.fits es.size=true)(hn:es.size=n)(hdr:(!t.plain&&decide (es.size > 1))=false)
   (hx:es[SetTable.below t.place sl]?=none) (hQ:∀ h',B9 I s.heap h'->Q none { s with heap:=h' }):wpAny (model prog w) A (pyNext (.ref I)) Q E s:=by
 obtain⟨oI,eI,cI,dI⟩:=id hI;unfold pyNext;refine Aa (BD (AM (name:=A5 "__next__") hI.ty zay (AC zay hI.ty zbo ?_ (zby _))));unfold Builtin.«set_iterator.__next__»;refine Aa (Ab ?_);refine Aa (BO eI dI ?_);dsimp only;refine Aa (BG ho hd hf ?_);rw[if_neg (by rw[hn];simp)];unfold setNext;refine Aa (Aa (AV ho hd hf ?_));unfold setsByText;refine Aa (Aa (Bn (Ab ?_)));refine A1 (fun z=>absurd (show w.params.followText "set-order"=true from z) (by rw[hb];simp)) (fun _=>?_);dsimp only;refine A1 (fun z=>?_) (fun _=>?_)
 . have z':(!t.plain&&decide (es.size > 1))=true:=z;rw[hdr] at z';cases z'
 refine Aa (show wpAny _ _ (if (!t.led&&!es.isEmpty)=true then unsupported "set:maker-not-led" else pure ()) _ _ _ from ?_);rw[hl];refine Ab (Ab ?_);rw[A7,hx];show wpAny _ _ (setField (AJ I) 2 AW >>= _) _ _ _;exact Aa (Bd eI dI (by simp) (zhZ hh (hQ:=hQ) (AL ..).extBut))
noncomputable def zjH(t:SetTable)(i:Nat):Nat:=if i=0 then 0 else t.place.getD (i - 1) 0+1
theorem zfH{t:SetTable}(R:ST.Rise t.place){i:Nat}(hi:i<=t.place.size):SetTable.below t.place (zjH t i)=i:=by
 obtain⟨b1,b2,b3⟩:=ST.below_spec (j:=zjH t i) R;generalize hr:SetTable.below t.place (zjH t i)=r at *
 cases i with
 | zero =>
   by_cases c:0 < r
   . have:=b2 0 c;simp[zjH] at this
   . omega
 | succ i =>
   have e:zjH t (i+1)=t.place.getD i 0+1:=by simp[zjH]
   rw[e] at b2 b3
   by_cases c:r<=i
   . have:=b3 i c (by omega);omega
   . by_cases d:i+1 < r
     . have h1:=b2 (i+1) d;have h2:=R i (i+1) (by omega) (by omega);omega
     . omega
theorem zju(hh:A.handled=none){I a:Addr}{n ep:Nat}{es:Array (Int×Value)}{t:SetTable}{vs:List Value}(R:ST.Rise t.place)(hb:w.params.followText "set-order"=false)(hl:t.led=true)(hdr:(!t.plain&&decide (es.size > 1))=false)(hf:t.fits es.size=true)(hn:es.size=n)(hv:vs=es.toList.map (·.2))(hne:a≠I) :
   Walks prog w A I [I,a] [I] n (fun i v=>vs[i]?=some v) (fun i h=>zfI I a (.int (zjH t i:Int) 0) n ep i h/\zpe a es ep t h) where
 sub:=fun b hb=>by rw[List.mem_singleton.mp hb];simp
 frame:=fun i h h' ⟨⟨o,e,r⟩,o2,e2,r2⟩ k=>⟨⟨o,k I (by simp) o e,r⟩,o2,k a (by simp) o2 e2,r2⟩
 item:=fun i s Q E hi ⟨st,o,e,d⟩ hQ=>by
   have hp:t.place.size=n:=by
     have:=hf;unfold SetTable.fits at this;rw[An] at this;rw[<-hn];simpa using this.1
   have hx:es[i]?=some es[i]:=AF (by omega);have hk:t.place[i]?=some t.place[i]:=AF (by omega);refine zlV hb hl st e d hf hn hdr (zfH R (by omega)) hx hk fun h' st' sb=>?_;have k:∀ b o,b ∉ [I]->s.heap.get? b=some o->h'.get? b=some o:=fun b o hb e=>sb.extBut b o (fun z=>hb (by simp[z])) e;refine hQ _ h' s.toks ?_ ⟨?_,o,k _ _ (by simpa using hne) e,d⟩ k
   . rw[hv,AA,Az,hx];rfl
   . have:zjH t (i+1)=t.place[i]+1:=by unfold zjH;simp[Bj,hk]
     rw[this];exact st'
 done:=fun s Q E ⟨st,o,e,d⟩ hQ=>by
   have hp:t.place.size=n:=by
     have:=hf;unfold SetTable.fits at this;rw[An] at this;rw[<-hn];simpa using this.1
   refine znX hh hb hl st e d hf hn hdr ?_ fun h' he=>hQ h' s.toks fun b o hb e=>he b o (fun z=>hb (by simp[z])) e;rw[zfH R (by omega)];exact Ca (by omega)
 self:=fun i s Q E ⟨st,_⟩ hQ=>by
   refine B0 st.ty zbx (AC zbx st.ty zcB ?_ (zcL _));show wpAny _ _ (ret (.ref I)) _ _ s;exact Ab ⟨_,rfl,"set_iterator",_,st.ty,zay.lookup,hQ⟩
theorem zjP{a:Addr}{n ep:Nat}{o:Obj}{es:Array (Int×Value)}{t:SetTable}{Q:Value->Shared->Prop}(ho:s.heap.get? a=some o)(hx:o.ExactSet)(hd:o.data=.set es ep t)(hf:t.fits es.size=true)(hn:es.size=n)(h3:n < 4096)(hp:ST.Rise t.place)(hled:w.params.followText "set-order"=true\/t.led=true)
   (hQ:∀ h' d I vs,IterOk prog w s a es n h' I vs->Q (.ref I) { s with heap:=h',drawn:=d }):wpAny (model prog w) A (pyIter (.ref a)) Q E s:=by
 have ty:s.TypeIs (.ref a) "set":=⟨o,ho,hx.1⟩
 refine B0 ty F.slot_set_iter (AC F.slot_set_iter ty zdf ?_ (F.args_set_iter_1 _));unfold Builtin.«frozenset.__iter__» ER slotArgs;simp only[GP,CA,Aq,↓reduceIte,bind_assoc,Cg,bne_self_eq_false];unfold EG EH;refine Aa (Ab ?_);dsimp only;refine Aa (Ab ?_);refine Aa (Aa (BG ho hd hf (Ab ?_)));unfold setDrawn;refine Aa (Aa (AV ho hd hf ?_));dsimp only;unfold setsByText;refine Aa (Aa (Bn (Ab (Ab ?_))));have lay:∀ (first:Value) (vs:List Value) (h':Heap) (d:Drawn),(∀ b u,s.heap.get? b=some u->h'.get? b=some u)->(∀ h2:Heap,(∀ b u,h'.get? b=some u->h2.get? b=some u)->zfI h'.objs.size a first n ep 0 h2->zpe a es ep t h2->IterOk prog w s a es n h2 h'.objs.size vs) ->
     wpAny (model prog w) A.in1 (setEpoch a >>= fun e=>newFields "set_iterator" [first,rawInt 0,.ref a,rawInt es.size,rawInt e] >>= fun v=>(ret v:Sem Fin)) (fun fin s'=>∃ v,fin=GM (GO v)/\∃ T' r,s'.TypeIs v T'/\typeLookup (.type T') (A5 "__next__")=pure (some r)/\Q v s') E { s with heap:=h',drawn:=d }:=fun first vs h' d hk hw=>by
   unfold setEpoch;refine Aa (Aa (AV (hk _ _ ho) hd hf (Ab ?_)));refine Aa (Aw (Ab ⟨_,rfl,"set_iterator",_,⟨_,Al _ rfl,rfl⟩,zay.lookup,?_⟩));subst hn;exact hQ _ d _ vs (hw _ (fun b u e=>Ad _ e) ⟨_,Al _ rfl,rfl,rfl⟩ ⟨o,Ad _ (hk _ _ ho),hd⟩)
 have hlt:a < s.heap.objs.size:=Ak ho;have lenP:∀ {vs:List Value},vs.Perm (es.toList.map (·.2))->vs.length=n:=fun pv=>by rw[pv.length_eq,Ag,Au];exact hn
 refine A1 (fun z=>?_) (fun z=>?_)
 . refine Aa (zja _ _ _ _ (by simp) fun ps d hps=>?_);obtain⟨vs,v1,v2,v3⟩:=zfp hps;have hl:ps.length=n:=by rw[hps.length_eq,Ck,hn]
   refine Aa (Aw ?_ (by show _<=_;simp[hl];unfold sizeLine;omega));have sz:(s.heap.push { cls:=.type "tuple",data:=.seq (ps.map fun (i:Nat)=>rawInt i).toArray }).objs.size=s.heap.objs.size+1:=A4 ..;refine lay _ vs _ d (fun b u e=>Ad _ e) fun h2 k si sa=>?_;have hI:s.heap.objs.size<=(s.heap.push { cls:=.type "tuple",data:=.seq (ps.map fun (i:Nat)=>rawInt i).toArray }).objs.size:=by rw[sz];exact BE _
   refine .mk (zgu _ a (.ref s.heap.objs.size)) _ (fun b u e=>k b u (Ad _ e)) hI (fun A hA=>zdE hA hf hn (lenP v1) (AB (As hlt hI))) ⟨si,sa,.drawn ⟨_,k _ _ (Al _ rfl),rfl,_,rfl⟩ v2 v3⟩ (fun b hb=>?_) v1;unfold zgu at hb;simp only[AN,AH,or_false] at hb
   rcases hb with rfl | rfl | rfl
   . exact .inr hI
   . exact .inl rfl
   . exact .inr (Af _)
 . refine Aa (Ab ?_)
   cases hb:w.params.followText "set-order" with
   | true =>
     refine lay _ ((pickOrder (w.params.setOrder a ep) es).toList.map (·.2)) s.heap s.drawn (fun _ _ e=>e) fun h2 k si sa=>?_;refine .mk (zgu _ a (.int 0 0)) _ k (Af _) (fun A hA=>zdE hA hf hn (lenP ((zdI _ es).map _)) (AB hlt)) ⟨si,sa,.text hb rfl⟩ (fun b hm=>?_) ((zdI (w.params.setOrder a ep) es).map _);unfold zgu at hm;simp only[AN,AH,or_false] at hm
     rcases hm with rfl | rfl
     . exact .inr (Af _)
     . exact .inl rfl
   | false =>
     have hdr:(!t.plain&&decide (es.size > 1))=false:=by
       cases q:(!t.plain&&decide (es.size > 1)) with
       | false=>rfl
       | true =>
         refine absurd ?_ z;show (!(w.params.followText "set-order")&&(!t.plain&&decide (es.size > 1)))=true;rw[hb,q];rfl
     have hl:t.led=true:=hled.resolve_left (by rw[hb];simp);refine lay _ (es.toList.map (·.2)) s.heap s.drawn (fun _ _ e=>e) fun h2 k si sa=>?_;refine .mk [s.heap.objs.size,a] _ k (Af _) (fun A hA=>zju hA hp hb hl hdr hf hn rfl (AB hlt)) ⟨si,sa⟩ (fun b hm=>?_) (Cq _);simp only[AN,AH,or_false] at hm
     rcases hm with rfl | rfl
     . exact .inr (Af _)
     . exact .inl rfl
theorem zf1{a:Addr}{n ep:Nat}{o:Obj}{es:Array (Int×Value)}{t:SetTable}{R:List Value->Shared->Prop}(hh:A.handled=none)(ho:s.heap.get? a=some o)(hx:o.ExactSet)(hd:o.data=.set es ep t)(hf:t.fits es.size=true)(hn:es.size=n)(h3:n < 4096)(hp:ST.Rise t.place)(hled:w.params.followText "set-order"=true\/t.led=true)
   (h:∀ h' d tk vs,(∀ b u,s.heap.get? b=some u->h'.get? b=some u)->s.heap.objs.size < h'.objs.size->vs.Perm (es.toList.map (·.2))->R vs { s with heap:=h',drawn:=d,toks:=tk }):wpAny (model prog w) A (collect (.ref a)) R E s:=by
 have hlt:a < s.heap.objs.size:=Ak ho;have hnl:n<=sizeLine:=by unfold sizeLine;omega
 unfold collect;refine Aa (D2 (BC Dx ?_));rw[By F.plain_proto_collect _];show wpAny _ A.in1 (newList [] >>= fun l=>again (.builtin "list.__iadd__" ⟨[l,.ref a],[]⟩)) _ _ s;refine Aa (Aw (Ab ⟨CB F.plain_list_iadd _,BC entry_list_iadd' ?_⟩));rw[By F.plain_list_iadd _];generalize hl:s.heap.objs.size=l at *;have g1:(s.heap.push { cls:=.type "list",data:=.seq ([]:List Value).toArray }).get? l=some { cls:=.type "list",data:=.seq #[] }:=by subst hl;exact Al _ rfl
 have oa:(s.heap.push { cls:=.type "list",data:=.seq ([]:List Value).toArray }).get? a=some o:=Ad _ ho;have k1:∀ b u,s.heap.get? b=some u->(s.heap.push { cls:=.type "list",data:=.seq ([]:List Value).toArray }).get? b=some u:=fun b u e=>Ad _ e;generalize s.heap.push { cls:=.type "list",data:=.seq ([]:List Value).toArray }=h1 at *;show wpAny _ A.in1 (Cf (.ref l) (.ref a) (.ref l)) _ _ _;unfold Cf;have ty:({ s with heap:=h1 }:Shared).TypeIs (.ref a) "set":=⟨o,oa,hx.1⟩
 refine Aa (Ct (T:="set") ty ?_);have q1:Cw (.ref l) (.ref a)=false:=by simp[Cw,AQ hlt]
 have q2:(BK "set"==BK "list")=false:=by decide
 have q3:(BK "set"==BK "tuple")=false:=by decide
 simp only[q1,q2,q3,FT,Aq,if_false];refine Aa (zjP oa hx hd hf hn h3 hp hled fun h4 d I vs it=>?_);obtain⟨fp,St,k4,hI,WW,st,hfp,pv⟩:=it;refine Aa (A0 (zi3 ⟨o,k4 _ _ oa,hx.1⟩ ?_));refine A1 (fun _=>?_) (fun z=>absurd (by decide +kernel) z);refine Aa (CC (Aa ?_));have g4:=k4 _ _ g1;show wpAny _ _ (updateSeq l (·.push .none) >>= fun _=>updateSeq l (·.pop)) _ _ _;refine Aa (DT g4 rfl ?_);have g5:=AS (Bf (·.push AW)) g4 rfl;refine DT (hz:=by seq_fits) g5 rfl ?_;have g6:=AS (Bf (·.pop)) g5 rfl;have k6:∀ b u,b≠l->h4.get? b=some u->((h4.update l (Bf (·.push AW))).update l (Bf (·.pop))).get? b=some u:=fun b u hb e=>(BQ _ _ (BL hb)).trans ((BQ _ _ (BL hb)).trans e);have hlf:l ∉ fp:=fun z=>by
   rcases hfp l z with z | z
   . exact absurd z (AQ hlt)
   . exact absurd (Ak g1) (Nat.not_lt.mpr z)
 have W:=WW A.in1 hh;refine Ab ⟨CB F.plain_extend_loop _,FO W.toS hnl l hlf _ n 0 _ #[] _ rfl (AZ _) (W.frame 0 h4 _ st fun b hb u e=>k6 b u (fun z=>hlf (z ▸ hb)) e) g6 (HD _) fun s' acc c hm hS hacc=>?_⟩;rw[Hs hm];show wpAny _ A (load l >>= _) _ _ _;refine Aa (GU hS (Ab ?_));have ev:acc.toList=vs:=by
   apply Et;intro i
   by_cases hi:i < n
   . obtain⟨e1,e2⟩:=hacc;have h4:acc[i]?=some acc[i]:=AF (by omega);rw[Az,h4];exact (e2 i _ h4).symm
   . rw[BU (by rw[Au,hacc.1];omega),BU (by rw[pv.length_eq,Ag,Au];omega)]
 rw[ev];refine h s'.heap d s'.toks vs (fun b u e=>hm.heap b u (fun z=>?_) (k6 b u ?_ (k4 b u (k1 b u e)))) (Ak hS) pv
 . rcases List.mem_cons.mp z with z | z
   . exact absurd (Ak e) (by rw[z,hl];exact AY _)
   . exact absurd (As (Ak (k1 b u e)) hI) (by rw[List.mem_singleton.mp z];exact AY _)
 . exact fun z=>absurd (Ak e) (by rw[z,hl];exact AY _)
end
section
variable {prog:Program} {w:World} {A:Around} {E:Value->Shared->Prop} {s:Shared} {κ:Type} [DecidableEq κ] {knd:KeyKind prog w κ}
theorem zo1{v:Value}(h:carriedByValue v=true)(n:Nat):ofAClassStatement n v=pure false:=by
 cases v with
 | ref a=>simp[carriedByValue] at h
 | _=>first | rfl | (unfold ofAClassStatement;rfl)
theorem zm5{v:Value}(h:carriedByValue v=true)(n:Nat):∃ c,hashByValue n v=pure c:=by
 cases v with
 | ref a=>simp[carriedByValue] at h
 | _=>first | exact⟨_,rfl⟩ | exact⟨_,by unfold hashByValue;rfl⟩
theorem zkO{ks:List κ}{b:Addr}{Q:Bool->Shared->Prop}(hk:IsTupleKey knd s.heap ks b)(h:Q false s):wpAny (model prog w) A (ofAClassStatement 8 (.ref b)) Q E s:=by
 have hT:=hk.typeIs;obtain⟨o,items,n,ho,_,hd,hi⟩:=hk;unfold ofAClassStatement;refine Aa (Ct hT ?_);dsimp only;refine Aa (Ab ?_);simp only[CA,Aq,if_false];refine Aa (BB ho hd ?_);dsimp only;refine Aa ?_;rw[<-Gj];refine DD _ (fun rest r s'=>r.1=none/\s'=s/\∀ v∈rest,carriedByValue v=true) _ ?_ ?_ _ _ ⟨rfl,rfl,hi.byValue⟩
 . rintro v rest r s' ⟨hr,rfl,hall⟩;rw[zo1 (hall v Aj)];refine Aa (Ab ?_);simp only[Aq,if_false];exact Ab ⟨rfl,rfl,fun u hu'=>hall u (Ah _ hu')⟩
 . rintro ⟨r1,r2⟩ s' ⟨hr,rfl,_⟩;simp only at hr;subst hr;exact Ab h
theorem znp{ks:List κ}{b:Addr}{Q:Bool->Shared->Prop}(hk:IsTupleKey knd s.heap ks b)(h:∀ c,Q c s):wpAny (model prog w) A (hashByValue 8 (.ref b)) Q E s:=by
 have hT:=hk.typeIs;obtain⟨o,items,n,ho,_,hd,hi⟩:=hk;unfold hashByValue;refine Aa (EW hT F.slot_tuple_hash.lookup ?_);dsimp only;refine Aa (BB ho hd ?_);dsimp only[Option.getD];refine Aa ?_;rw[<-Gj];refine BH (DD _ (fun rest r s'=>r.1=none/\s'=s/\∀ v∈rest,carriedByValue v=true) (fun r s'=>s'=s/\(r.1=none\/r.1=some false)) ?t ?f _ _ ⟨rfl,rfl,hi.byValue⟩) ?m (fun _ _ e=>e)
 case t =>
   rintro v rest r s' ⟨hr,rfl,hall⟩;obtain⟨c,hc⟩:=zm5 (hall v Aj) 7;rw[hc];refine Aa (Ab ?_)
   cases c with
   | true =>
     simp only[CA,Aq,if_false];exact Ab ⟨rfl,rfl,fun u hu'=>hall u (Ah _ hu')⟩
   | false =>
     simp only[D4,if_true];exact Ab ⟨rfl,.inr rfl⟩
 case f =>
   rintro r s' ⟨hr,rfl,_⟩;exact⟨rfl,.inl hr⟩
 case m =>
   rintro ⟨r1,r2⟩ s' ⟨rfl,hr⟩;simp only at hr
   rcases hr with rfl | rfl
   . exact Ab (h true)
   . exact Ab (h false)
def EntT(knd:KeyKind prog w κ)(h:Heap)(e:Int×Value)(k:List κ):Prop:=e.1=tupleKeyHash knd k/\∃ b,e.2=.ref b/\IsTupleKey knd h k b
theorem EntT.inj{h:Heap}{e:Int×Value}{k k':List κ}(x:EntT knd h e k)(y:EntT knd h e k'):k=k':=by
 obtain⟨_,b,e2,i⟩:=x;obtain⟨_,b',e2',i'⟩:=y;rw[e2] at e2';cases e2';exact i.inj i'
theorem znK{k:List κ}{b:Addr}{ys:List Value}{Q:Bool->Shared->Prop}(hk:IsTupleKey knd s.heap k b)(hy:∀ y∈ys,∃ k' b',y=.ref b'/\IsTupleKey knd s.heap k' b')(h:Q false s):wpAny (model prog w) A (searchCouldBeSeen (.ref b) ys) Q E s:=by
 unfold searchCouldBeSeen;refine Aa ?_;refine DD _ (fun rest r s'=>r.1=none/\s'=s/\∀ y∈rest,∃ k' b',y=.ref b'/\IsTupleKey knd s.heap k' b') _ ?_ ?_ _ _ ⟨rfl,rfl,hy⟩
 . rintro v rest r s' ⟨hr,rfl,hall⟩;obtain⟨k',b',rfl,hk'⟩:=hall v Aj;have rst:∀ y∈rest,∃ k' b',y=.ref b'/\IsTupleKey knd s'.heap k' b':=fun u hu'=>hall u (Ah _ hu');dsimp only;refine A1 (fun _=>Ab ⟨rfl,rfl,rst⟩) (fun _=>?_);refine Aa (FJ hk ?_);simp only[CA,Aq,if_false];refine Aa (FJ hk' ?_);simp only[CA,Aq,if_false];refine Aa (zkO hk ?_);simp only[Aq,if_false];refine Aa (zkO hk' ?_);simp only[Aq,if_false];exact Ab ⟨rfl,rfl,rst⟩
 . rintro ⟨r1,r2⟩ s' ⟨hr,rfl,_⟩;simp only at hr;subst hr;exact Ab h
end
section
variable {prog:Program} {w:World} {A:Around} {E:Value->Shared->Prop} {s:Shared} {κ:Type} [DecidableEq κ] {knd:KeyKind prog w κ}
theorem zdJ{t:SetTable}{es:Array (Int×Value)}(G:ST.Good t (es.toList.map (·.1))):t.fits es.size=true:=by
 have h1:=G.size;have h2:=G.room;unfold SetTable.fits SetTable.fill;rw[G.dum];simp at h1 ⊢;omega
theorem zmL{t:SetTable}{hs:List Int}(G:ST.Good t hs):t.gaveWay=false:=by
 unfold SetTable.gaveWay;have:=G.siz;apply beq_false_of_ne
 rcases this with h | h | h <;> omega
theorem zkq{es:Array (Int×Value)}{i:Nat}{x:Int}(h:(es.toList.map (·.1))[i]?=some x):((es[i]?.map (·.1)).getD 0)=x:=by
 rw[AA,Az] at h;rw[h];rfl
theorem zjQ{a:Addr}{o:Obj}{es:Array (Int×Value)}{ep:Nat}{t:SetTable}{k:List κ}{b:Addr}{K:Nat}{Q:SetFound->Shared->Prop}(hu:A.units < cLine)(ho:s.heap.get? a=some o)(hd:o.data=.set es ep t)(G:ST.Good t (es.toList.map (·.1)))(el:∀ e∈es.toList,∃ k,EntT knd s.heap e k)(hk:IsTupleKey knd s.heap k b)(F:ST.Free t (tupleKeyHash knd k) K)
   (yes:(∃ e∈es.toList,EntT knd s.heap e k)->Q (.there none) s) (no:(¬ ∃ e∈es.toList,EntT knd s.heap e k)->Q (.free (ST.pr t.mask (tupleKeyHash knd k) K).j false) s) :
   ∀ (d fuel kk:Nat) (stand:Option SetTable.Probe),kk+d=K->d < fuel->stand.getD (t.probeStart (tupleKeyHash knd k))=ST.pr t.mask (tupleKeyHash knd k) kk->(∀ k',k' < kk->∀ i:Nat,t.place[i]?=some (ST.pr t.mask (tupleKeyHash knd k) k').j->∀ e,es[i]?=some e->¬ EntT knd s.heap e k) ->
     wpAny (model prog w) A (setSearchFrom a (.ref b) (tupleKeyHash knd k) true fuel stand) Q E s:=by
 have hf:=zdJ G;intro d
 induction d using Hg with
 | ind d ih =>
   intro fuel kk stand hkk hfu hst hbe;obtain⟨fuel,rfl⟩:∃ f,fuel=f+1:=⟨fuel - 1,by omega⟩
   unfold setSearchFrom;refine Aa (AV ho hd hf ?_);dsimp only;rw[zmL G];simp only[Aq,if_false];rw[hst]
   rcases ST.probe_step (k:=kk) (hashAt:=fun i=>(es[i]?.map (·.1)).getD 0) G (fun i x h=>zkq h) F (by omega) with ⟨e1,e2⟩ | ⟨k1,i,a1,a2,a3,a4,a5,a6⟩
   . have e1':t.probe _ (tupleKeyHash knd k) (ST.pr t.mask (tupleKeyHash knd k) kk)=_:=e1
     first | rw[e1'] | erw[e1']
     dsimp only;refine Ab (no ?_);rintro ⟨e,he,hE⟩;obtain⟨i,hi⟩:=CU he;rw[Az] at hi;have hh:(es.toList.map (·.1))[i]?=some (tupleKeyHash knd k):=by rw[AA,Az,hi,<-hE.1];rfl
     obtain⟨k',hk',hp⟩:=G.before F hh
     by_cases c:k' < kk
     . exact hbe k' c i hp e hi hE
     . exact e2 k' (by omega) hk' i hp hh
   · first | rw[a5] | erw[a5]
     dsimp only;rw[AA,Az] at a4;obtain⟨⟨hy,y⟩,hes,hyh⟩:=zaj a4;have hmem:(hy,y)∈es.toList:=by rw[<-Az] at hes;exact Bc hes
     obtain⟨ky,hEy⟩:=el _ hmem;obtain⟨hh,b',hb',hkb⟩:=id hEy;dsimp only at hb';subst hb';have cont:wpAny (model prog w) A (do
         let some (_,y):=es[i]? | unsupported "internal:set-entry"
         let equal <-holding [y] (eqBool y (.ref b))
         let (es',_,t') <-setState a
         if true&&equal then return .there none
         let some same:=t'.sameMemory t.moves t.mask | unsupported "set.changed-during-lookup:is-the-new-block-at-the-old-address"
         let still <-match (if same then t'.slot (ST.pr t.mask (tupleKeyHash knd k) k1).j else .empty) with
           | .live i'=>match es'[i']? with
             | some (_,y')=>do pure (if <-isSame y' y then some i' else none)
             | none=>pure none
           | _=>pure none
         match still with
         | none=>rule "set.search.anew";setSearchFrom a (.ref b) (tupleKeyHash knd k) true fuel none
         | some i'=>if equal then return .there (some i') else setSearchFrom a (.ref b) (tupleKeyHash knd k) true fuel (some (ST.pr t.mask (tupleKeyHash knd k) (k1+1)))) Q E s:=by
       rw[hes];dsimp only;refine Aa (A0 (wpAny_eqBool_tuple hu hkb hk ?_));refine Aa (AV ho hd hf ?_);dsimp only
       by_cases c:ky=k
       . rw[decide_eq_true c];simp only[Ek,if_true];exact Ab (yes ⟨_,hmem,c ▸ hEy⟩)
       . rw[decide_eq_false c];simp only[Hk,Aq,if_false];have sm:t.sameMemory t.moves t.mask=some true:=by unfold SetTable.sameMemory;rw[if_pos (by simp)]
         rw[sm];dsimp only;rw[if_pos rfl,ST.slot_live G.rise a3];dsimp only;rw[hes];dsimp only;refine Aa (wpAny_isSame_ref_self ?_);refine Aa (Ab ?_);simp only[if_true];refine ih (K - (k1+1)) (by omega) fuel (k1+1) _ (by omega) (by omega) rfl fun k' hk' i' hp' e' he' hE'=>?_
         by_cases q:k' < kk
         . exact hbe k' q i' hp' e' he' hE'
         . by_cases q2:k'=k1
           . subst q2;have:i'=i:=by rw[<-ST.below_at G.rise hp',ST.below_at G.rise a3]
             subst this;rw[hes] at he';cases he';exact c (hEy.inj hE')
           . refine a6 k' (by omega) (by omega) i' hp' ?_;rw[AA,Az,he',<-hE'.1];rfl
     cases hl:t.led with
     | true =>
       simp only[CA,Aq,if_false];exact cont
     | false =>
       simp only[D4,if_true];refine Aa (znK hk (fun y hy=>?_) ?_)
       . obtain⟨e,he,rfl⟩:=List.mem_map.mp hy;have he':e∈es.toList:=by
           have:=he;simp at this;exact this.1 |> fun z=>by simpa using z
         obtain⟨k2,_,b2,e2,i2⟩:=el e he';exact⟨k2,b2,e2,i2⟩
       . simp only[Aq,if_false];exact cont
end
section
variable {prog:Program} {w:World} {A:Around} {E:Value->Shared->Prop} {s:Shared} {κ:Type} [DecidableEq κ] {knd:KeyKind prog w κ}
def SetT(knd:KeyKind prog w κ)(src:Value->Prop)(g h:Heap)(a:Addr)(ms:List (List κ)):Prop :=
 ∃ o es ep t,h.get? a=some o/\o.ExactSet/\o.data=.set es ep t/\(∀ e∈es.toList,∃ k,EntT knd g e k)/\(∀ k,k∈ms ↔ ∃ e∈es.toList,EntT knd g e k)/\es.size=ms.length/\ST.Good t (es.toList.map (·.1))/\t.place.size*5 < t.mask*3/\(w.params.followText "set-order"=true\/t.led=true)/\∀ e∈es.toList,src e.2
theorem zi6{t:SetTable}{hs:List Int}{p:Bool}(G:ST.Good t hs):ST.Good { t with plain:=p } hs:=⟨G.size,G.dum,G.rise,G.top,G.siz,G.room,G.road⟩
theorem zl3{t:SetTable}{j:Nat}:(t.put j).1.mask=t.mask/\(t.put j).1.led=t.led/\(t.put j).1.plain=t.plain:=⟨rfl,rfl,rfl⟩
theorem zfg{h:Heap}{a:Addr}{o:Obj}{es es2:Array (Int×Value)}{ep:Nat}{t t2:SetTable}(g:h.get? a=some o)(gd:o.data=.set es ep t):(h.update a (Dm es2 t2)).get? a=some { o with data:=.set es2 (ep+1) t2 }:=by
 have:=AS (Dm es2 t2) g (by rw[putSet_of es2 t2 gd];rfl);rw[putSet_of es2 t2 gd] at this;exact this
theorem EntT.up{g h:Heap}{e:Int×Value}{k:List κ}(sub:∀ b o,g.get? b=some o->h.get? b=some o)(x:EntT knd g e k):EntT knd h e k:=by
 obtain⟨e1,b,e2,o',items,n,gg,r⟩:=x;exact⟨e1,b,e2,o',items,n,sub _ _ gg,r⟩
theorem zmz{g h:Heap}{k:List κ}{b:Addr}(sub:∀ b o,g.get? b=some o->h.get? b=some o)(x:IsTupleKey knd g k b):IsTupleKey knd h k b:=by
 obtain⟨o',items,n,gg,r⟩:=x;exact⟨o',items,n,sub _ _ gg,r⟩
theorem zmK{n m:Nat}(hz:ST.Siz (m+1))(h1:n*5 < m*3)(h2:(n+1)*5 ≥ m*3)(h3:n+1 < 64):∃ m',SetTable.sizeAbove (SetTable.grown (n+1)) - 1=m'/\ST.Siz (m'+1)/\n+1<=m'/\(n+1)*5 < m'*3/\SetTable.sizeAbove (SetTable.grown (n+1))<=1000:=by
 rcases hz with h | h | h
 . have:n=4:=by omega
   subst this;exact⟨31,by decide +kernel,.inr (.inl rfl),by decide,by decide,by decide +kernel⟩
 . have:n=18:=by omega
   subst this;exact⟨127,by decide +kernel,.inr (.inr rfl),by decide,by decide,by decide +kernel⟩
 . omega
theorem add_tuple{a:Addr}{ms:List (List κ)}{k:List κ}{b:Addr}{Q:Bool->Shared->Prop}{src:Value->Prop}{G0:Heap}(hu:A.units < cLine)(sub:∀ b o,G0.get? b=some o->s.heap.get? b=some o)(x:SetT knd src G0 s.heap a ms)(hk:IsTupleKey knd G0 k b)(hsr:src (.ref b))(room:ms.length+1 < 64)
   (q:∀ c h',Bg a s.heap h'->SetT knd src G0 h' a (if k∈ms then ms else ms++[k])->Q c { s with heap:=h' }) :
   wpAny (model prog w) A (setAddHashed a (.ref b) (tupleKeyHash knd k)) Q E s:=by
 obtain⟨o,es,ep,t,g,gx,gd,k1,k2,k3,k4,k5,k7,k9⟩:=id x;have hf:=zdJ k4;obtain⟨K,F⟩:=k4.free (tupleKeyHash knd k);have few:K < 100000:=by
   have h1:=F.few;have h2:=k4.siz;unfold SetTable.turns at h1
   rcases h2 with h | h | h <;> omega
 have szs:t.place.size=es.size:=by have:=k4.size;simpa using this
 unfold setAddHashed;refine A0 ?_;show wpAny _ _ (setAddHashedIn a (.ref b) (tupleKeyHash knd k) (99999+1)) _ _ _;unfold setAddHashedIn;refine Aa (AV g gd hf ?_);dsimp only;have bs:byScan (.ref b) es=false:=rfl;rw[bs];simp only[Aq,if_false];have dn:(∃ e∈es.toList,EntT knd s.heap e k)->∃ e∈es.toList,EntT knd G0 e k:=fun⟨e,he,y⟩=>by
   obtain⟨k',hk'⟩:=k1 e he;have:=(hk'.up sub).inj y;subst this;exact⟨e,he,hk'⟩
 unfold setSearch;refine Aa (zjQ hu g gd k4 (fun e he=>(k1 e he).elim fun k' y=>⟨k',y.up sub⟩) (zmz sub hk) F (fun yes=>?_) (fun no=>?_) K 100000 0 none (by omega) few rfl fun k' hk'=>by omega)
 . dsimp only;refine Ab ?_;have hm:=(k2 k).mpr (dn yes);have es0:s={ s with heap:=s.heap }:=by cases s;rfl
   rw[es0];refine q false s.heap (Gz a s.heap) ?_;rw[if_pos hm];exact x
 . dsimp only;refine Aa (AV g gd hf ?_);dsimp only;have hm:k ∉ ms:=fun z=>no (((k2 k).mp z).elim fun e y=>⟨e,y.1,y.2.up sub⟩);have Gp:=k4.put F (by rw[szs] at k5 ⊢;rcases k4.siz with h | h | h <;> omega);obtain⟨pm,pl,pp⟩:=zl3 (t:=t) (j:=(ST.pr t.mask (tupleKeyHash knd k) K).j);generalize t.put (ST.pr t.mask (tupleKeyHash knd k) K).j=pt at Gp pm pl pp;obtain⟨t1,p⟩:=pt;dsimp only at Gp pm pl pp ⊢;have el:(SetTable.insertAt es p (tupleKeyHash knd k,AJ b)).toList=es.toList.take p++(tupleKeyHash knd k,AJ b)::es.toList.drop p:=SetTable.toList_insertAt _ _ _;have ep1:(SetTable.insertAt es p (tupleKeyHash knd k,AJ b)).toList.Perm (es.toList++[(tupleKeyHash knd k,AJ b)]):=by
     have:=SetTable.insertAt_perm es p (tupleKeyHash knd k,AJ b);rw[Es] at this;exact this
   have eh:(SetTable.insertAt es p (tupleKeyHash knd k,AJ b)).toList.map (·.1)=(es.toList.map (·.1)).take p++tupleKeyHash knd k::(es.toList.map (·.1)).drop p:=by
     rw[el,Fd,Ar,List.map_take,Hu]
   rw[<-eh] at Gp;generalize SetTable.insertAt es p (tupleKeyHash knd k,AJ b)=es1 at Gp ep1;have sz1:es1.size=es.size+1:=by
     rw[<-Au,ep1.length_eq];simp
   have new:EntT knd G0 (tupleKeyHash knd k,AJ b) k:=⟨rfl,b,rfl,hk⟩
   have m1:∀ e∈es1.toList,∃ k,EntT knd G0 e k:=fun e he=>by
     rcases List.mem_append.mp (ep1.mem_iff.mp he) with he | he
     . exact k1 e he
     . rw[List.mem_singleton.mp he];exact⟨k,new⟩
   have m2:∀ k',k'∈ms++[k] ↔ ∃ e∈es1.toList,EntT knd G0 e k':=fun k'=>by
     rw[Hf,Ce,k2 k']
     constructor
     . rintro (⟨e,he,x⟩ | rfl)
       . exact⟨e,ep1.mem_iff.mpr (Bx _ he),x⟩
       . exact⟨_,ep1.mem_iff.mpr (A2 _ Aj),new⟩
     . rintro ⟨e,he,x⟩
       rcases List.mem_append.mp (ep1.mem_iff.mp he) with he | he
       . exact .inl ⟨e,he,x⟩
       . rw[List.mem_singleton.mp he] at x;exact .inr (x.inj new)
   have m9:∀ e∈es1.toList,src e.2:=fun e he=>by
     rcases List.mem_append.mp (ep1.mem_iff.mp he) with he | he
     . exact k9 e he
     . rw[List.mem_singleton.mp he];exact hsr
   have m3:es1.size=(ms++[k]).length:=by rw[sz1,k3];simp
   have ps1:t1.place.size=es1.size:=by have:=Gp.size;simpa using this
   have bound:es1.size < 4096:=by rw[m3];simp;omega
   have tail:∀ (t2:SetTable),ST.Good t2 (es1.toList.map (·.1))->t2.mask=t.mask->t2.led=t.led->wpAny (model prog w) A (do
       storeSet a es1 t2
       if (!false&&t2.tooFull)=true then do
           setRelay a (SetTable.grown (es.size+1))
           pure true
         else pure true) Q E s:=fun t2 G2 e1 e2=>by
     rw[<-e2] at k7;have ps2:t2.place.size=es1.size:=by have:=G2.size;simpa using this
     refine Aa (Dr g gd ?_ (Ds bound));have g1:=zfg (es2:=es1) (t2:=t2) g gd;have b1:=AL s.heap a (Dm es1 t2);generalize s.heap.update a (Dm es1 t2)=h1 at g1 b1;have full:t2.tooFull=decide ((es.size+1)*5 ≥ t.mask*3):=by
       unfold SetTable.tooFull SetTable.fill;rw[G2.dum,ps2,sz1,e1];rfl
     rw[full]
     by_cases c:(es.size+1)*5 ≥ t.mask*3
     . rw[decide_eq_true c];simp only[D4,Bool.and_self,if_true];obtain⟨m',hm',z1,z2,z3,z4⟩:=zmK (n:=es.size) k4.siz (by rw[<-szs];exact k5) c (by rw[k3];exact room);obtain⟨t3,order,el3,l1,l2,l3,l4,l5,l6⟩:=ST.laid_ok (mask:=m') (finger:=t2.finger) (moves:=t2.movedTo m') (led:=t2.led) (plain:=t2.plain) z1 es1 (by rw[sz1];exact z2);have er:t2.relaid (es1.map (·.1)) (SetTable.grown (es.size+1))=some (t3,order):=by
         unfold SetTable.relaid;rw[hm'];exact el3
       unfold setRelay;refine Aa (Aa (AV (s:={ s with heap:=h1 }) g1 rfl (zdJ G2) ?_));dsimp only;have hs:sizeLine=16777216:=by decide
       rw[if_neg (by omega),er];refine Aa (show wpAny _ _ (if ((order.filterMap (es1[·]?)).size != es1.size)=true then unsupported "internal:set-table-lost-an-element" else pure (order.filterMap (es1[·]?),t3)) _ _ _ from ?_);rw[l4];simp only[bne_self_eq_false,Aq,if_false];refine Ab ?_;dsimp only;generalize order.filterMap (es1[·]?)=es3 at l4 l5 l6;refine Dr (s:={ s with heap:=h1 }) g1 rfl ?_ (Ds (by rw[l4];exact bound));have w1:∀ e∈es3.toList,∃ k,EntT knd G0 e k:=fun e he=>m1 e (l5.mem_iff.mp he);have w2:∀ k',k'∈ms++[k] ↔ ∃ e∈es3.toList,EntT knd G0 e k':=fun k'=>(m2 k').trans ⟨fun⟨e,he,u⟩=>⟨e,l5.mem_iff.mpr he,u⟩,fun⟨e,he,u⟩=>⟨e,l5.mem_iff.mp he,u⟩⟩;have k8:w.params.followText "set-order"=true\/t3.led=true:=by rw[l2];exact k7
       have gx1:Obj.ExactSet { o with data:=.set es1 (ep+1) t2 }:=gx;have g3:=zfg (h:=h1) (es2:=es3) (t2:=t3) g1 rfl;refine Ab (q true _ (b1.trans (AL _ a _)) ?_);rw[if_neg hm];have ps3:t3.place.size=es3.size:=by have:=l6.size;simpa using this
       exact⟨_,es3,_,t3,g3,gx,rfl,w1,w2,l4.trans m3,l6,by rw[ps3,l4,sz1,l1];exact z3,k8,fun e he=>m9 e (l5.mem_iff.mp he)⟩
     . rw[decide_eq_false c];simp only[D4,Hk,Aq,if_false];refine Ab (q true _ b1 ?_);rw[if_neg hm];exact⟨_,es1,_,t2,g1,gx,rfl,m1,m2,m3,G2,by rw[ps2,sz1,e1];omega,k7,m9⟩
   have fin:∀ c:Bool,wpAny (model prog w) A (do
       storeSet a es1 (if c=true then t1 else { t1 with plain:=false })
       if (!false&&(if c=true then t1 else { t1 with plain:=false }).tooFull)=true then do
           setRelay a (SetTable.grown (es.size+1))
           pure true
         else pure true) Q E s:=fun c=>by
     cases c with
     | true=>exact tail t1 Gp pm pl
     | false=>exact tail { t1 with plain:=false } (zi6 Gp) pm pl
   cases hp:t1.plain with
   | true =>
     simp only[if_true];exact Aa (znp (zmz sub hk) fun c=>fin c)
   | false =>
     simp only[Aq,if_false];exact Aa (Ab (fin true))
end
end L2.MP
namespace L2.MP
open PySem PySem.Spec
theorem zi8(led:Bool):ST.Good (SetTable.fresh 0 0 led) []:=by
 refine⟨rfl,rfl,fun i j _ h=>?_,fun p hp=>?_,.inl rfl,AZ _,fun q hq=>?_⟩
 . exact absurd (show j < 0 from h) (G4 _)
 . exact absurd (show p∈([]:List Nat) from hp) (by simp)
 . exact absurd (show q∈([]:List (Nat×Int)) from hq) (by simp)
theorem zi7(led:Bool):(SetTable.fresh 0 0 led).place.size*5 < (SetTable.fresh 0 0 led).mask*3:=by
 show 0*5 < 7*3
 decide
theorem zmo{κ:Type}[DecidableEq κ](val:Nat->κ)(i:Nat):met val (i+1)=if val i∈met val i then met val i else met val i++[val i]:=by rw[met]
section
variable {prog:Program} {w:World} {A:Around} {R:Result->Shared->Prop} {I:Addr} {fp wr:List Addr} {G:Array GenState->Array GenState->Prop} {n:Nat} {P:Nat->Value->Prop} {St:Nat->Shared->Prop} {κ:Type} [DecidableEq κ] {knd:KeyKind prog w κ}
theorem zjL(W:WalksS prog w A.in1 I fp wr G n P St)(Z:Addr)(hZ:Z ∉ fp)(val:Nat->List κ){src:Value->Prop}{G0:Heap}(hu:A.in1.units < cLine)(hv:∀ i v,P i v->∃ b,v=.ref b/\IsTupleKey knd G0 (val i) b/\src v)(hwr:∀ b∈Z::wr,G0.get? b=none)(hb:n < 63) :
   ∀ (k i:Nat) (s:Shared),n - i=k->i<=n->St i s->(∀ b o,G0.get? b=some o->s.heap.get? b=some o)->SetT knd src G0 s.heap Z (met val i) ->
     (∀ s',Moved (Z::wr) G s s'->SetT knd src G0 s'.heap Z (met val n)->R (.ok (.ret .none)) s') ->
     codeAny (model prog w) A (.builtin "set.update.loop" ⟨[.ref Z,.ref I],[]⟩) R s:=by
 have hw:Z ∉ wr:=fun q=>hZ (W.sub _ q);have up:∀ b∈wr,b∈Z::wr:=fun b q=>Ah _ q;have keep:∀ {s s':Shared} {ms:List (List κ)},Moved wr G s s'->SetT knd src G0 s.heap Z ms->SetT knd src G0 s'.heap Z ms:=fun hm x=>by
   obtain⟨o,es,ep,t,ho,r⟩:=x;exact⟨o,es,ep,t,hm.heap Z _ hw ho,r⟩
 have base:∀ {s s':Shared},Moved wr G s s'->(∀ b o,G0.get? b=some o->s.heap.get? b=some o)->∀ b o,G0.get? b=some o->s'.heap.get? b=some o:=fun hm x b o e=>hm.heap b o (fun q=>by rw[hwr b (up b q)] at e;cases e) (x b o e);intro k
 induction k with
 | zero =>
   intro i s hk hi hs sub x go;have e:i=n:=by omega
   subst e;refine BC BJ ?_;rw[By Bk _];show wpAny _ A.in1 (pyNext (.ref I) >>= _) _ _ s;refine Aa (W.done s _ _ hs fun s' hm=>?_);exact Ab (go s' (hm.mono up) (keep hm x))
 | succ k ih =>
   intro i s hk hi hs sub x go;have lt:i < n:=by omega
   refine BC BJ ?_;rw[By Bk _];show wpAny _ A.in1 (pyNext (.ref I) >>= _) _ _ s;refine Aa (W.item i s _ _ lt hs fun v s1 hP hs1 hm=>?_);obtain⟨b,rfl,v1,v9⟩:=hv i v hP;have x1:=keep hm x;have sub1:=base hm sub;show wpAny _ A.in1 (holding [_] (setAdd Z _) >>= _) _ _ s1;refine Aa (A0 ?_);unfold setAdd;refine A0 (Aa (wpAny_pyHash_tuple hu (zmz sub1 v1) ?_));have room:(met val i).length+1 < 64:=by have:=zgQ val i;omega
   refine add_tuple (s:={ s1 with toks:=s1.toks+((val i).length+1) }) hu sub1 x1 v1 v9 room fun c h' sb x2=>?_;have x3:SetT knd src G0 h' Z (met val (i+1)):=by
     rw[zmo]
     by_cases q:val i∈met val i
     . rw[if_pos q] at x2 ⊢;exact x2
     . rw[if_neg q] at x2 ⊢;exact x2
   have zn:G0.get? Z=none:=hwr Z Aj;refine Ab ⟨CB Bk _,ih (i+1) _ (by omega) lt (W.frame _ s1 _ _ hs1 (BS _ _) fun b hb o e=>?_) (fun b o e=>?_) x3 fun s2 hm2 x4=>?_⟩
   . rw[sb.2 b (fun q:b=Z=>hZ (by rw[<-q];exact hb))];exact e
   . rw[sb.2 b (fun q:b=Z=>by rw[q,zn] at e;cases e)];exact sub1 b o e
   . refine go s2 (HE W.gtrans ((hm.mono up).then_heap (BS _ _) fun b o hb e=>?_) hm2) x4;rw[sb.2 b (fun q:b=Z=>hb (by rw[q];exact Aj))];exact e
end
section
variable {prog:Program} {w:World} {A:Around} {E:Value->Shared->Prop} {s:Shared}
theorem zjN{κ:Type}[DecidableEq κ]{knd:KeyKind prog w κ}{l:Addr}{its:Array Value}{val:Nat->List κ}{src:Value->Prop}{Q:Value->Shared->Prop}(hh:A.handled=none)(hu:A.units+100 < cLine)(hl:s.heap.IsList l its)(hv:∀ (i:Nat) (v:Value),its[i]?=some v->∃ b,v=.ref b/\IsTupleKey knd s.heap (val i) b/\src v)(hb:its.size < 63)
   (go:∀ (h':Heap) (tk:Nat),SetT knd src s.heap h' s.heap.objs.size (met val its.size)->(∀ b o,b < s.heap.objs.size->s.heap.get? b=some o->h'.get? b=some o)->Q (.ref s.heap.objs.size) { s with heap:=h',toks:=tk }) :
   wpAny (model prog w) A (call (.type "set") [.ref l]) Q E s:=by
 obtain⟨c,tl,hmro⟩:=F.called_set.mro;have q1:=F.called_set.made;have q2:=F.called_set.sub;refine GV (Fe ?_);show wpAny _ _ (callAny (.type "set") _) _ _ _;refine Ab ⟨Gh _ (by decide +kernel),BC F.entry_type_call ?_⟩;rw[Gi (FG "set" [.ref l] []) rfl];have q3:=F.called_set.notType;have q4:=F.called_set.canCreate;have q5:=F.typeCall_set_1 (.ref l)
 repeat (any_goals (first | assumption | wp_step))
 refine CM (zib (.ref l) (E:=E) (Q₁:=fun obj s₁=>∃ led:Bool,led=(!w.params.followText "set-order")/\obj=.ref s.heap.objs.size/\s₁={ s with heap:=s.heap.push (zec led) }) ⟨_,rfl,rfl,rfl⟩) fun r s1 hr=>?_
 cases r with
 | error e=>exact hr
 | ok fl =>
   cases fl with
   | ret obj =>
     obtain⟨led,hled,rfl,rfl⟩:=hr;have at0:(s.heap.push (zec led)).get? s.heap.objs.size=some (zec led):=Al _ rfl;have ty:Eh { s with heap:=s.heap.push (zec led) } (.ref s.heap.objs.size) "set":=⟨_,at0,rfl⟩
     have q6:=F.called_set.init.lookup;have q7:=F.called_set.init.bind (.ref s.heap.objs.size)
     repeat (any_goals (first | assumption | wp_step))
     refine CM (FP (R:=wants (fun r s₂=>r=.none/\∃ h' tk,s₂={ s with heap:=h',toks:=tk }/\SetT knd src s.heap h' s.heap.objs.size (met val its.size)/\(∀ b o,b < s.heap.objs.size->s.heap.get? b=some o->h'.get? b=some o)) E) F.called_set.init.plain F.entry_set_init (check_set_init_1 ty ?_)) fun r2 s2 hr2=>?_
     . obtain⟨u,hu,hc,m,hd⟩:=hl;obtain⟨uc,ud,ux,us⟩:=u;simp only at hc hd;subst hc;subst hd;have at1:(s.heap.push (zec led)).get? l=some { cls:=.type "list",dict:=ud,data:=.seq its m,slots:=us }:=Ad _ hu;have l1:(s.heap.push (zec led)).IsList l its:=⟨_,at1,rfl,m,rfl⟩
       have z1:=F.sub_list_set;have z2:=F.sub_list_frozenset;have z3:(BK "list"==BK "dict")=false:=by decide
       unfold Builtin.«set.__init__» noKeywords D3;generalize hPI:pyIter=PI
       wp_walk
       subst hPI;refine CK l1 (Aa (D2 ?_));have ll:l < s.heap.objs.size:=Ak hu;have h3:A.in1.in1.in1.handled=none:=by simp[hh]
       have n1:l≠(s.heap.push (zec led)).objs.size:=by rw[A4];exact AB (BY ll)
       have n2:s.heap.objs.size ∉ [(s.heap.push (zec led)).objs.size,l]:=by
         rw[A4,AN,Ce];rintro (z | z)
         . exact absurd z (AB (DE _))
         . exact absurd z (AQ ll)
       refine zjL (G0:=s.heap) ((GZ h3 _ l n1 its).toS) s.heap.objs.size n2 val (by simp only[PyProof.Rows.units_in1];omega) hv ?wr hb (its.size - 0) 0 _ (by omega) (AZ _) ⟨⟨_,Al _ rfl,rfl,rfl⟩,(l1.push _)⟩ (fun b o e=>Ad _ (Ad _ e)) ?first ?rest
       case wr =>
         intro b hb;have hsz:s.heap.objs.size<=b:=by
           rcases List.mem_cons.mp hb with rfl | hb
           . exact Af _
           . rw[List.mem_singleton.mp hb,A4];exact BE _
         cases e:s.heap.get? b with
         | none=>rfl
         | some u=>exact absurd (Ak e) (Nat.not_lt.mpr hsz)
       case first =>
         have g:((s.heap.push (zec led)).push { cls:=.type "list_iterator",data:=.fields #[.ref l,.int 0 0] }).get? s.heap.objs.size=some (zec led):=Ad _ at0;exact⟨_,#[],0,_,g,⟨rfl,rfl,rfl⟩,rfl,fun e he=>(by simp at he),fun k=>(by simp[met]),rfl,zi8 led,zi7 led,(by rw[hled];cases w.params.followText "set-order";exact .inr rfl;exact .inl rfl),fun e he=>(by simp at he)⟩
       case rest =>
         intro s' hm x;obtain⟨h',g',d',tk',os'⟩:=s';have eg:g'=s.gens:=hm.gens;have ed:d'=s.drawn:=hm.drawn;have eo:os'=s.os:=hm.os;subst eg;subst ed;subst eo;show wpAny _ _ _ _ _ _;refine Ab ?_;show wpAny _ _ (ret AW) _ _ _;refine Ab ⟨rfl,h',tk',rfl,x,fun b o hb e=>?_⟩;refine hm.heap b o ?_ (Ad _ (Ad _ e));rw[A4,AN,Ce];rintro (z | z)
         . exact absurd z (AB hb)
         . exact absurd z (AB (BY hb))
     . cases r2 with
       | error e=>exact hr2
       | ok fl2 =>
         cases fl2 with
         | ret r =>
           obtain⟨rfl,h',tk,rfl,x,k⟩:=hr2
           repeat (any_goals (first | assumption | wp_step))
           exact go _ _ x k
         | _=>exact hr2.elim
   | _=>exact hr.elim
end
end L2.MP
namespace L2.MP
open PySem PySem.Spec PyProof.Rows
noncomputable def zix(ts:List (List Int)):List (List Int):=met (fun i=>ts.getD i []) ts.length
noncomputable def refOf:Value->Addr
 | .ref b=>b
 | _=>0
inductive SetY (w:World) (a:Addr) (as:List Addr) (h:Heap):Prop
 | mk (o:Obj) (es:Array (Int×Value)) (ep:Nat) (t:SetTable) (h1:h.get? a=some o) (h2:o.ExactSet) (h3:o.data=.set es ep t) (h4:es.toList.map (·.2)=as.map AJ) (h5:ST.Rise t.place) (h6:t.fits es.size=true) (h7:es.size < 64) (h8:∃ b:Bool,w.params.followText "set-order"=b/\(b=true\/t.led=true))
theorem znH{P:Program}{w:World}{H:Hp}{h:Heap}{a:Addr}{as:List Addr}{w':World}(x:SetY w' a as h):zdi P w H h a (.ext (SetY w' a as)):=by
 have y:=x;obtain⟨o,es,ep,t,h1⟩:=y;refine⟨x,⟨o,h1⟩,?_⟩;rintro g1 g2 ⟨o,es,ep,t,h1,h2,h3,h4,h5,h6,h7,h8⟩ k;exact⟨o,es,ep,t,k o h1,h2,h3,h4,h5,h6,h7,h8⟩
theorem zfz{P:Program}{w:World}:∀ {t:List Int} {its:List Value},Vals (t.map V.int) its->ItemsAre (intKind P w) t its
 | [],its,h=>by cases h;exact .nil
 | z::t,its,h=>by
   cases h with
   | cons h1 h2 =>
     obtain⟨tk,rfl⟩:=h1;exact .cons (intKind_is P w z tk) (zfz h2)
theorem zhN:∀ as:List Addr,Vals (as.map V.ref) (as.map AJ)
 | []=>.nil
 | _::as=>.cons rfl (zhN as)
theorem zjy{H:Hp}{as as':List Addr}(p:as'.Perm as):∀ {ks:List (List Int)},zcF H (as.map V.ref) ks->∃ ks',ks'.Perm ks/\zcF H (as'.map V.ref) ks':=by
 induction p with
 | nil=>exact fun T=>⟨_,Cq _,T⟩
 | cons x _ ih =>
   intro ks T
   cases T with
   | cons h1 h2 =>
     obtain⟨ks',p',T'⟩:=ih h2;exact⟨_,p'.cons _,.cons h1 T'⟩
 | swap x y l =>
   intro ks T
   cases T with
   | cons h1 h2 =>
     cases h2 with
     | cons h3 h4=>exact⟨_,Hj ..,.cons h3 (.cons h1 h4)⟩
 | trans _ _ ih1 ih2 =>
   intro ks T;obtain⟨k2,p2,T2⟩:=ih2 T;obtain⟨k1,p1,T1⟩:=ih1 T2;exact⟨k1,p1.trans p2,T1⟩
theorem zgx{H:Hp}{xs:List V}{ts:List (List Int)}(T:zcF H xs ts):∀ {q:List Nat},(∀ i∈q,i < ts.length)->zcF H (q.map fun i=>xs.getD i .non) (q.map fun i=>ts.getD i [])
 | [],_=>.nil
 | i::q,h=>by
   obtain⟨a,e1,e2,e3⟩:=zdO T (h i Aj);refine .cons ⟨a,?_,e2,e3⟩ (zgx T fun j hj=>h j (Ah _ hj));show xs.getD i .non=_;rw[AD,e1];rfl
theorem zeB{a b:List (List Int)}(h:a.Perm b)(hs:b.Pairwise fun x y=>tle x y=true):zeC a=b :=
 zda ((BA _ _).trans h) (Bw (fun a b c=>zcb a b c) zcw a) hs fun x _ y _=>zfW
section
variable {X:Cx}
theorem zkN{pins:List (Addr×Obj)}{σ:List (Option V)}{H:Hp}{s:Shared}(I:Inv X pins σ H s){b:Addr}{t:List Int}(h:H b=some (.tup (t.map V.int))):IsTupleKey (intKind X.prog X.w) s.heap t b:=by
 obtain⟨_,its,rv,o,g,c,_,n,d⟩:=I.hok b _ h;exact⟨o,its.toArray,n,g,c,d,zfz rv⟩
inductive SetLT (w:World) (K:Ae) (H:Hp) (Q:VK):List V->Prop
 | mk (a:Addr) (xs:List V) (ts:List (List Int)) (h1:SqL K H a xs) (h2:zcF H xs ts) (h3:ts.length < 63) (h4:∀ p as ks,H p=none->ks.Perm (zix ts)->zcF H (as.map V.ref) ks->Q (.ref p) (upd H p (.ext (SetY w p as)))):SetLT w K H Q [.ref a]
theorem zgW{P:Program}{w:World}{H:Hp}{h:Heap}(hI:∀ b (t:List Int),H b=some (.tup (t.map V.int))->IsTupleKey (intKind P w) h t b):∀ {l:List (Int×Value)},(∀ e∈l,∃ k,EntT (intKind P w) h e k)->(∀ e∈l,∃ b t,e.2=.ref b/\H b=some (.tup (t.map V.int))/\t≠[]) ->
   ∃ (as:List Addr) (ks:List (List Int)),l.map (·.2)=as.map AJ/\zcF H (as.map V.ref) ks/\ks.length=l.length/\∀ e∈l,∀ k,EntT (intKind P w) h e k->k∈ks
 | [],_,_=>⟨[],[],rfl,.nil,rfl,fun e he=>by simp at he⟩
 | e::l,h1,h2=>by
   obtain⟨as,ks,e1,e2,e3,e4⟩:=zgW hI (l:=l) (fun x hx=>h1 x (Ah _ hx)) fun x hx=>h2 x (Ah _ hx);obtain⟨b,t,e5,e6,e7⟩:=h2 e Aj;refine⟨b::as,t::ks,by rw[Ar,Ar,e1,e5],.cons ⟨b,rfl,e6,e7⟩ e2,by simp[e3],fun x hx k hk=>?_⟩
   rcases List.mem_cons.mp hx with rfl | hx
   . obtain⟨_,b',e8,i⟩:=hk;rw[e5] at e8;cases e8;rw[(hI b t e6).inj i];exact Aj
   . exact Ah _ (e4 x hx k hk)
theorem zjj(hc:X.calm=true)(hu:X.A.units+100 < cLine):zfK X (.type "set") (fun xs H Q=>SetLT X.w X.K H Q xs):=by
 rintro pins s σ H xs us Q I r ⟨a,zs,ts,h1,h2,h3,h4⟩;obtain⟨u,rfl,ru⟩:=r.one;cases ru;obtain⟨its,rv,pl,hz⟩:=I.list h1;have hlt:zs.length=ts.length:=BR h2;have hl:its.length=ts.length:=by rw[<-hlt];exact rv.length.symm
 have sz:its.toArray.size=ts.length:=by rw[Ao];exact hl
 refine zjN (knd:=intKind X.prog X.w) (val:=fun i=>ts.getD i []) (src:=fun v=>∃ b t,v=.ref b/\H b=some (.tup (t.map V.int))/\t≠[]) (I.ok.hd hc) hu pl.isList (fun i v e=>?_) (by rw[sz];exact h3) fun h' tk hs hk=>?_
 . rw[CP] at e;have hi:i < ts.length:=by rw[<-hl];exact (List.getElem?_eq_some_iff.mp e).1
   obtain⟨b,e1,e2,e3⟩:=zdO h2 hi;obtain⟨y,hy,ry⟩:=rv.get e1;rw[e] at hy;cases hy;cases ry;exact⟨b,rfl,zkN I e2,b,_,rfl,e2,e3⟩
 . rw[sz] at hs;obtain⟨o,es,ep,t,g,gx,gd,k1,k2,k3,k4,k5,k7,k9⟩:=hs;obtain⟨as,ks,e1,e2,e3,e4⟩:=zgW (fun b t=>zkN I) k1 k9;have pk:ks.Perm (zix ts):=zeO (zdd _ _) (fun k hk=>by
     obtain⟨e,he,y⟩:=(k2 k).mp hk;exact e4 e he k y) (by rw[e3,Au];exact k3)
   refine⟨.ref s.heap.objs.size,_,I.laid (t':=tk) (fun b o q=>hk b o (Ak q) q) (Af _) (znH (w':=X.w) (as:=as) ⟨o,es,ep,t,g,gx,gd,e1,k4.rise,zdJ k4,?_,⟨_,rfl,k7⟩⟩),rfl,?_⟩
   . rw[k3];have:=zgQ (fun i=>ts.getD i []) ts.length;omega
   . exact h4 _ as ks (I.hok.fresh (Af _)) pk e2
inductive SrtY (w:World) (H:Hp) (Q:VK):List V->Prop
 | mk (a:Addr) (as:List Addr) (ks:List (List Int)) (h1:H a=some (.ext (SetY w a as))) (h2:zcF H (as.map V.ref) ks) (h4:∀ l ys,H l=none->zcF H ys (zeC ks)->Q (.ref l) (upd H l (.lst ys))):SrtY w H Q [.ref a]
theorem zkz(hc:X.calm=true):zfK X (.builtin "sorted") (fun xs H Q=>SrtY X.w H Q xs):=by
 rintro pins s σ H xs us Q I r ⟨a,as,ks,hH,h2,h4⟩;obtain⟨u,rfl,ru⟩:=r.one;cases ru;obtain⟨⟨o,es,ep,t,e1,e2,e3,e4,e5,e6,e7,⟨_,rfl,e8⟩⟩,_,_⟩:=I.hok a _ hH;refine C6 kind_sorted plain_sorted entry_sorted (Gd _) ?_;unfold Builtin.«sorted»;refine Aa (m:=checkCount "sorted" 1 1 _) (Ab (Aa (zf1 (A:=X.A.in1) (I.ok.hd hc) e1 e2 e3 e6 rfl (by omega) e5 e8 fun h' d tk vs hk hsz hv=>?_)));rw[e4] at hv;obtain⟨as',ev,pa⟩:∃ as':List Addr,vs=as'.map AJ/\as'.Perm as:=by
   have all:∀ v∈vs,v=AJ (refOf v):=fun v hm=>by
     obtain⟨b,_,rfl⟩:=List.mem_map.mp (hv.mem_iff.mp hm);rfl
   refine⟨vs.map refOf,?_,?_⟩
   . rw[Bo]
     conv=>lhs;rw[<-D6 vs]
     exact Cy fun v hm=>all v hm
   . have:=hv.map refOf;rw[Bo] at this;have ei:as.map (refOf ∘ AJ)=as:=by
       conv=>rhs;rw[<-D6 as]
       rfl
     rw[ei] at this;exact this
 obtain⟨ks',pk,T'⟩:=zjy pa h2;have hlk:ks'.length=as'.length:=by
   have:=BR T';rw[Ag] at this;exact this.symm
 have hn:as'.length < 64:=by
   have h1:vs.length=es.size:=by rw[hv.length_eq,<-e4,Ag,Au]
   rw[ev,Ag] at h1;omega
 have rv:Vals (as'.map V.ref) vs:=by
   rw[ev];exact zhN as'
 have sk:zeC ks'=zeC ks:=zeB (pk.trans (BA _ _).symm) (Bw (fun a b c=>zcb a b c) zcw ks);refine Aa (DA ?_ (by rw[ev,Ag];exact lt64 hn));have g0:(h'.push (seqObj "list" vs.toArray 0)).get? h'.objs.size=some (seqObj "list" vs.toArray 0):=Al _ rfl;have fr:s.heap.get? h'.objs.size=none:=by
   cases e:s.heap.get? h'.objs.size with
   | none=>rfl
   | some u=>exact absurd (Ak (hk _ _ e)) (AY _)
 have I2:Inv X pins σ H { s with drawn:=d,toks:=tk }:=(ziY I d).tok tk;have key:wpAny (model X.prog X.w) X.A.in1.in1 (Builtin.«list.sort» ⟨[.ref h'.objs.size],[]⟩) (fun f s'=>f=.done (.ret .none)/\EP X pins σ Q (.ref h'.objs.size) s') (fun _ _=>False) { s with heap:=h'.push (seqObj "list" vs.toArray 0),drawn:=d,toks:=tk }:=by
   by_cases c:ks'.length < 2
   . refine zlG (s:={ s with drawn:=d,toks:=tk }) I2 rv (by rw[Ag,<-hlk];exact c) (fun b u e=>Ad _ (hk b u e)) fr g0 fun p hp=>h4 p _ hp ?_;have:zeC ks=ks':=by
       rw[<-sk];refine zeB (Cq _) ?_
       cases ks' with
       | nil=>exact .nil
       | cons x r =>
         cases r with
         | nil=>simp
         | cons y r=>simp at c;omega
     rw[this];exact T'
   . refine zlF (s:={ s with drawn:=d,toks:=tk }) I2 rv T' (by omega) (by omega) (fun b u e=>Ad _ (hk b u e)) fr g0 fun q p hq hu hp=>h4 p _ hp ?_;have hm:∀ i∈q.toList,i < ks'.length:=fun i hi=>by
       have:=(Array.perm_iff_toList_perm.mp hq).mem_iff.mp hi;simpa using this
     have tp:=zgx T' hm;rw[zei hq hu,sk] at tp;exact tp
 refine Aa (A0 (AC Fx ⟨_,g0,rfl⟩ Fb (BH key (fun f s' ⟨e,r⟩=>?_) fun _ _ x=>x.elim) (Fy _)));subst e;exact⟨_,rfl,Ab ⟨_,rfl,r⟩⟩
end
noncomputable def zh3(d:D)(s:Sto):Option (D×Sto):=match d with
 | .ref n=>(zca s n).bind fun ds=>(rowsOf ds).bind fun ts=>if decide (ts.length < 63)=true then some (.ref s.length,s++[.lst ((zeC (zix ts)).map tupD)]) else none
 | _=>none
noncomputable def zqz(m:ME):ME:=fun ρ st=>(m ρ st).bind fun (d,s)=>zh3 d s
section
variable {X:Cx} {K:Ae} {H:Hp} {io:List Addr} {st st':Sto} {pos:Pos} {m:ME}
theorem zoR(t:List Int):Reps K H io (t.map V.int) (t.map D.int):=by
 induction t with
 | nil=>rfl
 | cons z t ih=>exact⟨_,_,rfl,rfl,ih⟩
theorem zkM:∀ {ys:List V} {rows:List (List Int)},zcF H ys rows->Reps K H io ys (rows.map tupD)
 | _,_,.nil=>rfl
 | _,_,.cons ⟨a,e1,e2,_⟩ T=>by
   subst e1;exact⟨_,_,rfl,⟨a,_,rfl,e2,zoR _⟩,zkM T⟩
theorem zhV{p:Addr}{o:HO}(hp:H p=none):∀ {ys:List V} {rows:List (List Int)},zcF H ys rows->zcF (upd H p o) ys rows
 | _,_,.nil=>.nil
 | _,_,.cons ⟨a,e1,e2,e3⟩ T=>.cons ⟨a,e1,by rw[zaO (fun z=>by rw[z,hp] at e2;cases e2)];exact e2,e3⟩ (zhV hp T)
theorem znN{o:Expr}{p p2 pos2:Pos}(hc:X.calm=true)(hu:X.A.units+100 < cLine)(hg:Gl X "sorted")(hm:X.mg "sorted"=none)(hg2:Gl X "set")(hm2:X.mg "set"=none)(ho:SE X o m)
   (ho2:starEach [o] X.env=(false,eval o X.env)::starEach [] X.env:=by rfl) (hp2:(backTo pos2 (starEach [] X.env)).any (·.1)=false:=by rfl)
   (he:starEach [Hm (.Name "set" p2) [o] [] pos2] X.env=(false,eval (.Call (.Name "set" p2) [o] [] pos2) X.env)::starEach [] X.env:=by rfl) (hpl:(backTo pos (starEach [] X.env)).any (·.1)=false:=by rfl) :
   SE X (.Call (.Name "sorted" p) [.Call (.Name "set" p2) [o] [] pos2] [] pos) (zqz m) :=
 PE.imp (zeR (zkz hc) hg hm zdK (zdW (zeQ (zjj hc hu) hg2 hm2 zo4 (zdW ho zhq ho2) (by decide) (by decide) ho2 hp2) zhq he) (by decide) (by decide) he hpl) <| by
   rintro σ H Q ⟨ρ,st,io,d,st',E,S,e,k⟩;obtain⟨⟨x,s1⟩,e1,f1⟩:=zag e;clear e;refine⟨ρ,st,io,x,s1,E,S,e1,fun v H1 k1 X1 S1 R1=>?_⟩;unfold zh3 at f1
   cases x with
   | ref n =>
     dsimp only at f1;obtain⟨ds,e2,f2⟩:=zag f1;obtain⟨ts,e3,f3⟩:=zag f2;obtain⟨hl,e⟩:=zav f3;cases e;obtain⟨a,rfl,ha⟩:=R1;obtain⟨xs,hq,r⟩:=zbf S1 ha e2;obtain⟨T,hd⟩:=zih r e3;refine⟨a,xs,ts,hq,T,of_decide_eq_true hl,fun p as ks hp pk T2=>?_⟩;obtain⟨E2,S2⟩:=zej (o:=.ext (SetY X.w p as)) S1 hp;refine⟨p,as,ks,zbv,zhV hp T2,fun l ys hf Ty=>?_⟩;have es:zeC ks=zeC (zix ts):=zeB (pk.trans (BA _ _).symm) (Bw (fun a b c=>zcb a b c) zcw _);rw[es] at Ty;exact ((k.on S1 X1).on S2 E2).lst S2 (zkM Ty) hf
   | _=>cases f1
noncomputable def zoE(m:ME):ME:=fun ρ st=>orO (znh m ρ st) (zqz m ρ st)
theorem znL{o:Expr}{p p2 pos2:Pos}(hc:X.calm=true)(hu:X.A.units+100 < cLine)(hg:Gl X "sorted")(hm:X.mg "sorted"=none)(hg2:Gl X "set")(hm2:X.mg "set"=none)(ho:SE X o m)
   (ho2:starEach [o] X.env=(false,eval o X.env)::starEach [] X.env:=by rfl) (hp2:(backTo pos2 (starEach [] X.env)).any (·.1)=false:=by rfl)
   (he:starEach [Hm (.Name "set" p2) [o] [] pos2] X.env=(false,eval (.Call (.Name "set" p2) [o] [] pos2) X.env)::starEach [] X.env:=by rfl) (hpl:(backTo pos (starEach [] X.env)).any (·.1)=false:=by rfl) :
   SE X (.Call (.Name "sorted" p) [.Call (.Name "set" p2) [o] [] pos2] [] pos) (zoE m):=by
 rintro pins s σ H Q I ⟨ρ,st,io,d,st',E,S,e0,k⟩
 rcases zb7 e0 with e0 | e0
 . exact znM hc hg hm hg2 hm2 ho ho2 hp2 he hpl pins s σ H Q I ⟨ρ,st,io,d,st',E,S,e0,k⟩
 . exact znN hc hu hg hm hg2 hm2 ho ho2 hp2 he hpl pins s σ H Q I ⟨ρ,st,io,d,st',E,S,e0,k⟩
end
section
variable {X:Cx} {K:Ae} {H:Hp} {io:List Addr} {st st':Sto} {mm:MA} {a b c:Expr} {pos:Pos}
noncomputable def zrs(i j l:Nat)(ta:TA):TS:=fun D σ H=>ta σ H fun vs H1=>∃ u v w,vs=[u,v,w]/\D.nx (((σ.set i (some u)).set j (some v)).set l (some w)) H1
theorem zn5{i j l:Nat}{x y z:Str}{ta:TA}{px py pz pt:Pos}{kt k2 pt2}(hc:X.calm=true)(hN:X.N.Nodup)(hi:X.N[i]?=some x)(hj:X.N[j]?=some y)(hl:X.N[l]?=some z)(hij:i≠j)(hil:i≠l)(hjl:j≠l)
   (hx:X.env.scope.names.lookup x=some .local) (hy:X.env.scope.names.lookup y=some .local) (hz:X.env.scope.names.lookup z=some .local) (ha:PA X [a,b,c] ta)
   (hw:swappedStores [.Tuple [.Name x px,.Name y py,.Name z pz] kt pt] (.Tuple [a,b,c] k2 pt2) X.env=pure (some [x,y,z]))
   (hs:swapsWithSole [.Tuple [.Name x px,.Name y py,.Name z pz] kt pt] (.Tuple [a,b,c] k2 pt2) pos.line X.env=pure false:=by rfl) :
   PS X (.Assign [.Tuple [.Name x px,.Name y py,.Name z pz] kt pt] (.Tuple [a,b,c] k2 pt2) pos) (zrs i j l ta):=by
 intro pins s σ H D I h;rw[exec_Assign_arm];refine Aa (Dy ?_);rw[hs];refine Aa (Ab ?_);rw[if_neg (by decide)];refine Aa (Tuple_ (thn (ha _ pins s σ H _ I h) ?_));rintro us s1 ⟨vs,H1,I1,r1,u,v,w,rfl,q1⟩;obtain⟨u1,u2,u3,rfl,ru,rv,rw'⟩:∃ u1 u2 u3,us=[u1,u2,u3]/\RelV u u1/\RelV v u2/\RelV w u3:=by
   cases r1 with
   | cons p q =>
     cases q with
     | cons p' q' =>
       cases q' with
       | cons p'' q'' =>
         cases q'';exact⟨_,_,_,rfl,p,p',p''⟩
 refine Aw ?_ (by show 3<=sizeLine;decide);have I2:Inv X pins σ H1 { s1 with heap:=s1.heap.push { cls:=.type "tuple",data:=.seq [u1,u2,u3].toArray } }:=I1.kept (t':=s1.toks) fun b o e=>Ad _ e;rw[hw];refine Aa (Ab ?_);show wpAny (model X.prog X.w) X.A (do rule "assign.swapped-stores";let items <-unpackItems (.ref s1.heap.objs.size) 3 none;assignInOrder [fun v=>bindName X.env z v,fun v=>bindName X.env y v,fun v=>bindName X.env x v] items.reverse;pure F7) _ _ _;refine Aa (CC (Aa (Gm (items:=#[u1,u2,u3]) (I.ok.hd hc) (IsTup.new s1.heap _) fun h' hx'=>?_)));have I3:=I2.kept (h':=h') (t':=s1.toks) fun b o e=>hx' b o (AB (Ak e)) e;show wpAny _ _ (assignInOrder [fun v=>bindName X.env z v,fun v=>bindName X.env y v,fun v=>bindName X.env x v] [u3,u2,u1] >>= fun _=>pure F7) _ _ _;refine Aa (Cb (Dh (zcX I3 hN hl (.inl hz) rw' (fun s2 I4=>?_) (.inr hz))));refine Cb (Dh (zcX I4 hN hj (.inl hy) rv (fun s3 I5=>?_) (.inr hy)));refine Cb (Dh (zcX I5 hN hi (.inl hx) ru (fun s4 I6=>En (Ab ?_)) (.inr hx)));rw[Ef _ _ (BL hij),Ef _ _ (BL hil),Ef _ _ (BL hjl)] at I6;exact⟨_,H1,I6,q1⟩
noncomputable def zqA(i j l:Nat)(mm:MA):MS:=fun ρ st=>(mm ρ st).bind fun (xs,s)=>match xs with
 | [x,y,z]=>some (.nx (((ρ.set i (some x)).set j (some y)).set l (some z)),s)
 | _=>none
theorem zpc{i j l:Nat}{ρ:Rho}:zqA i j l mm ρ st=(mm ρ st).bind fun p=>match p.1 with
 | [x,y,z]=>some (.nx (((ρ.set i (some x)).set j (some y)).set l (some z)),p.2)
 | _=>none:=rfl
theorem znz{i j l:Nat}{x y z:Str}{px py pz pt:Pos}{kt k2 pt2}(hc:X.calm=true)(hN:X.N.Nodup)(hi:X.N[i]?=some x)(hj:X.N[j]?=some y)(hl:X.N[l]?=some z)(hij:i≠j)(hil:i≠l)(hjl:j≠l)
   (hx:X.env.scope.names.lookup x=some .local) (hy:X.env.scope.names.lookup y=some .local) (hz:X.env.scope.names.lookup z=some .local) (ha:SA X [a,b,c] mm)
   (hw:swappedStores [.Tuple [.Name x px,.Name y py,.Name z pz] kt pt] (.Tuple [a,b,c] k2 pt2) X.env=pure (some [x,y,z]):=by rfl)
   (hs:swapsWithSole [.Tuple [.Name x px,.Name y py,.Name z pz] kt pt] (.Tuple [a,b,c] k2 pt2) pos.line X.env=pure false:=by rfl) :
   SS X (.Assign [.Tuple [.Name x px,.Name y py,.Name z pz] kt pt] (.Tuple [a,b,c] k2 pt2) pos) (zqA i j l mm):=PS.imp (zn5 hc hN hi hj hl hij hil hjl hx hy hz ha hw hs) fun N σ H h=>by
 obtain⟨ρ,st,io,f,st',E,S,e,w⟩:=zc9.mp h;obtain⟨⟨xs,s1⟩,e1,e⟩:=zag e
 match xs,e,e1 with
 | [u,v,t],e,e1 =>
   cases e;refine⟨ρ,st,io,_,_,E,S,e1,fun vs H1 k1 X1 S1 R1=>?_⟩;obtain⟨p,r,rfl,r1,R2⟩:=R1;obtain⟨q,o,rfl,r2,r3⟩:=R2.two;exact⟨p,q,o,rfl,w _ H1 k1 X1 S1 ((((E.ext S X1).set i r1).set j r2).set l r3)⟩
end
end L2.MP
namespace L2.MP.Hb
open PySem L2.MP
end L2.MP.Hb
namespace L2.MP
open PySem
end L2.MP
namespace L2.MP.Hb
open PySem L2.MP
theorem zhP{ds:List D}{st:Sto}:tyName st (.tup ds)=some "tuple":=rfl
theorem ty_str{x:Str}{st:Sto}:tyName st (.str x)=some "str":=rfl
theorem ty_int{i:Int}{st:Sto}:tyName st (.int i)=some "int":=rfl
theorem ne_int(a b:Int)(st:Sto):neD (.int a) (.int b) st=some (.bl (!(a==b)),st):=by
 unfold neD;rw[toP,toP];simp[BM]
end L2.MP.Hb
namespace L2.MP.Hd
open PySem L2.MP
end L2.MP.Hd
namespace L2.MP
open PySem
@[simp] theorem zr5(n:Nat)(ds:List D):rho n ds=ds.map some++Cp (n - ds.length) none:=rfl
@[simp] theorem zrh(ρ:Rho)(n:Nat)(l:List Nat):rho0 ρ n l=Cp n none++l.map fun (j:Nat)=>(ρ[j]?).join:=rfl
@[simp] theorem zr9{a b:Int}{st:Sto}:ltD (.int a) (.int b) st=some (.bl (decide (a < b)),st):=rfl
@[simp] theorem zsa{a b:Int}{st:Sto}:leD (.int a) (.int b) st=some (.bl (decide (a<=b)),st):=rfl
@[simp] theorem zsd{a b:Int}{st:Sto}:gtD (.int a) (.int b) st=some (.bl (decide (b < a)),st):=rfl
@[simp] theorem zse{a b:Int}{st:Sto}:geD (.int a) (.int b) st=some (.bl (decide (b<=a)),st):=rfl
@[simp] theorem zsc{a:Int}{st:Sto}:intC [.int a] st=some (.int a,st):=rfl
@[simp] theorem zsb{b:Bool}{st:Sto}:intC [.bl b] st=some (.int (if b then 1 else 0),st):=rfl
end L2.MP
namespace L2.MP.Hd
open PySem L2.MP
theorem zpS{m:ME}{ρ:Rho}{st:Sto}{k:Nat}(e:m ρ st=some (.int (k:Int),st))(hk:k<=1000):mR1 m ρ st=some (⟨run 0 k,[]⟩,st):=by
 have sm:small (k:Int)=true:=zcy (by omega) (by omega);rw[zbM,e,Ac];simp only[sm,if_true];rw[A7]
theorem zpT{m:ME}{ρ:Rho}{st s1:Sto}{k:Nat}{M:Int}(hM:M=(k:Int))(e:m ρ st=some (.int M,s1))(hk:k<=1000):mR1 m ρ st=some (⟨run 0 k,[]⟩,s1):=by
 have sm:small M=true:=zcy (by omega) (by omega);rw[zbM,e,Ac];simp only[sm,if_true];rw[hM,A7]
theorem run_map(k:Nat):run 0 k=(AX k).map fun (i:Nat)=>D.int (i:Int):=by
 unfold run;apply Cy;intro i _;rw[Int.zero_add]
theorem znW{j k:Nat}{d:D}(h:(run 0 j)[k]?=some d):k < j/\d=.int (k:Int):=by
 have hk:=getElem?_lt h;rw[zcU] at hk;rw[run_map,AA,CZ hk] at h;exact⟨hk,by cases h;rfl⟩
end L2.MP.Hd
namespace L2.MP.Hd
open PySem L2.MP
open L2.MP.Hn (zdk)
end L2.MP.Hd
namespace L2.MP
open PySem
theorem zri{W:Wk}{g:MG}{c:MT}{m:ME}{α:Type}{f h:α->D}{R:Rho->Prop}:∀ {as:List α} {ρ:Rho} {st:Sto},R ρ->(∀ s,Gr st s->walked W s=true)->(∀ a∈as,∀ ρ s,R ρ->Gr st s->∃ ρ1 s1,g (f a) ρ s=some (ρ1,s)/\c ρ1 s=some (true,s)/\m ρ1 s=some (h a,s1)/\Gr s s1/\R ρ1) ->
   ∃ s',mCI W g c m (as.map f) ρ st=some (as.map h,s')/\Gr st s'
 | [],ρ,st,r,wk,_=>⟨st,by unfold mCI;rw[Cs];simp only[wk st (Gr.refl st),if_true,Cs],Gr.refl st⟩
 | a::as,ρ,st,r,wk,hs=>by
   obtain⟨ρ1,s1,e1,e2,e3,g1,r1⟩:=hs a Aj ρ st r (Gr.refl st);obtain⟨s',e,g'⟩:=zri (W:=W) (g:=g) (c:=c) (m:=m) (f:=f) (h:=h) (R:=R) (as:=as) (st:=s1) r1 (fun s q=>wk s (g1.trans q)) fun b hb ρ s q z=>hs b (Ah _ hb) ρ s q (g1.trans z);refine⟨s',?_,g1.trans g'⟩;rw[Ar];unfold mCI;rw[if_pos (wk st (Gr.refl st)),e1];simp only[Ac,e2,if_true,e3,e,Ai,Ar]
noncomputable def itos(i:Int):Str:=A5 (toString i)
theorem ziR{i:Int}(h0:0<=i):(itos i).cps.toList=(Nat.toDigits 10 i.toNat).map Char.toNat:=by
 obtain⟨m,rfl⟩:=Do h0;have:=PyProof.Rows.text_ofNat m;show (A5 (toString (Ho m))).cps.toList=_;rw[this];simp
theorem zmC{i:Int}(h0:0<=i):∀ c∈(itos i).cps.toList,48<=c/\c<=57:=by
 intro c hc;rw[ziR h0] at hc;obtain⟨ch,hch,e⟩:=List.mem_map.mp hc;have r:=EK (Ec (by decide) (by decide) hch);rw[<-e];exact r
end L2.MP
namespace L2.MP.stickytiles_k03_standings_or_not
open PySem L2.MP L2.MP.Hn
noncomputable def zfO:MS:=mRet (ziI (mIsi "int" (mVar 0)) (ziI (zoF (mIsi "bool" (mVar 0))) (zgi leD leD (mVar 1) (mVar 0) (mVar 2))))
noncomputable def zci:GN:=fnM 3 zfO
noncomputable def zfP:MS:=mRet (ziI (mIsi "tuple" (mVar 0)) (mBin eqD (zaG lenD (zab (mVar 0) (mNil))) (mVar 1)))
noncomputable def zcj:GN:=fnM 2 zfP
noncomputable def zdN:ME:=mBin ltB (mVar 0) (mVar 1)
noncomputable def zln:MS:=mRet (zaG allC (zab (ze4 (mZip (mVar 0) (mSlC (mVar 0) (zcm (mCon (.int 1))) (zcn))) 2 [] (gTp 2 (gC (gNm 0) (gC (gNm 1) (gN0)))) (zc6) (zdN)) (mNil)))
noncomputable def zg9:GN:=fnM 1 zln
noncomputable def zfQ:MS:=mSeq (mAsg (mBin ixA (mVar 0) (mCon (.int 1))) (gNm 2)) (mRet (ziI (zaG zcj (zab (mVar 1) (zab (mCon (.int 2)) (mNil)))) (ziI (zaG zci (zab (mBin ixA (mVar 1) (mCon (.int 0))) (zab (mCon (.int 0)) (zab (mBin subD (mBin ixA (mVar 2) (mCon (.int 0))) (mCon (.int 1))) (mNil))))) (zaG zci (zab (mBin ixA (mVar 1) (mCon (.int 1))) (zab (mCon (.int 0)) (zab (mBin subD (mBin ixA (mVar 2) (mCon (.int 1))) (mCon (.int 1))) (mNil))))))))
noncomputable def zdj:GN:=fnM 3 zfQ
noncomputable def zha:MS:=mSeq (mAsg (mBin ixA (mBin ixA (mVar 0) (mCon (.int 0))) (mCon (.int 2))) (gNm 2)) (mRet (ziI (zaG zcj (zab (mVar 1) (zab (mCon (.int 3)) (mNil)))) (ziI (zaG zdj (zab (mVar 0) (zab (mSlC (mVar 1) (zcn) (zcm (mCon (.int 2)))) (mNil)))) (zaG zci (zab (mBin ixA (mVar 1) (mCon (.int 2))) (zab (mCon (.int 0)) (zab (mBin subD (zaG lenD (zab (mVar 2) (mNil))) (mCon (.int 1))) (mNil))))))))
noncomputable def zdM:GN:=fnM 3 zha
noncomputable def zcu:ME:=zaG zdM (zab (mVar 1) (zab (mVar 0) (mNil)))
noncomputable def zbQ:ME:=mSlC (mVar 0) (zcn) (zcm (mCon (.int 2)))
noncomputable def zcr:MS:=mSeq (mIf (mOrT (zgR (mTst (mIsi "tuple" (mVar 1)))) (zgR (mTst (zaG allC (zab (ze4 (mWA (mVar 1)) 1 [0] (gNm 0) (zc6) (zcu)) (mNil)))))) (mRet (mCon (.bl false))) (zcG)) (mRet (zaG zg9 (zab (ze4 (mWA (mVar 1)) 1 [] (gNm 0) (zc6) (zbQ)) (mNil))))
noncomputable def zbS:GN:=fnM 2 zcr
noncomputable def zdt:MS:=mSeq (mAsg (mLst (zab (mCon .non) (zab (mCon (.bl true)) (zab (mCon (.bl false)) (zab (mCon (.int 0)) (zab (mCon (.int 1)) (zab (mNeg (mCon (.int 1))) (zab (mCon (.int 4)) (zab (mCon (.int 5)) (zab (mCon (.int 12)) (zab (mCon (.int 13)) (zab (mBin powB (mCon (.int 10)) (mCon (.int 30))) (zab (mCon (.str "")) (zab (mCon (.str "a")) (zab (mCon (.str "A")) (zab (mCon (.str "-")) (zab (mCon (.str "z9")) (zab (mCon (.str "ab cd")) (zab (mBin mulA (mCon (.str "a")) (mCon (.int 9))) (zab (mCon (.str "0")) (zab (mCon (.str "\n")) (mNil)))))))))))))))))))))) (gNm 1)) (mSeq (mAsg (mBin addD (mVar 1) (mLst (zab (mCon (.str "{")) (zab (mCon (.str "`")) (zab (mCon (.str "/")) (zab (mCon (.str ":")) (zab (mTup (mNil)) (zab (mLst (mNil)) (zab (zhJ false) (zab (mTup (zab (mCon (.int 0)) (mNil))) (zab (mTup (zab (mCon (.int 1)) (zab (mCon (.int 1)) (mNil)))) (zab (mLst (zab (mCon (.str "a")) (zab (mCon (.int 1)) (mNil)))) (zab (mTup (zab (mCon (.str "a")) (zab (mCon (.int 1)) (mNil)))) (zab (mTup (zab (mCon (.str "")) (zab (mCon (.str "")) (zab (mCon (.str "")) (zab (mCon (.str "")) (zab (mCon (.str "")) (mNil))))))) (zab (mTup (zab (mTup (mNil)) (mNil))) (mNil)))))))))))))))) (gNm 1)) (mRet (zaG zaq (zab (mVar 0) (zab (mVar 1) (mNil))))))
noncomputable def zce:GN:=fnM 2 zdt
noncomputable def zar:MS:=mSeq (mIf (zfw (mTst (mIsi "tuple" (mVar 1))) (mTst (mBin gtD (zaG zad (zab (mVar 0) (zab (mCon (.int 4)) (mNil)))) (mCon (.int 0))))) (mSeq (mAsg (mLst (zab (zaG zmv (zab (mVar 1) (mNil))) (zab (mSlC (mVar 1) (zcn) (zcm (mNeg (mCon (.int 1))))) (zab (mSlC (mVar 1) (zcm (mCon (.int 1))) (zcn)) (zab (mBin addE (mVar 1) (mSlC (mVar 1) (zcm (mNeg (mCon (.int 1)))) (zcn))) (zab (ze2 (mVar 1) (mNeg (mCon (.int 1)))) (zab (mBin addE (mVar 1) (mTup (zab (mCon .non) (mNil)))) (zab (mTup (zab (mVar 1) (mNil))) (mNil))))))))) (gNm 2)) (mRet (zaG zaq (zab (mVar 0) (zab (mVar 2) (mNil)))))) (zcG)) (mSeq (mIf (mOrT (mTst (mIsi "bool" (mVar 1))) (mTst (mBin isBD (mVar 1) (mCon .non)))) (mRet (zaG zce (zab (mVar 0) (mNil)))) (zcG)) (mSeq (mIf (zfw (mTst (mIsi "int" (mVar 1))) (mTst (mBin gtD (zaG zad (zab (mVar 0) (zab (mCon (.int 4)) (mNil)))) (mCon (.int 0))))) (mRet (zaG zaq (zab (mVar 0) (zab (mLst (zab (mBin addD (mVar 1) (mCon (.int 1))) (zab (mBin subD (mVar 1) (mCon (.int 1))) (zab (mNeg (mVar 1)) (zab (zaG strC (zab (mVar 1) (mNil))) (zab (mBin eqD (mVar 1) (mCon (.int 1))) (zab (mBin addD (mVar 1) (mCon (.int 12))) (zab (mLst (zab (mVar 1) (mNil))) (zab (mBin addD (mVar 1) (mCon (.int 4))) (mNil)))))))))) (mNil))))) (zcG)) (mSeq (mIf (zfw (mTst (mIsi "str" (mVar 1))) (mTst (mBin gtD (zaG zad (zab (mVar 0) (zab (mCon (.int 4)) (mNil)))) (mCon (.int 0))))) (mSeq (mAsg (mLst (zab (mBin addD (mVar 1) (mCon (.str "a"))) (zab (mSlC (mVar 1) (zcn) (zcm (mNeg (mCon (.int 1))))) (zab (mUp (mVar 1)) (zab (mBin addD (mVar 1) (mCon (.str " "))) (zab (mBin addD (mVar 1) (mCon (.str "bcdefgh"))) (zab (mLst (zab (mVar 1) (mNil))) (zab (mTup (zab (mVar 1) (mNil))) (zab (ze2 (mVar 1) (mNeg (mCon (.int 1)))) (mNil)))))))))) (gNm 2)) (mRet (zaG zaq (zab (mVar 0) (zab (mVar 2) (mNil)))))) (zcG)) (mRet (zaG zce (zab (mVar 0) (mNil)))))))
noncomputable def zbh:GN:=fnM 3 zar
noncomputable def zal(g:GN):MS:=mSeq (mIf (mOrT (mTst (mBin eqD (mVar 2) (mCon (.int 0)))) (mOrT (zgR (mTst (mIsi "tuple" (mVar 1)))) (mOrT (mTst (mBin eqZ (mVar 1) (mTup (mNil)))) (mTst (mBin eqD (zaG zad (zab (mVar 0) (zab (mCon (.int 5)) (mNil)))) (mCon (.int 0))))))) (mRet (zaG zbh (zab (mVar 0) (zab (mVar 1) (mNil))))) (zcG)) (mSeq (mAsg (zaG zad (zab (mVar 0) (zab (zaG lenD (zab (mVar 1) (mNil))) (mNil)))) (gNm 3)) (mRet (mBin addD (mBin addE (mSlC (mVar 1) (zcn) (zcm (mVar 3))) (mTup (zab (zaG g (zab (mVar 0) (zab (mBin ixA (mVar 1) (mVar 3)) (zab (mBin subD (mVar 2) (mCon (.int 1))) (mNil))))) (mNil)))) (mSlC (mVar 1) (zcm (mBin addD (mVar 3) (mCon (.int 1)))) (zcn)))))
noncomputable def zbb:GN:=recG 4 zal 12
noncomputable def zfL:MS:=mRet (ziI (mIsi "int" (mVar 0)) (ziI (zoF (mIsi "bool" (mVar 0))) (zgi leD leD (mVar 1) (mVar 0) (mVar 2))))
noncomputable def zba:GN:=fnM 3 zfL
noncomputable def zbd:MS:=mSeq (mIf (mOrT (zgR (mTst (mIsi "tuple" (mVar 3)))) (mOrT (mTst (mBin neD (zaG lenD (zab (mVar 3) (mNil))) (mCon (.int 3)))) (zgR (mTst (zaG zba (zab (mBin ixA (mVar 3) (mCon (.int 0))) (zab (mCon (.int 0)) (zab (mBin subD (mBin ixA (mVar 1) (mCon (.int 0))) (mCon (.int 1))) (mNil))))))))) (mRet (mCon (.bl false))) (zcG)) (mIf (mOrT (zgR (mTst (zaG zba (zab (mBin ixA (mVar 3) (mCon (.int 1))) (zab (mCon (.int 0)) (zab (mBin subD (mBin ixA (mVar 1) (mCon (.int 1))) (mCon (.int 1))) (mNil))))))) (zgR (mTst (zaG zba (zab (mBin ixA (mVar 3) (mCon (.int 2))) (zab (mCon (.int 0)) (zab (mBin subD (zaG lenD (zab (mBin ixA (mVar 0) (mCon (.int 2))) (mNil))) (mCon (.int 1))) (mNil)))))))) (mRet (mCon (.bl false))) (zcG))
noncomputable def zbr:ME:=mTup (zab (mVar 0) (zab (mVar 1) (mNil)))
noncomputable def zbk:MS:=mSeq (mIf (zgR (mTst (mIsi "tuple" (mVar 2)))) (mRet (mCon (.bl false))) (zcG)) (mSeq (mFor (mWA (mVar 2)) (gNm 3) (zbd)) (mSeq (mAsg (ze4 (mWA (mVar 2)) 3 [] (gTp 3 (gC (gNm 0) (gC (gNm 1) (gC (gNm 2) (gN0))))) (zc6) (zbr)) (gNm 4)) (mRet (mBin eqD (mVar 4) (zoE (mVar 4))))))
noncomputable def zbc:GN:=fnM 5 zbk
noncomputable def zfJ:MS:=mSeq (mAsg (zaG zbb (zab (mVar 2) (zab (mBin addE (mVar 6) (mSlC (mVar 10) (zcn) (zcm (mCon (.int 1))))) (zab (mBin addD (mCon (.int 1)) (zaG zad (zab (mVar 2) (zab (mCon (.int 3)) (mNil))))) (mNil))))) (gNm 13)) (mSeq (mIf (mTst (mBin eqD (zaG zad (zab (mVar 2) (zab (mCon (.int 4)) (mNil)))) (mCon (.int 0)))) (mAsg (zaG zbb (zab (mVar 2) (zab (mVar 13) (zab (mBin addD (mCon (.int 1)) (zaG zad (zab (mVar 2) (zab (mCon (.int 3)) (mNil))))) (mNil))))) (gNm 13)) (zcG)) (mExp (mApp (mVar 11) (zab (mVar 13) (mNil)))))
noncomputable def zg8:MS:=mSeq (mAsg (zaG zbS (zab (mVar 3) (zab (mVar 14) (mNil)))) (gNm 15)) (mIf (mOrT (zgR (mTst (mIsi "bool" (mVar 15)))) (mTst (mBin neD (mVar 15) (zaG zbc (zab (mVar 4) (zab (mVar 5) (zab (mVar 14) (mNil)))))))) (mRet (mCon (.bl false))) (zcG))
noncomputable def zg7:MS:=mSeq (mAsg (zaG zcP (zab (mVar 0) (zab (mVar 1) (mNil)))) (gNm 2)) (mSeq (mAsg (zaG zcQ (zab (mVar 2) (zab (mCon (.int 6)) (mNil)))) (gNm 3)) (mSeq (mPar 4 5 (zab (mBin ixA (mVar 3) (mCon (.int 0))) (zab (mBin ixA (mVar 3) (mCon (.int 1))) (mNil)))) (mSeq (mAsg (zaG za6 (zab (mVar 2) (zab (mVar 4) (zab (mVar 5) (zab (mCon (.int 6)) (mNil)))))) (gNm 6)) (mSeq (zqA 7 8 9 (zab (zaG zad (zab (mVar 2) (zab (mBin ixA (mVar 5) (mCon (.int 0))) (mNil)))) (zab (zaG zad (zab (mVar 2) (zab (mBin ixA (mVar 5) (mCon (.int 1))) (mNil)))) (zab (zaG lenD (zab (mBin ixA (mVar 4) (mCon (.int 2))) (mNil))) (mNil))))) (mSeq (mAsg (mTup (zab (mTup (zab (mVar 7) (zab (mVar 8) (zab (mCon (.int 0)) (mNil))))) (zab (mTup (zab (mVar 7) (zab (mVar 8) (zab (mBin subD (mVar 9) (mCon (.int 1))) (mNil))))) (mNil)))) (gNm 10)) (mSeq (mAsg (mLst (zab (mVar 6) (zab (ze2 (mVar 6) (mNeg (mCon (.int 1)))) (zab (mBin addE (mVar 6) (mVar 6)) (zab (mVar 10) (zab (mSlC (mVar 10) (zcn) (zcm (mCon (.int 1)))) (zab (mTup (zab (mTup (zab (mBin ixA (mVar 5) (mCon (.int 0))) (zab (mVar 8) (zab (mCon (.int 0)) (mNil))))) (mNil))) (zab (mTup (zab (mTup (zab (mVar 7) (zab (mBin ixA (mVar 5) (mCon (.int 1))) (zab (mCon (.int 0)) (mNil))))) (mNil))) (mNil))))))))) (gNm 11)) (mSeq (mAsg (mBin addD (mVar 11) (mLst (zab (mTup (zab (mTup (zab (mVar 7) (zab (mVar 8) (zab (mVar 9) (mNil))))) (mNil))) (zab (mTup (zab (mTup (zab (mNeg (mCon (.int 1))) (zab (mVar 8) (zab (mCon (.int 0)) (mNil))))) (mNil))) (zab (mTup (zab (mTup (zab (mVar 7) (zab (mNeg (mCon (.int 1))) (zab (mCon (.int 0)) (mNil))))) (mNil))) (zab (mTup (zab (mTup (zab (mVar 7) (zab (mVar 8) (zab (mNeg (mCon (.int 1))) (mNil))))) (mNil))) (zab (mTup (zab (mTup (zab (mVar 7) (zab (mVar 8) (zab (mCon (.bl true)) (mNil))))) (mNil))) (zab (mTup (zab (mTup (zab (mVar 7) (zab (mVar 8) (mNil)))) (mNil))) (mNil))))))))) (gNm 11)) (mSeq (mAsg (mBin addD (mVar 11) (mLst (zab (mTup (zab (mTup (zab (mVar 7) (zab (mVar 8) (zab (mCon (.int 0)) (zab (mCon (.int 0)) (mNil)))))) (mNil))) (zab (mLst (zab (mTup (zab (mVar 7) (zab (mVar 8) (zab (mCon (.int 0)) (mNil))))) (mNil))) (zab (mTup (zab (mLst (zab (mVar 7) (zab (mVar 8) (zab (mCon (.int 0)) (mNil))))) (mNil))) (zab (mCon .non) (zab (mTup (mNil)) (zab (mCon (.str "standing")) (zab (zhJ false) (zab (mTup (zab (mCon .non) (mNil))) (zab (mVar 3) (mNil)))))))))))) (gNm 11)) (mSeq (mFor (mR1 (mCon (.int 14))) (gNm 12) (zfJ)) (mFor (mWA (mVar 11)) (gNm 14) (zg8)))))))))))
noncomputable def zrj:MS:=mSeq (mFor (mR1 (zaG zoD (zab (mCon (.int 1)) (zab (zaG zoB (zab (zaG lenD (zab (mVar 0) (mNil))) (zab (mCon (.int 12)) (mNil)))) (mNil))))) (gNm 1) (zg7)) (mRet (mCon (.bl true)))
noncomputable def zne:GN:=fnM 16 zrj
end L2.MP.stickytiles_k03_standings_or_not
namespace L2.MP.stickytiles_k03_standings_or_not
open PySem L2 L2.MP L2.MP.Hn PySem.Spec PyProof.Rows
noncomputable def top(i:Nat):Stmt:=PySem.Challenge.pw_stickytiles_k03_standings_or_not.main.body.getD i (.Pass ⟨0,0,0,0⟩)
section
variable {P:Program} {w:World} {K:Ae} {mg:Str->Option Value} {base:Heap}
theorem nd_0:(["one","other"]:List Str).Nodup:=by decide +kernel
theorem nd_1:(["bed","thing","floor"]:List Str).Nodup:=by decide +kernel
theorem nd_2:(["bed","thing","kinds"]:List Str).Nodup:=by decide +kernel
theorem nd_3:(["part","bed"]:List Str).Nodup:=by decide +kernel
theorem nd_4:(["tile"]:List Str).Nodup:=by decide +kernel
theorem nd_5:(["_law_script","_law_k","_law_cell","_law_number","_law_part","_law_mixed"]:List Str).Nodup:=by decide +kernel
theorem nd_6:(["_law_pot_here","_law_many","_law_digit"]:List Str).Nodup:=by decide +kernel
theorem nd_7:(["_law_pot_here","_law_many","_law_letters","_law_found","_law_turn","_law_way","_law_name"]:List Str).Nodup:=by decide +kernel
theorem nd_8:(["_law_k","_law_letters","_law_pot_here"]:List Str).Nodup:=by decide +kernel
theorem nd_9:(["_law_pot_here","_law_most","_law_names_here","_law_sticks","_law_signs","_law_sides","_law_kinds","_law_k","_law_face","_law_kind"]:List Str).Nodup:=by decide +kernel
theorem zrW:(["_law_name","_law_pot_here"]:List Str).Nodup:=by decide +kernel
theorem zrV:(["_law_side","_law_pot_here","_law_sides"]:List Str).Nodup:=by decide +kernel
theorem zrU:(["_law_pot_here","_law_most"]:List Str).Nodup:=by decide +kernel
theorem zrc:(["_law_pot_here","_law_house_here","_law_floor_here","_law_most","_law_there","_law_k"]:List Str).Nodup:=by decide +kernel
theorem zrb:(["_law_place","_law_kind"]:List Str).Nodup:=by decide +kernel
theorem zrT:(["_law_pot_here","_law_most","_law_house_here","_law_floor_here"]:List Str).Nodup:=by decide +kernel
theorem zra:(["_law_pot_here","_law_some"]:List Str).Nodup:=by decide +kernel
theorem zq9:(["_law_pot_here","_law_thing","_law_some"]:List Str).Nodup:=by decide +kernel
theorem zrS:(["_law_pot_here","_law_thing","_law_deep","_law_at"]:List Str).Nodup:=by decide +kernel
theorem zq8:(["_law_house_here","_law_floor_here","_law_thing","_law_tile","_law_places"]:List Str).Nodup:=by decide +kernel
theorem zqy:(["_law_x","_law_y","_law_kind"]:List Str).Nodup:=by decide +kernel
theorem zgg:(["_law_script","_law_k","_law_pot_here","_law_bed_here","_law_house_here","_law_floor_here","_law_right","_law_x","_law_y","_law_many","_law_some","_law_things","_law_turn","_law_bent","_law_thing","_law_found"]:List Str).Nodup:=by decide +kernel
theorem zhj:FnScope ["thing","least","most"] ["thing","least","most"] (zaA (top 1)):=⟨rfl,rfl,rfl,by decide +kernel,rfl,by decide +kernel,by decide +kernel⟩
theorem zht(L:Laid K mg "is_whole" (top 1) ["thing","least","most"])(b_isinstance:mg "isinstance"=none)(b_int:mg "int"=none)(b_bool:mg "bool"=none):zbF P w K mg base 1 "is_whole" 3 zci :=
 zcC (k:=0) L zhj fun f cdv A outer s H E hr=>JSs.out (zaI (JS.mk (zbw (zeF (zdb (T:="int") (x:="isinstance") (by decide) rfl b_isinstance (zac 0) rfl b_int zhG) (zeF (znR (zdb (T:="bool") (x:="isinstance") (by decide) rfl b_isinstance (zac 0) rfl b_bool zg0)) (zfk (zif zj9 zj9 (zac 1) (zac 0) (zac 2))))))))
theorem zhk:FnScope ["thing","size"] ["thing","size"] (zaA (top 2)):=⟨rfl,rfl,rfl,by decide +kernel,rfl,by decide +kernel,by decide +kernel⟩
theorem zhu(L:Laid K mg "is_tuple" (top 2) ["thing","size"])(b_isinstance:mg "isinstance"=none)(b_tuple:mg "tuple"=none)(b_len:mg "len"=none):zbF P w K mg base 1 "is_tuple" 2 zcj :=
 zcC (k:=0) L zhk fun f cdv A outer s H E hr=>JSs.out (zaI (JS.mk (zbw (zeF (zdb (T:="tuple") (x:="isinstance") (by decide) rfl b_isinstance (zac 0) rfl b_tuple zct) (zfk (zf2 (zea (zbG hr)) (zbj zbC rfl b_len zd5 (zaa (zac 0) (zah))) (zac 1) rfl))))))
theorem zlU:FnScope ["parts"] ["parts"] (zaA (top 3)):=⟨rfl,rfl,rfl,by decide +kernel,rfl,by decide +kernel,by decide +kernel⟩
theorem zmi(L:Laid K mg "rises" (top 3) ["parts"])(b_zip:mg "zip"=none)(b_all:mg "all"=none):zbF P w K mg base 1 "rises" 1 zg9 :=
 zcC (k:=0) L zlU fun f cdv A outer s H E hr=>JSs.out (zaI (JS.mk (zbw (zbj (zgZ rfl) rfl b_all zo6 (zaa (zdT rfl rfl (zcK (N':=["one","other"]) (nt:=2) (fr:=[]) [] rfl (by decide +kernel) (by decide +kernel) (by decide +kernel) rfl trivial trivial) (zpG rfl b_zip (zac 0) (zbA (zac 0) (zck (zaf)) (zcl))) (fun C s0 H0 fp=>zlQ rfl (zcZ (zbz (i:=0) nd_0 rfl (by first | exact AI rfl | exact AG rfl)) (zcZ (zbz (i:=1) nd_0 rfl (by first | exact AI rfl | exact AG rfl)) (zia)))) (fun C s0 H0 fp=>zfm) (fun C s0 H0 fp=>zf2 (zqp (zbG hr)) (zac 0) (zac 1) rfl)) (zah))))))
theorem zhl:FnScope ["bed","thing","floor"] ["bed","thing"] (zaA (top 4)):=⟨rfl,rfl,rfl,by decide +kernel,rfl,by decide +kernel,by decide +kernel⟩
theorem zhv(L:Laid K mg "is_place" (top 4) ["bed","thing"])(h_is_tuple:zbF P w K mg base 1 "is_tuple" 2 zcj)(h_is_whole:zbF P w K mg base 1 "is_whole" 3 zci):zbF P w K mg base 2 "is_place" 2 zdj :=
 zcC (k:=1) L zhl fun f cdv A outer s H E hr=>JSs.out (zak (JS.mk (zbe (i:=2) nd_1 rfl (by first | exact AI rfl | exact AG rfl) (zbm (zcE hr) (zac 0) (zaf)))) (zaI (JS.mk (zbw (zeF (zai h_is_tuple (hr.mono (by decide)) rfl (zaa (zac 1) (zaa (zaf) (zah))) (zap.cons (zap.cons zap.nil))) (zeF (zai h_is_whole (hr.mono (by decide)) rfl (zaa (zbm (zcE hr) (zac 1) (zaf)) (zaa (zaf) (zaa (zaJ zdc (zbm (zcE hr) (zac 2) (zaf)) (zaf)) (zah)))) (zap.cons (zap.cons (zap.cons zap.nil)))) (zfk (zai h_is_whole (hr.mono (by decide)) rfl (zaa (zbm (zcE hr) (zac 1) (zaf)) (zaa (zaf) (zaa (zaJ zdc (zbm (zcE hr) (zac 2) (zaf)) (zaf)) (zah)))) (zap.cons (zap.cons (zap.cons zap.nil)))))))))))
theorem zig:FnScope ["bed","thing","kinds"] ["bed","thing"] (zaA (top 5)):=⟨rfl,rfl,rfl,by decide +kernel,rfl,by decide +kernel,by decide +kernel⟩
theorem ziz(L:Laid K mg "is_tile" (top 5) ["bed","thing"])(b_len:mg "len"=none)(h_is_tuple:zbF P w K mg base 1 "is_tuple" 2 zcj)(h_is_place:zbF P w K mg base 2 "is_place" 2 zdj)(h_is_whole:zbF P w K mg base 1 "is_whole" 3 zci):zbF P w K mg base 3 "is_tile" 2 zdM :=
 zcC (k:=2) L zig fun f cdv A outer s H E hr=>JSs.out (zak (JS.mk (zbe (i:=2) nd_2 rfl (by first | exact AI rfl | exact AG rfl) (zbm (zcE hr) (zbm (zcE hr) (zac 0) (zaf)) (zaf)))) (zaI (JS.mk (zbw (zeF (zai h_is_tuple (hr.mono (by decide)) rfl (zaa (zac 1) (zaa (zaf) (zah))) (zap.cons (zap.cons zap.nil))) (zeF (zai h_is_place (hr.mono (by decide)) rfl (zaa (zac 0) (zaa (zbA (zac 1) (zcl) (zck (zaf))) (zah))) (zap.cons (zap.cons zap.nil))) (zfk (zai h_is_whole (hr.mono (by decide)) rfl (zaa (zbm (zcE hr) (zac 1) (zaf)) (zaa (zaf) (zaa (zaJ zdc (zbj zbC rfl b_len zd5 (zaa (zac 2) (zah))) (zaf)) (zah)))) (zap.cons (zap.cons (zap.cons zap.nil)))))))))))
theorem zeK:FnScope ["bed","thing"] ["bed","thing"] (zaA (top 6)):=⟨rfl,rfl,rfl,by decide +kernel,rfl,by decide +kernel,by decide +kernel⟩
theorem zeY(L:Laid K mg "is_standing" (top 6) ["bed","thing"])(b_isinstance:mg "isinstance"=none)(b_tuple:mg "tuple"=none)(b_all:mg "all"=none)(h_is_tile:zbF P w K mg base 3 "is_tile" 2 zdM)(h_rises:zbF P w K mg base 1 "rises" 1 zg9):zbF P w K mg base 4 "is_standing" 2 zbS :=
 zcC (k:=3) L zeK fun f cdv A outer s H E hr=>JSs.out (zak (zfy (SW.sb (zjC (zeL (zhm (zdb (T:="tuple") (x:="isinstance") (by decide) rfl b_isinstance (zac 1) rfl b_tuple zct))) (zhb (zeL (zhm (zbj (zgZ rfl) rfl b_all zo6 (zaa (zdT rfl rfl (zcK (N':=["part","bed"]) (nt:=1) (fr:=[0]) ["bed"] rfl (by decide +kernel) (by decide +kernel) (by decide +kernel) rfl ⟨⟨rfl,by decide⟩,trivial⟩ ⟨by first | exact AI rfl | exact AG rfl,trivial⟩) (zdS (zac 1)) (fun C s0 H0 fp=>zbz (i:=0) nd_3 rfl (by first | exact AI rfl | exact AG rfl)) (fun C s0 H0 fp=>zfm) (fun C s0 H0 fp=>zai h_is_tile (hr.mono (by decide)) rfl (zaa (zac 1) (zaa (zac 0) (zah))) (zap.cons (zap.cons zap.nil)))) (zah)))))))) (zaI (JS.mk (zbw (zjT)))) (zbR)) (zaI (JS.mk (zbw (zai h_rises (hr.mono (by decide)) rfl (zaa (zdT rfl rfl (zcK (N':=["tile"]) (nt:=1) (fr:=[]) [] rfl (by decide +kernel) (by decide +kernel) (by decide +kernel) rfl trivial trivial) (zdS (zac 1)) (fun C s0 H0 fp=>zbz (i:=0) nd_4 rfl (by first | exact AI rfl | exact AG rfl)) (fun C s0 H0 fp=>zfm) (fun C s0 H0 fp=>zbA (zac 0) (zcl) (zck (zaf)))) (zah)) (zap.cons zap.nil))))))
theorem zf3:FnScope ["_law_script","_law_k","_law_cell","_law_number","_law_part","_law_mixed"] ["_law_script","_law_k"] (zaA (top 8)):=⟨rfl,rfl,rfl,by decide +kernel,rfl,by decide +kernel,by decide +kernel⟩
theorem zgb(L:Laid K mg "_law_pot" (top 8) ["_law_script","_law_k"])(b_len:mg "len"=none)(b_abs:mg "abs"=none)(b_int:mg "int"=none):zbF P w K mg base 1 "_law_pot" 2 zcP :=
 zcC (k:=0) L zf3 fun f cdv A outer s H E hr=>JSs.out (zak (JS.mk (zbe (i:=2) nd_5 rfl (by first | exact AI rfl | exact AG rfl) (zaf))) (zak (zfy (zcv zj8 (zac 1) (zbj zbC rfl b_len zd5 (zaa (zac 0) (zah))) rfl) (zaI (JS.mk (zbe (i:=2) nd_5 rfl (by first | exact AI rfl | exact AG rfl) (zbm (zcE hr) (zac 0) (zac 1))))) (zbR)) (zak (JS.mk (zbe (i:=3) nd_5 rfl (by first | exact AI rfl | exact AG rfl) (zaJ za7 (zaJ zcV (zaf) (zaJ zfq (zbj zkG rfl b_abs zqY (zaa (zac 2) (zah))) (zaJ zgL (zaJ zgL (zaf) (zaf)) (zaf)))) (zcc zfa rfl b_int zhG (zaa (zf2 zj8 (zac 2) (zaf) rfl) (zah)))))) (zak (JS.mk (zbe (i:=4) nd_5 rfl (by first | exact AI rfl | exact AG rfl) (zaJ zfq (zac 3) (zaf)))) (zak (JS.mk (zbe (i:=5) nd_5 rfl (by first | exact AI rfl | exact AG rfl) (zaJ zfq (zaJ za7 (zaJ za7 (zaJ zcV (zac 4) (zaf)) (zaJ zcV (zaf) (zac 1))) (zaf)) (zaf)))) (zaI (JS.mk (zbw (zbJ (zaa (zaJ zcV (zac 3) (zcc zfa rfl b_int zhG (zaa (zf2 zqr (zac 3) (zaJ zcV (zaf) (zaJ zgL (zaf) (zaf))) rfl) (zah)))) (zaa (zac 5) (zah))))))))))))
theorem zfl:FnScope ["_law_pot_here","_law_many","_law_digit"] ["_law_pot_here","_law_many"] (zaA (top 9)):=⟨rfl,rfl,rfl,by decide +kernel,rfl,by decide +kernel,by decide +kernel⟩
theorem zfu(L:Laid K mg "_law_next" (top 9) ["_law_pot_here","_law_many"]):zbF P w K mg base 1 "_law_next" 2 zad :=
 zcC (k:=0) L zfl fun f cdv A outer s H E hr=>JSs.out (zak (zfy (zcv ziv (zbm (zcE hr) (zac 0) (zaf)) (zaf) rfl) (zak (JS.mk (zbe (i:=2) nd_6 rfl (by first | exact AI rfl | exact AG rfl) (zaJ zfq (zbm (zcE hr) (zac 0) (zaf)) (zac 1)))) (zak (JS.mk (zlC (zcE hr) (zac 0) (zaf) (zaJ zga (zbm (zcE hr) (zac 0) (zaf)) (zac 1)))) (zaI (JS.mk (zbw (zac 2)))))) (zbR)) (zak (JS.mk (zlC (zcE hr) (zac 0) (zaf) (zaJ zfq (zaJ za7 (zaJ zcV (zbm (zcE hr) (zac 0) (zaf)) (zaf)) (zaf)) (zaf)))) (zaI (JS.mk (zbw (zaJ zga (zaJ zcV (zaJ zga (zbm (zcE hr) (zac 0) (zaf)) (zaf)) (zac 1)) (zaf)))))))
theorem zhi:FnScope ["_law_pot_here","_law_some"] ["_law_pot_here","_law_some"] (zaA (top 10)):=⟨rfl,rfl,rfl,by decide +kernel,rfl,by decide +kernel,by decide +kernel⟩
theorem zhs(L:Laid K mg "_law_of" (top 10) ["_law_pot_here","_law_some"])(b_len:mg "len"=none)(h_q_law_next:zbF P w K mg base 1 "_law_next" 2 zad):zbF P w K mg base 2 "_law_of" 2 zaq :=
 zcC (k:=1) L zhi fun f cdv A outer s H E hr=>JSs.out (zaI (JS.mk (zbw (zbm (zcE hr) (zac 1) (zai h_q_law_next (hr.mono (by decide)) rfl (zaa (zac 0) (zaa (zbj zbC rfl b_len zd5 (zaa (zac 1) (zah))) (zah))) (zap.cons (zap.cons zap.nil)))))))
theorem zeH:FnScope ["_law_pot_here","_law_many","_law_letters","_law_found","_law_turn","_law_way","_law_name"] ["_law_pot_here","_law_many"] (zaA (top 11)):=⟨rfl,rfl,rfl,by decide +kernel,rfl,by decide +kernel,by decide +kernel⟩
theorem zeV(L:Laid K mg "_law_names" (top 11) ["_law_pot_here","_law_many"])(b_range:mg "range"=none)(b_len:mg "len"=none)(h_q_law_next:zbF P w K mg base 1 "_law_next" 2 zad)(h_q_law_of:zbF P w K mg base 2 "_law_of" 2 zaq):zbF P w K mg base 3 "_law_names" 2 zco :=
 zcC (k:=2) L zeH fun f cdv A outer s H E hr=>JSs.out (zak (JS.mk (zbe (i:=2) nd_7 rfl (by first | exact AI rfl | exact AG rfl) (zbD))) (zak (JS.mk (zbe (i:=3) nd_7 rfl (by first | exact AI rfl | exact AG rfl) (zbJ (zah)))) (zak (zgm Ci rfl (zcz rfl b_range (zaJ zcV (zaf) (zac 1))) (zbz (i:=4) nd_7 rfl (by first | exact AI rfl | exact AG rfl)) (zak (JS.mk (zbe (i:=5) nd_7 rfl (by first | exact AI rfl | exact AG rfl) (zai h_q_law_next (hr.mono (by decide)) rfl (zaa (zac 0) (zaa (zaf) (zah))) (zap.cons (zap.cons zap.nil))))) (zak (JS.mk (zbe (i:=6) nd_7 rfl (by first | exact AI rfl | exact AG rfl) (znS (zbD) (zaa (zdT rfl rfl (zcK (N':=["_law_k","_law_letters","_law_pot_here"]) (nt:=1) (fr:=[2,0]) ["_law_letters","_law_pot_here"] rfl (by decide +kernel) (by decide +kernel) (by decide +kernel) rfl ⟨⟨rfl,by decide⟩,⟨⟨rfl,by decide⟩,trivial⟩⟩ ⟨by first | exact AI rfl | exact AG rfl,⟨by first | exact AI rfl | exact AG rfl,trivial⟩⟩) (zcz rfl b_range (zai h_q_law_of (hr.mono (by decide)) rfl (zaa (zac 0) (zaa (zbJ (JA.out (zae (zaf) (zae (zaf) (zae (zaf) (zae (zaf) (zae (zaf) (zcI)))))))) (zah))) (zap.cons (zap.cons zap.nil)))) (fun C s0 H0 fp=>zbz (i:=0) nd_8 rfl (by first | exact AI rfl | exact AG rfl)) (fun C s0 H0 fp=>zfm) (fun C s0 H0 fp=>zbm (zcE hr) (zac 1) (zai h_q_law_next (hr.mono (by decide)) rfl (zaa (zac 2) (zaa (zaf) (zah))) (zap.cons (zap.cons zap.nil))))) (zah))))) (zak (zfy (SW.sb (zfY (zcv (ziu (zbG hr)) (zac 3) (zbJ (zah)) rfl) (zdQ (zcv (zea (zbG hr)) (zac 5) (zaf) rfl)))) (zaI (JS.mk (zbe (i:=6) nd_7 rfl (by first | exact AI rfl | exact AG rfl) (zdH (zaJ za7 (zai h_q_law_of (hr.mono (by decide)) rfl (zaa (zac 0) (zaa (zac 3) (zah))) (zap.cons (zap.cons zap.nil))) (zac 6)) (zcl) (zck (zaf)))))) (zbR)) (zak (zfy (SW.sb (zfY (zcv (ziu (zbG hr)) (zac 3) (zbJ (zah)) rfl) (zdQ (zcv (zea (zbG hr)) (zac 5) (zaf) rfl)))) (zaI (JS.mk (zbe (i:=6) nd_7 rfl (by first | exact AI rfl | exact AG rfl) (zaJ za7 (zdH (zai h_q_law_of (hr.mono (by decide)) rfl (zaa (zac 0) (zaa (zac 3) (zah))) (zap.cons (zap.cons zap.nil))) (zcl) (zck (zdz (zaf)))) (zdH (zac 6) (zcl) (zck (zaf))))))) (zbR)) (zaI (zfy (SW.sb (zfY (zcv zj8 (zbj zbC rfl b_len zd5 (zaa (zac 3) (zah))) (zac 1) rfl) (zdQ (zjV (zbG hr) (zac 6) (zac 3))))) (zaI (JS.mk (zh2 (zeE (zac 3) (zaa (zac 6) (zah)))))) (zbR)))))))) (zaI (JS.mk (zbw (zac 3)))))))
theorem zeI:FnScope ["_law_pot_here","_law_most","_law_names_here","_law_sticks","_law_signs","_law_sides","_law_kinds","_law_k","_law_face","_law_kind"] ["_law_pot_here","_law_most"] (zaA (top 12)):=⟨rfl,rfl,rfl,by decide +kernel,rfl,by decide +kernel,by decide +kernel⟩
theorem zeW(L:Laid K mg "_law_house" (top 12) ["_law_pot_here","_law_most"])(b_sorted:mg "sorted"=none)(b_tuple:mg "tuple"=none)(b_range:mg "range"=none)(b_int:mg "int"=none)(h_q_law_of:zbF P w K mg base 2 "_law_of" 2 zaq)(h_q_law_names:zbF P w K mg base 3 "_law_names" 2 zco)(h_q_law_next:zbF P w K mg base 1 "_law_next" 2 zad):zbF P w K mg base 4 "_law_house" 2 zcp :=
 zcC (k:=3) L zeI fun f cdv A outer s H E hr=>JSs.out (zak (JS.mk (zbe (i:=2) nd_9 rfl (by first | exact AI rfl | exact AG rfl) (zbj zd4 rfl b_sorted zdK (zaa (zai h_q_law_names (hr.mono (by decide)) rfl (zaa (zac 0) (zaa (zai h_q_law_of (hr.mono (by decide)) rfl (zaa (zac 0) (zaa (zbJ (JA.out (zae (zaf) (zae (zaf) (zae (zaf) (zae (zaf) (zae (zaf) (zae (zaf) (zcI))))))))) (zah))) (zap.cons (zap.cons zap.nil))) (zah))) (zap.cons (zap.cons zap.nil))) (zah))))) (zak (JS.mk (zbe (i:=3) nd_9 rfl (by first | exact AI rfl | exact AG rfl) (zcc zcO rfl b_tuple zct (zaa (zdT rfl rfl (zcK (N':=["_law_name","_law_pot_here"]) (nt:=1) (fr:=[0]) ["_law_pot_here"] rfl (by decide +kernel) (by decide +kernel) (by decide +kernel) rfl ⟨⟨rfl,by decide⟩,trivial⟩ ⟨by first | exact AI rfl | exact AG rfl,trivial⟩) (zkV (zac 2)) (fun C s0 H0 fp=>zbz (i:=0) zrW rfl (by first | exact AI rfl | exact AG rfl)) (fun C s0 H0 fp=>zfm) (fun C s0 H0 fp=>za8 (zaa (zac 0) (zaa (zaJ za7 (zaf) (zai h_q_law_next (hr.mono (by decide)) rfl (zaa (zac 1) (zaa (zai h_q_law_of (hr.mono (by decide)) rfl (zaa (zac 1) (zaa (zbJ (zaa (zaf) (zaa (zaf) (zaa (zaf) (zah))))) (zah))) (zap.cons (zap.cons zap.nil))) (zah))) (zap.cons (zap.cons zap.nil)))) (zah))))) (zah))))) (zak (JS.mk (zbe (i:=4) nd_9 rfl (by first | exact AI rfl | exact AG rfl) (zbD))) (zak (JS.mk (zbe (i:=5) nd_9 rfl (by first | exact AI rfl | exact AG rfl) (zaJ za7 (zaJ za7 (zaJ za7 (zbJ (zaa (zbD) (zah))) (zac 2)) (zac 2)) (zac 2)))) (zak (JS.mk (zbe (i:=6) nd_9 rfl (by first | exact AI rfl | exact AG rfl) (zbJ (zah)))) (zak (zgm Ci rfl (zcz rfl b_range (zaJ za7 (zaf) (zai h_q_law_next (hr.mono (by decide)) rfl (zaa (zac 0) (zaa (zac 1) (zah))) (zap.cons (zap.cons zap.nil))))) (zbz (i:=7) nd_9 rfl (by first | exact AI rfl | exact AG rfl)) (zak (JS.mk (zbe (i:=8) nd_9 rfl (by first | exact AI rfl | exact AG rfl) (zaJ zcV (zbm (zcE hr) (zac 4) (zai h_q_law_next (hr.mono (by decide)) rfl (zaa (zac 0) (zaa (zaf) (zah))) (zap.cons (zap.cons zap.nil)))) (zcc zfa rfl b_int zhG (zaa (zf2 ziv (zai h_q_law_next (hr.mono (by decide)) rfl (zaa (zac 0) (zaa (zaf) (zah))) (zap.cons (zap.cons zap.nil))) (zaf) rfl) (zah)))))) (zak (JS.mk (zbe (i:=9) nd_9 rfl (by first | exact AI rfl | exact AG rfl) (zaJ za7 (za8 (zaa (zac 8) (zah))) (zcc zcO rfl b_tuple zct (zaa (zdT rfl rfl (zcK (N':=["_law_side","_law_pot_here","_law_sides"]) (nt:=1) (fr:=[0,5]) ["_law_pot_here","_law_sides"] rfl (by decide +kernel) (by decide +kernel) (by decide +kernel) rfl ⟨⟨rfl,by decide⟩,⟨⟨rfl,by decide⟩,trivial⟩⟩ ⟨by first | exact AI rfl | exact AG rfl,⟨by first | exact AI rfl | exact AG rfl,trivial⟩⟩) (zcz rfl b_range (zaf)) (fun C s0 H0 fp=>zbz (i:=0) zrV rfl (by first | exact AI rfl | exact AG rfl)) (fun C s0 H0 fp=>zfm) (fun C s0 H0 fp=>zai h_q_law_of (hr.mono (by decide)) rfl (zaa (zac 1) (zaa (zac 2) (zah))) (zap.cons (zap.cons zap.nil)))) (zah)))))) (zak (zfy (SW.sb (zfY (zcv (ziu (zbG hr)) (zac 6) (zbJ (zah)) rfl) (zdQ (zcv (zea (zbG hr)) (zai h_q_law_next (hr.mono (by decide)) rfl (zaa (zac 0) (zaa (zaf) (zah))) (zap.cons (zap.cons zap.nil))) (zaf) rfl)))) (zaI (JS.mk (zbe (i:=9) nd_9 rfl (by first | exact AI rfl | exact AG rfl) (zai h_q_law_of (hr.mono (by decide)) rfl (zaa (zac 0) (zaa (zac 6) (zah))) (zap.cons (zap.cons zap.nil)))))) (zbR)) (zaI (JS.mk (zh2 (zeE (zac 6) (zaa (zac 9) (zah)))))))))) (zaI (JS.mk (zbw (za8 (zaa (zai h_q_law_of (hr.mono (by decide)) rfl (zaa (zac 0) (zaa (zbJ (JA.out (zae (zaf) (zae (zaf) (zae (zaf) (zae (zaf) (zae (zaf) (zcI)))))))) (zah))) (zap.cons (zap.cons zap.nil))) (zaa (zac 3) (zaa (zcc zcO rfl b_tuple zct (zaa (zac 6) (zah))) (zah))))))))))))))
theorem zeJ:FnScope ["_law_pot_here","_law_most"] ["_law_pot_here"] (zaA (top 13)):=⟨rfl,rfl,rfl,by decide +kernel,rfl,by decide +kernel,by decide +kernel⟩
theorem zeX(L:Laid K mg "_law_floor" (top 13) ["_law_pot_here"])(h_q_law_of:zbF P w K mg base 2 "_law_of" 2 zaq)(h_q_law_next:zbF P w K mg base 1 "_law_next" 2 zad):zbF P w K mg base 3 "_law_floor" 1 zcq :=
 zcC (k:=2) L zeJ fun f cdv A outer s H E hr=>JSs.out (zak (JS.mk (zbe (i:=1) zrU rfl (by first | exact AI rfl | exact AG rfl) (zai h_q_law_of (hr.mono (by decide)) rfl (zaa (zac 0) (zaa (zbJ (JA.out (zae (zaf) (zae (zaf) (zae (zaf) (zae (zaf) (zae (zaf) (zae (zaf) (zae (zaf) (zae (zaf) (zcI))))))))))) (zah))) (zap.cons (zap.cons zap.nil))))) (zaI (JS.mk (zbw (za8 (zaa (zaJ za7 (zaf) (zai h_q_law_next (hr.mono (by decide)) rfl (zaa (zac 0) (zaa (zac 1) (zah))) (zap.cons (zap.cons zap.nil)))) (zaa (zaJ za7 (zaf) (zai h_q_law_next (hr.mono (by decide)) rfl (zaa (zac 0) (zaa (zac 1) (zah))) (zap.cons (zap.cons zap.nil)))) (zah))))))))
theorem zdA:FnScope ["_law_pot_here","_law_house_here","_law_floor_here","_law_most","_law_there","_law_k"] ["_law_pot_here","_law_house_here","_law_floor_here","_law_most"] (zaA (top 14)):=⟨rfl,rfl,rfl,by decide +kernel,rfl,by decide +kernel,by decide +kernel⟩
theorem zdB(L:Laid K mg "_law_standing" (top 14) ["_law_pot_here","_law_house_here","_law_floor_here","_law_most"])(b_range:mg "range"=none)(b_len:mg "len"=none)(b_sorted:mg "sorted"=none)(b_tuple:mg "tuple"=none)(h_q_law_next:zbF P w K mg base 1 "_law_next" 2 zad):zbF P w K mg base 2 "_law_standing" 4 za6 :=
 zcC (k:=1) L zdA fun f cdv A outer s H E hr=>JSs.out (zak (JS.mk (zbe (i:=4) zrc rfl (by first | exact AI rfl | exact AG rfl) (zlT))) (zak (zgm Ci rfl (zcz rfl b_range (zai h_q_law_next (hr.mono (by decide)) rfl (zaa (zac 0) (zaa (zaJ za7 (zac 3) (zaf)) (zah))) (zap.cons (zap.cons zap.nil)))) (zbz (i:=5) zrc rfl (by first | exact AI rfl | exact AG rfl)) (zaI (JS.mk (zlC (zcE hr) (zac 4) (za8 (zaa (zai h_q_law_next (hr.mono (by decide)) rfl (zaa (zac 0) (zaa (zbm (zcE hr) (zac 2) (zaf)) (zah))) (zap.cons (zap.cons zap.nil))) (zaa (zai h_q_law_next (hr.mono (by decide)) rfl (zaa (zac 0) (zaa (zbm (zcE hr) (zac 2) (zaf)) (zah))) (zap.cons (zap.cons zap.nil))) (zah)))) (zai h_q_law_next (hr.mono (by decide)) rfl (zaa (zac 0) (zaa (zbj zbC rfl b_len zd5 (zaa (zbm (zcE hr) (zac 1) (zaf)) (zah))) (zah))) (zap.cons (zap.cons zap.nil))))))) (zaI (JS.mk (zbw (zcc zcO rfl b_tuple zct (zaa (zbj zd4 rfl b_sorted zdK (zaa (zdT rfl rfl (zcK (N':=["_law_place","_law_kind"]) (nt:=2) (fr:=[]) [] rfl (by decide +kernel) (by decide +kernel) (by decide +kernel) rfl trivial trivial) (zlP (zac 4)) (fun C s0 H0 fp=>zlQ rfl (zcZ (zbz (i:=0) zrb rfl (by first | exact AI rfl | exact AG rfl)) (zcZ (zbz (i:=1) zrb rfl (by first | exact AI rfl | exact AG rfl)) (zia)))) (fun C s0 H0 fp=>zfm) (fun C s0 H0 fp=>zaJ za7 (zac 0) (za8 (zaa (zac 1) (zah))))) (zah))) (zah))))))))
theorem zf5:FnScope ["_law_pot_here","_law_most","_law_house_here","_law_floor_here"] ["_law_pot_here","_law_most"] (zaA (top 15)):=⟨rfl,rfl,rfl,by decide +kernel,rfl,by decide +kernel,by decide +kernel⟩
theorem zgd(L:Laid K mg "_law_bed" (top 15) ["_law_pot_here","_law_most"])(h_q_law_floor:zbF P w K mg base 3 "_law_floor" 1 zcq)(h_q_law_house:zbF P w K mg base 4 "_law_house" 2 zcp)(h_q_law_of:zbF P w K mg base 2 "_law_of" 2 zaq)(h_q_law_standing:zbF P w K mg base 2 "_law_standing" 4 za6):zbF P w K mg base 5 "_law_bed" 2 zcQ :=
 zcC (k:=4) L zf5 fun f cdv A outer s H E hr=>JSs.out (zak (JS.mk (znA (i:=2) (j:=3) rfl zrT rfl rfl (by decide) rfl rfl (zaa (zai h_q_law_house (hr.mono (by decide)) rfl (zaa (zac 0) (zaa (zac 1) (zah))) (zap.cons (zap.cons zap.nil))) (zaa (zai h_q_law_floor (hr.mono (by decide)) rfl (zaa (zac 0) (zah)) (zap.cons zap.nil)) (zah))))) (zaI (JS.mk (zbw (za8 (zaa (zac 2) (zaa (zac 3) (zaa (zai h_q_law_standing (hr.mono (by decide)) rfl (JA.out (zae (zac 0) (zae (zac 2) (zae (zac 3) (zae (zai h_q_law_of (hr.mono (by decide)) rfl (zaa (zac 0) (zaa (zbJ (JA.out (zae (zaf) (zae (zaf) (zae (zaf) (zae (zaf) (zcI))))))) (zah))) (zap.cons (zap.cons zap.nil))) (zcI)))))) (zap.cons (zap.cons (zap.cons (zap.cons zap.nil))))) (zah)))))))))
theorem zf4:FnScope ["_law_pot_here","_law_some"] ["_law_pot_here"] (zaA (top 16)):=⟨rfl,rfl,rfl,by decide +kernel,rfl,by decide +kernel,by decide +kernel⟩
theorem zgc(L:Laid K mg "_law_odd" (top 16) ["_law_pot_here"])(h_q_law_of:zbF P w K mg base 2 "_law_of" 2 zaq):zbF P w K mg base 3 "_law_odd" 1 zce :=
 zcC (k := 2) L zf4 fun f cdv A outer s H E hr=>by
   refine JSs.out ?_;refine zak ?_ ?_
   . refine zoL (i:=1) zra rfl (by first | exact AI rfl | exact AG rfl) ?_;refine zae (zid) ?_;refine zae (zjT) ?_;refine zae (zjT) ?_;refine zae (zaf) ?_;refine zae (zaf) ?_;refine zae (zdz (zaf)) ?_;refine zae (zaf) ?_;refine zae (zaf) ?_;refine zae (zaf) ?_;refine zae (zaf) ?_;refine zae ?_ ?_
     . exact zaJ zgL (zaf) (zaf)
     . refine zae (zbD) ?_;refine zae (zbD) ?_;refine zae (zbD) ?_;refine zae (zbD) ?_;refine zae (zbD) ?_;refine zae (zbD) ?_;refine zae ?_ ?_
       . exact zaJ zcV (zbD) (zaf)
       . exact zae (zbD) (zae (zbD) (zcI))
   . refine zak ?_ ?_
     . refine JS.mk ?_;refine zbe (i:=1) zra rfl (by first | exact AI rfl | exact AG rfl) ?_;refine zaJ za7 (zac 1) ?_;refine zbJ ?_;refine JA.out ?_;refine zae (zbD) ?_;refine zae (zbD) ?_;refine zae (zbD) ?_;refine zae (zbD) ?_;refine zae (za8 (zah)) ?_;refine zae (zbJ (zah)) ?_;refine zae (zie) ?_;refine zae ?_ ?_
       . exact za8 (zaa (zaf) (zah))
       . refine zae ?_ ?_
         . exact za8 (zaa (zaf) (zaa (zaf) (zah)))
         . refine zae ?_ ?_
           . exact zbJ (zaa (zbD) (zaa (zaf) (zah)))
           . refine zae ?_ ?_
             . exact za8 (zaa (zbD) (zaa (zaf) (zah)))
             . refine zae ?_ ?_
               . refine za8 ?_;refine JA.out ?_;refine zae (zbD) ?_;refine zae (zbD) ?_;refine zae (zbD) ?_;exact zae (zbD) (zae (zbD) (zcI))
               . refine zae ?_ (zcI);exact za8 (zaa (za8 (zah)) (zah))
     . refine zaI ?_;refine JS.mk ?_;refine zbw ?_;refine zai h_q_law_of (hr.mono (by decide)) rfl ?_ (zap.cons (zap.cons zap.nil));exact zaa (zac 0) (zaa (zac 1) (zah))
theorem zdU:FnScope ["_law_pot_here","_law_thing","_law_some"] ["_law_pot_here","_law_thing"] (zaA (top 17)):=⟨rfl,rfl,rfl,by decide +kernel,rfl,by decide +kernel,by decide +kernel⟩
theorem zdX(L:Laid K mg "_law_changed" (top 17) ["_law_pot_here","_law_thing"])(b_isinstance:mg "isinstance"=none)(b_tuple:mg "tuple"=none)(b_list:mg "list"=none)(b_bool:mg "bool"=none)(b_int:mg "int"=none)(b_str:mg "str"=none)(h_q_law_next:zbF P w K mg base 1 "_law_next" 2 zad)(h_q_law_of:zbF P w K mg base 2 "_law_of" 2 zaq)(h_q_law_odd:zbF P w K mg base 3 "_law_odd" 1 zce):zbF P w K mg base 4 "_law_changed" 2 zbh :=
 zcC (k:=3) L zdU fun f cdv A outer s H E hr=>JSs.out (zak (zfy (SW.sb (zfY (zhm (zdb (T:="tuple") (x:="isinstance") (by decide) rfl b_isinstance (zac 1) rfl b_tuple zct)) (zdQ (zcv ziv (zai h_q_law_next (hr.mono (by decide)) rfl (zaa (zac 0) (zaa (zaf) (zah))) (zap.cons (zap.cons zap.nil))) (zaf) rfl)))) (zak (JS.mk (zbe (i:=2) zq9 rfl (by first | exact AI rfl | exact AG rfl) (zbJ (JA.out (zae (zcc (zjl rfl) rfl b_list zo5 (zaa (zac 1) (zah))) (zae (zbA (zac 1) (zcl) (zck (zdz (zaf)))) (zae (zbA (zac 1) (zck (zaf)) (zcl)) (zae (zaJ zfs (zac 1) (zbA (zac 1) (zck (zdz (zaf))) (zcl))) (zae (zic (zac 1) (zdz (zaf))) (zae (zaJ zfs (zac 1) (za8 (zaa (zid) (zah)))) (zae (za8 (zaa (zac 1) (zah))) (zcI)))))))))))) (zaI (JS.mk (zbw (zai h_q_law_of (hr.mono (by decide)) rfl (zaa (zac 0) (zaa (zac 2) (zah))) (zap.cons (zap.cons zap.nil))))))) (zbR)) (zak (zfy (SW.sb (zjC (zhm (zdb (T:="bool") (x:="isinstance") (by decide) rfl b_isinstance (zac 1) rfl b_bool zg0)) (zhb (zcv zoq (zac 1) (zid) rfl)))) (zaI (JS.mk (zbw (zai h_q_law_odd (hr.mono (by decide)) rfl (zaa (zac 0) (zah)) (zap.cons zap.nil))))) (zbR)) (zak (zfy (SW.sb (zfY (zhm (zdb (T:="int") (x:="isinstance") (by decide) rfl b_isinstance (zac 1) rfl b_int zhG)) (zdQ (zcv ziv (zai h_q_law_next (hr.mono (by decide)) rfl (zaa (zac 0) (zaa (zaf) (zah))) (zap.cons (zap.cons zap.nil))) (zaf) rfl)))) (zaI (JS.mk (zbw (zai h_q_law_of (hr.mono (by decide)) rfl (zaa (zac 0) (zaa (zbJ (JA.out (zae (zaJ za7 (zac 1) (zaf)) (zae (zaJ zdc (zac 1) (zaf)) (zae (zdz (zac 1)) (zae (zcc zky rfl b_str zo3 (zaa (zac 1) (zah))) (zae (zf2 (zea (zbG hr)) (zac 1) (zaf) rfl) (zae (zaJ za7 (zac 1) (zaf)) (zae (zbJ (zaa (zac 1) (zah))) (zae (zaJ za7 (zac 1) (zaf)) (zcI))))))))))) (zah))) (zap.cons (zap.cons zap.nil)))))) (zbR)) (zak (zfy (SW.sb (zfY (zhm (zdb (T:="str") (x:="isinstance") (by decide) rfl b_isinstance (zac 1) rfl b_str zo3)) (zdQ (zcv ziv (zai h_q_law_next (hr.mono (by decide)) rfl (zaa (zac 0) (zaa (zaf) (zah))) (zap.cons (zap.cons zap.nil))) (zaf) rfl)))) (zak (JS.mk (zbe (i:=2) zq9 rfl (by first | exact AI rfl | exact AG rfl) (zbJ (JA.out (zae (zaJ za7 (zac 1) (zbD)) (zae (zbA (zac 1) (zcl) (zck (zdz (zaf)))) (zae (zrC (zac 1)) (zae (zaJ za7 (zac 1) (zbD)) (zae (zaJ za7 (zac 1) (zbD)) (zae (zbJ (zaa (zac 1) (zah))) (zae (za8 (zaa (zac 1) (zah))) (zae (zic (zac 1) (zdz (zaf))) (zcI))))))))))))) (zaI (JS.mk (zbw (zai h_q_law_of (hr.mono (by decide)) rfl (zaa (zac 0) (zaa (zac 2) (zah))) (zap.cons (zap.cons zap.nil))))))) (zbR)) (zaI (JS.mk (zbw (zai h_q_law_odd (hr.mono (by decide)) rfl (zaa (zac 0) (zah)) (zap.cons zap.nil)))))))))
theorem zd9:FnScope ["_law_pot_here","_law_thing","_law_deep","_law_at"] ["_law_pot_here","_law_thing","_law_deep"] (zaA (top 18)):=⟨rfl,rfl,rfl,by decide +kernel,rfl,by decide +kernel,by decide +kernel⟩
theorem zeb(L:Laid K mg "_law_spoilt" (top 18) ["_law_pot_here","_law_thing","_law_deep"])(b_isinstance:mg "isinstance"=none)(b_tuple:mg "tuple"=none)(b_len:mg "len"=none)(h_q_law_next:zbF P w K mg base 1 "_law_next" 2 zad)(h_q_law_changed:zbF P w K mg base 4 "_law_changed" 2 zbh):zbF P w K mg base 16 "_law_spoilt" 3 zbb :=
 zlf (j:=4) L zd9 (fun i g hself f cdv A outer s H E hr=>JSs.out (zak (zfy (SW.sb (zjC (zcv (zea (zbG hr)) (zac 2) (zaf) rfl) (zjC (zeL (zhm (zdb (T:="tuple") (x:="isinstance") (by decide) rfl b_isinstance (zac 1) rfl b_tuple zct))) (zjC (zcv (zqs (zbG hr)) (zac 1) (za8 (zah)) rfl) (zhb (zcv (zea (zbG hr)) (zai h_q_law_next (hr.mono (by omega)) rfl (zaa (zac 0) (zaa (zaf) (zah))) (zap.cons (zap.cons zap.nil))) (zaf) rfl)))))) (zaI (JS.mk (zbw (zai h_q_law_changed (hr.mono (by omega)) rfl (zaa (zac 0) (zaa (zac 1) (zah))) (zap.cons (zap.cons zap.nil)))))) (zbR)) (zak (JS.mk (zbe (i:=3) zrS rfl (by first | exact AI rfl | exact AG rfl) (zai h_q_law_next (hr.mono (by omega)) rfl (zaa (zac 0) (zaa (zbj zbC rfl b_len zd5 (zaa (zac 1) (zah))) (zah))) (zap.cons (zap.cons zap.nil))))) (zaI (JS.mk (zbw (zaJ za7 (zaJ zfs (zbA (zac 1) (zcl) (zck (zac 3))) (za8 (zaa (zai hself hr rfl (zaa (zac 0) (zaa (zbm (zcE hr) (zac 1) (zac 3)) (zaa (zaJ zdc (zac 2) (zaf)) (zah)))) (zap.cons (zap.cons (zap.cons zap.nil)))) (zah)))) (zbA (zac 1) (zck (zaJ za7 (zac 3) (zaf))) (zcl))))))))) 12
theorem zeG:FnScope ["_law_thing","_law_least","_law_most"] ["_law_thing","_law_least","_law_most"] (zaA (top 19)):=⟨rfl,rfl,rfl,by decide +kernel,rfl,by decide +kernel,by decide +kernel⟩
theorem zeU(L:Laid K mg "_law_whole" (top 19) ["_law_thing","_law_least","_law_most"])(b_isinstance:mg "isinstance"=none)(b_int:mg "int"=none)(b_bool:mg "bool"=none):zbF P w K mg base 1 "_law_whole" 3 zba :=
 zcC (k:=0) L zeG fun f cdv A outer s H E hr=>JSs.out (zaI (JS.mk (zbw (zeF (zdb (T:="int") (x:="isinstance") (by decide) rfl b_isinstance (zac 0) rfl b_int zhG) (zeF (znR (zdb (T:="bool") (x:="isinstance") (by decide) rfl b_isinstance (zac 0) rfl b_bool zg0)) (zfk (zif zj9 zj9 (zac 1) (zac 0) (zac 2))))))))
theorem zc0:FnScope ["_law_house_here","_law_floor_here","_law_thing","_law_tile","_law_places"] ["_law_house_here","_law_floor_here","_law_thing"] (zaA (top 20)):=⟨rfl,rfl,rfl,by decide +kernel,rfl,by decide +kernel,by decide +kernel⟩
theorem zc2(L:Laid K mg "_law_is_standing" (top 20) ["_law_house_here","_law_floor_here","_law_thing"])(b_isinstance:mg "isinstance"=none)(b_tuple:mg "tuple"=none)(b_len:mg "len"=none)(b_sorted:mg "sorted"=none)(b_set:mg "set"=none)(h_q_law_whole:zbF P w K mg base 1 "_law_whole" 3 zba):zbF P w K mg base 2 "_law_is_standing" 3 zbc :=
 zcC (k:=1) L zc0 fun f cdv A outer s H E hr=>JSs.out (zak (zfy (zeL (zhm (zdb (T:="tuple") (x:="isinstance") (by decide) rfl b_isinstance (zac 2) rfl b_tuple zct))) (zaI (JS.mk (zbw (zjT)))) (zbR)) (zak (zgm Ci rfl (zdS (zac 2)) (zbz (i:=3) zq8 rfl (by first | exact AI rfl | exact AG rfl)) (zak (zfy (SW.sb (zjC (zeL (zhm (zdb (T:="tuple") (x:="isinstance") (by decide) rfl b_isinstance (zac 3) rfl b_tuple zct))) (zjC (zcv (ziu (zbG hr)) (zbj zbC rfl b_len zd5 (zaa (zac 3) (zah))) (zaf) rfl) (zhb (zeL (zhm (zai h_q_law_whole (hr.mono (by decide)) rfl (zaa (zbm (zcE hr) (zac 3) (zaf)) (zaa (zaf) (zaa (zaJ zdc (zbm (zcE hr) (zac 1) (zaf)) (zaf)) (zah)))) (zap.cons (zap.cons (zap.cons zap.nil)))))))))) (zaI (JS.mk (zbw (zjT)))) (zbR)) (zaI (zfy (SW.sb (zjC (zeL (zhm (zai h_q_law_whole (hr.mono (by decide)) rfl (zaa (zbm (zcE hr) (zac 3) (zaf)) (zaa (zaf) (zaa (zaJ zdc (zbm (zcE hr) (zac 1) (zaf)) (zaf)) (zah)))) (zap.cons (zap.cons (zap.cons zap.nil)))))) (zhb (zeL (zhm (zai h_q_law_whole (hr.mono (by decide)) rfl (zaa (zbm (zcE hr) (zac 3) (zaf)) (zaa (zaf) (zaa (zaJ zdc (zbj zbC rfl b_len zd5 (zaa (zbm (zcE hr) (zac 0) (zaf)) (zah))) (zaf)) (zah)))) (zap.cons (zap.cons (zap.cons zap.nil))))))))) (zaI (JS.mk (zbw (zjT)))) (zbR))))) (zak (JS.mk (zhe (i:=4) rfl rfl (zcK (N':=["_law_x","_law_y","_law_kind"]) (nt:=3) (fr:=[]) [] rfl (by decide +kernel) (by decide +kernel) (by decide +kernel) rfl trivial trivial) (zdS (zac 2)) (fun C s0 H0 fp=>zlQ rfl (zcZ (zbz (i:=0) zqy rfl (by first | exact AI rfl | exact AG rfl)) (zcZ (zbz (i:=1) zqy rfl (by first | exact AI rfl | exact AG rfl)) (zcZ (zbz (i:=2) zqy rfl (by first | exact AI rfl | exact AG rfl)) (zia))))) (fun C s0 H0 fp=>zfm) (fun C s0 H0 fp=>za8 (zaa (zac 0) (zaa (zac 1) (zah)))) zq8 rfl rfl)) (zaI (JS.mk (zbw (zf2 (zea (zbG hr)) (zac 4) (znL rfl (zbG hr) rfl b_sorted rfl b_set (zac 4)) rfl)))))))
theorem zpM:FnScope ["_law_script","_law_k","_law_pot_here","_law_bed_here","_law_house_here","_law_floor_here","_law_right","_law_x","_law_y","_law_many","_law_some","_law_things","_law_turn","_law_bent","_law_thing","_law_found"] ["_law_script"] (zaA (top 21)):=⟨rfl,rfl,rfl,by decide +kernel,rfl,by decide +kernel,by decide +kernel⟩
theorem zqQ{f:Addr}{fd:FuncData}(F:Fun K "law" "law" (top 21) f fd)(b_len:mg "len"=none)(b_min:mg "min"=none)(b_max:mg "max"=none)(b_range:mg "range"=none)(b_isinstance:mg "isinstance"=none)(b_bool:mg "bool"=none)(h_q_law_pot:zbF P w K mg base 1 "_law_pot" 2 zcP)(h_q_law_bed:zbF P w K mg base 5 "_law_bed" 2 zcQ)(h_q_law_standing:zbF P w K mg base 2 "_law_standing" 4 za6)(h_q_law_next:zbF P w K mg base 1 "_law_next" 2 zad)(h_q_law_spoilt:zbF P w K mg base 16 "_law_spoilt" 3 zbb)(h_is_standing:zbF P w K mg base 4 "is_standing" 2 zbS)(h_q_law_is_standing:zbF P w K mg base 2 "_law_is_standing" 3 zbc):FnOk P w K mg base CX0 17 f fd ["_law_script"] (spM K 1 zne) :=
 fn_m (k:=16) F zpM fun cdv A outer s H E hr=>JSs.out (zak (zgm Ci rfl (zcz rfl b_range (zbj (zkE rfl) rfl b_max zqX (zaa (zaf) (zaa (zbj (zkC rfl) rfl b_min zqW (zaa (zbj zbC rfl b_len zd5 (zaa (zac 0) (zah))) (zaa (zaf) (zah)))) (zah))))) (zbz (i:=1) zgg rfl (by first | exact AI rfl | exact AG rfl)) (zak (JS.mk (zbe (i:=2) zgg rfl (by first | exact AI rfl | exact AG rfl) (zai h_q_law_pot (hr.mono (by decide)) rfl (zaa (zac 0) (zaa (zac 1) (zah))) (zap.cons (zap.cons zap.nil))))) (zak (JS.mk (zbe (i:=3) zgg rfl (by first | exact AI rfl | exact AG rfl) (zai h_q_law_bed (hr.mono (by decide)) rfl (zaa (zac 2) (zaa (zaf) (zah))) (zap.cons (zap.cons zap.nil))))) (zak (JS.mk (znA (i:=4) (j:=5) rfl zgg rfl rfl (by decide) rfl rfl (zaa (zbm (zcE hr) (zac 3) (zaf)) (zaa (zbm (zcE hr) (zac 3) (zaf)) (zah))))) (zak (JS.mk (zbe (i:=6) zgg rfl (by first | exact AI rfl | exact AG rfl) (zai h_q_law_standing (hr.mono (by decide)) rfl (JA.out (zae (zac 2) (zae (zac 4) (zae (zac 5) (zae (zaf) (zcI)))))) (zap.cons (zap.cons (zap.cons (zap.cons zap.nil))))))) (zak (JS.mk (znz (i:=7) (j:=8) (l:=9) rfl zgg rfl rfl rfl (by decide) (by decide) (by decide) rfl rfl rfl (zaa (zai h_q_law_next (hr.mono (by decide)) rfl (zaa (zac 2) (zaa (zbm (zcE hr) (zac 5) (zaf)) (zah))) (zap.cons (zap.cons zap.nil))) (zaa (zai h_q_law_next (hr.mono (by decide)) rfl (zaa (zac 2) (zaa (zbm (zcE hr) (zac 5) (zaf)) (zah))) (zap.cons (zap.cons zap.nil))) (zaa (zbj zbC rfl b_len zd5 (zaa (zbm (zcE hr) (zac 4) (zaf)) (zah))) (zah)))))) (zak (JS.mk (zbe (i:=10) zgg rfl (by first | exact AI rfl | exact AG rfl) (za8 (zaa (za8 (zaa (zac 7) (zaa (zac 8) (zaa (zaf) (zah))))) (zaa (za8 (zaa (zac 7) (zaa (zac 8) (zaa (zaJ zdc (zac 9) (zaf)) (zah))))) (zah)))))) (zak (JS.mk (zbe (i:=11) zgg rfl (by first | exact AI rfl | exact AG rfl) (zbJ (JA.out (zae (zac 6) (zae (zic (zac 6) (zdz (zaf))) (zae (zaJ zfs (zac 6) (zac 6)) (zae (zac 10) (zae (zbA (zac 10) (zcl) (zck (zaf))) (zae (za8 (zaa (za8 (zaa (zbm (zcE hr) (zac 5) (zaf)) (zaa (zac 8) (zaa (zaf) (zah))))) (zah))) (zae (za8 (zaa (za8 (zaa (zac 7) (zaa (zbm (zcE hr) (zac 5) (zaf)) (zaa (zaf) (zah))))) (zah))) (zcI)))))))))))) (zak (JS.mk (zbe (i:=11) zgg rfl (by first | exact AI rfl | exact AG rfl) (zaJ za7 (zac 11) (zbJ (JA.out (zae (za8 (zaa (za8 (zaa (zac 7) (zaa (zac 8) (zaa (zac 9) (zah))))) (zah))) (zae (za8 (zaa (za8 (zaa (zdz (zaf)) (zaa (zac 8) (zaa (zaf) (zah))))) (zah))) (zae (za8 (zaa (za8 (zaa (zac 7) (zaa (zdz (zaf)) (zaa (zaf) (zah))))) (zah))) (zae (za8 (zaa (za8 (zaa (zac 7) (zaa (zac 8) (zaa (zdz (zaf)) (zah))))) (zah))) (zae (za8 (zaa (za8 (zaa (zac 7) (zaa (zac 8) (zaa (zjT) (zah))))) (zah))) (zae (za8 (zaa (za8 (zaa (zac 7) (zaa (zac 8) (zah)))) (zah))) (zcI)))))))))))) (zak (JS.mk (zbe (i:=11) zgg rfl (by first | exact AI rfl | exact AG rfl) (zaJ za7 (zac 11) (zbJ (JA.out (zae (za8 (zaa (za8 (JA.out (zae (zac 7) (zae (zac 8) (zae (zaf) (zae (zaf) (zcI))))))) (zah))) (zae (zbJ (zaa (za8 (zaa (zac 7) (zaa (zac 8) (zaa (zaf) (zah))))) (zah))) (zae (za8 (zaa (zbJ (zaa (zac 7) (zaa (zac 8) (zaa (zaf) (zah))))) (zah))) (zae (zid) (zae (za8 (zah)) (zae (zbD) (zae (zie) (zae (za8 (zaa (zid) (zah))) (zae (zac 3) (zcI))))))))))))))) (zak (zgm Ci rfl (zcz rfl b_range (zaf)) (zbz (i:=12) zgg rfl (by first | exact AI rfl | exact AG rfl)) (zak (JS.mk (zbe (i:=13) zgg rfl (by first | exact AI rfl | exact AG rfl) (zai h_q_law_spoilt (hr.mono (by decide)) rfl (zaa (zac 2) (zaa (zaJ zfs (zac 6) (zbA (zac 10) (zcl) (zck (zaf)))) (zaa (zaJ za7 (zaf) (zai h_q_law_next (hr.mono (by decide)) rfl (zaa (zac 2) (zaa (zaf) (zah))) (zap.cons (zap.cons zap.nil)))) (zah)))) (zap.cons (zap.cons (zap.cons zap.nil)))))) (zak (zfy (zcv (zea (zbG hr)) (zai h_q_law_next (hr.mono (by decide)) rfl (zaa (zac 2) (zaa (zaf) (zah))) (zap.cons (zap.cons zap.nil))) (zaf) rfl) (zaI (JS.mk (zbe (i:=13) zgg rfl (by first | exact AI rfl | exact AG rfl) (zai h_q_law_spoilt (hr.mono (by decide)) rfl (zaa (zac 2) (zaa (zac 13) (zaa (zaJ za7 (zaf) (zai h_q_law_next (hr.mono (by decide)) rfl (zaa (zac 2) (zaa (zaf) (zah))) (zap.cons (zap.cons zap.nil)))) (zah)))) (zap.cons (zap.cons (zap.cons zap.nil))))))) (zbR)) (zaI (JS.mk (zh2 (zeE (zac 11) (zaa (zac 13) (zah))))))))) (zaI (zgm Ci rfl (zdS (zac 11)) (zbz (i:=14) zgg rfl (by first | exact AI rfl | exact AG rfl)) (zak (JS.mk (zbe (i:=15) zgg rfl (by first | exact AI rfl | exact AG rfl) (zai h_is_standing (hr.mono (by decide)) rfl (zaa (zac 3) (zaa (zac 14) (zah))) (zap.cons (zap.cons zap.nil))))) (zaI (zfy (SW.sb (zjC (zeL (zhm (zdb (T:="bool") (x:="isinstance") (by decide) rfl b_isinstance (zac 15) rfl b_bool zg0))) (zhb (zcv (ziu (zbG hr)) (zac 15) (zai h_q_law_is_standing (hr.mono (by decide)) rfl (zaa (zac 4) (zaa (zac 5) (zaa (zac 14) (zah)))) (zap.cons (zap.cons (zap.cons zap.nil)))) rfl)))) (zaI (JS.mk (zbw (zjT)))) (zbR))))))))))))))))) (zaI (JS.mk (zbw (zjT)))))
end
theorem zq0{P:Program}{w:World}{K:Ae}{mg:Str->Option Value}{base:Heap}{f:Addr}{fd:FuncData}(b_isinstance:mg "isinstance"=none)(b_int:mg "int"=none)(b_bool:mg "bool"=none)(b_tuple:mg "tuple"=none)(b_len:mg "len"=none)(b_zip:mg "zip"=none)(b_all:mg "all"=none)(b_abs:mg "abs"=none)(b_range:mg "range"=none)(b_sorted:mg "sorted"=none)(b_list:mg "list"=none)(b_str:mg "str"=none)(b_set:mg "set"=none)(b_min:mg "min"=none)(b_max:mg "max"=none)(L_is_whole:Laid K mg "is_whole" (top 1) ["thing","least","most"])(L_is_tuple:Laid K mg "is_tuple" (top 2) ["thing","size"])(L_rises:Laid K mg "rises" (top 3) ["parts"])(L_is_place:Laid K mg "is_place" (top 4) ["bed","thing"])(L_is_tile:Laid K mg "is_tile" (top 5) ["bed","thing"])(L_is_standing:Laid K mg "is_standing" (top 6) ["bed","thing"])(L_q_law_pot:Laid K mg "_law_pot" (top 8) ["_law_script","_law_k"])(L_q_law_next:Laid K mg "_law_next" (top 9) ["_law_pot_here","_law_many"])(L_q_law_of:Laid K mg "_law_of" (top 10) ["_law_pot_here","_law_some"])(L_q_law_names:Laid K mg "_law_names" (top 11) ["_law_pot_here","_law_many"])(L_q_law_house:Laid K mg "_law_house" (top 12) ["_law_pot_here","_law_most"])(L_q_law_floor:Laid K mg "_law_floor" (top 13) ["_law_pot_here"])(L_q_law_standing:Laid K mg "_law_standing" (top 14) ["_law_pot_here","_law_house_here","_law_floor_here","_law_most"])(L_q_law_bed:Laid K mg "_law_bed" (top 15) ["_law_pot_here","_law_most"])(L_q_law_odd:Laid K mg "_law_odd" (top 16) ["_law_pot_here"])(L_q_law_changed:Laid K mg "_law_changed" (top 17) ["_law_pot_here","_law_thing"])(L_q_law_spoilt:Laid K mg "_law_spoilt" (top 18) ["_law_pot_here","_law_thing","_law_deep"])(L_q_law_whole:Laid K mg "_law_whole" (top 19) ["_law_thing","_law_least","_law_most"])(L_q_law_is_standing:Laid K mg "_law_is_standing" (top 20) ["_law_house_here","_law_floor_here","_law_thing"])(F:Fun K "law" "law" (top 21) f fd):FnOk P w K mg base CX0 17 f fd ["_law_script"] (spM K 1 zne):=by
 have h_is_whole:=zht (P:=P) (w:=w) (base:=base) L_is_whole  b_isinstance b_int b_bool;have h_is_tuple:=zhu (P:=P) (w:=w) (base:=base) L_is_tuple  b_isinstance b_tuple b_len;have h_rises:=zmi (P:=P) (w:=w) (base:=base) L_rises  b_zip b_all;have h_is_place:=zhv (P:=P) (w:=w) (base:=base) L_is_place    h_is_tuple h_is_whole;have h_is_tile:=ziz (P:=P) (w:=w) (base:=base) L_is_tile  b_len  h_is_tuple h_is_place h_is_whole;have h_is_standing:=zeY (P:=P) (w:=w) (base:=base) L_is_standing  b_isinstance b_tuple b_all  h_is_tile h_rises;have h_q_law_pot:=zgb (P:=P) (w:=w) (base:=base) L_q_law_pot  b_len b_abs b_int;have h_q_law_next:=zfu (P:=P) (w:=w) (base:=base) L_q_law_next;have h_q_law_of:=zhs (P:=P) (w:=w) (base:=base) L_q_law_of  b_len  h_q_law_next;have h_q_law_names:=zeV (P:=P) (w:=w) (base:=base) L_q_law_names  b_range b_len  h_q_law_next h_q_law_of;have h_q_law_house:=zeW (P:=P) (w:=w) (base:=base) L_q_law_house  b_sorted b_tuple b_range b_int  h_q_law_of h_q_law_names h_q_law_next;have h_q_law_floor:=zeX (P:=P) (w:=w) (base:=base) L_q_law_floor    h_q_law_of h_q_law_next;have h_q_law_standing:=zdB (P:=P) (w:=w) (base:=base) L_q_law_standing  b_range b_len b_sorted b_tuple  h_q_law_next;have h_q_law_bed:=zgd (P:=P) (w:=w) (base:=base) L_q_law_bed    h_q_law_floor h_q_law_house h_q_law_of h_q_law_standing;have h_q_law_odd:=zgc (P:=P) (w:=w) (base:=base) L_q_law_odd    h_q_law_of;have h_q_law_changed:=zdX (P:=P) (w:=w) (base:=base) L_q_law_changed  b_isinstance b_tuple b_list b_bool b_int b_str  h_q_law_next h_q_law_of h_q_law_odd;have h_q_law_spoilt:=zeb (P:=P) (w:=w) (base:=base) L_q_law_spoilt  b_isinstance b_tuple b_len  h_q_law_next h_q_law_changed;have h_q_law_whole:=zeU (P:=P) (w:=w) (base:=base) L_q_law_whole  b_isinstance b_int b_bool;have h_q_law_is_standing:=zc2 (P:=P) (w:=w) (base:=base) L_q_law_is_standing  b_isinstance b_tuple b_len b_sorted b_set  h_q_law_whole;exact zqQ F b_len b_min b_max b_range b_isinstance b_bool h_q_law_pot h_q_law_bed h_q_law_standing h_q_law_next h_q_law_spoilt h_is_standing h_q_law_is_standing
theorem all_mk{l:EY}{w:World}{K:Ae}{h:Heap}{mg:Str->Option Value}{fa:Addr}(X:K.In h)(G:h.Ns mainGlobals mg)(hfa:mg "law"=some (.ref fa)){f0 f1 f2 f3 f4 f5 f6 f7 f8 f9 f10 f11 f12 f13 f14 f15 f16 f17 f18 f19:Addr}
   (a0:FdIn K "is_whole" (top 1) f0)
   (a1:FdIn K "is_tuple" (top 2) f1)
   (a2:FdIn K "rises" (top 3) f2)
   (a3:FdIn K "is_place" (top 4) f3)
   (a4:FdIn K "is_tile" (top 5) f4)
   (a5:FdIn K "is_standing" (top 6) f5)
   (a6:FdIn K "_law_pot" (top 8) f6)
   (a7:FdIn K "_law_next" (top 9) f7)
   (a8:FdIn K "_law_of" (top 10) f8)
   (a9:FdIn K "_law_names" (top 11) f9)
   (a10:FdIn K "_law_house" (top 12) f10)
   (a11:FdIn K "_law_floor" (top 13) f11)
   (a12:FdIn K "_law_standing" (top 14) f12)
   (a13:FdIn K "_law_bed" (top 15) f13)
   (a14:FdIn K "_law_odd" (top 16) f14)
   (a15:FdIn K "_law_changed" (top 17) f15)
   (a16:FdIn K "_law_spoilt" (top 18) f16)
   (a17:FdIn K "_law_whole" (top 19) f17)
   (a18:FdIn K "_law_is_standing" (top 20) f18)
   (a19:FdIn K "law" (top 21) f19)
   (z0:Bp K mainGlobals "isinstance"=some none)
   (z1:Bp K mainGlobals "int"=some none)
   (z2:Bp K mainGlobals "bool"=some none)
   (z3:Bp K mainGlobals "tuple"=some none)
   (z4:Bp K mainGlobals "len"=some none)
   (z5:Bp K mainGlobals "zip"=some none)
   (z6:Bp K mainGlobals "all"=some none)
   (z7:Bp K mainGlobals "abs"=some none)
   (z8:Bp K mainGlobals "range"=some none)
   (z9:Bp K mainGlobals "sorted"=some none)
   (z10:Bp K mainGlobals "list"=some none)
   (z11:Bp K mainGlobals "str"=some none)
   (z12:Bp K mainGlobals "set"=some none)
   (z13:Bp K mainGlobals "min"=some none)
   (z14:Bp K mainGlobals "max"=some none) :
   ∃ fd:FuncData,(∀ (s:Shared) (v:Value),BindsTo s fd ⟨[v],[]⟩ [("_law_script",v)])/\∀ base:Heap,K.In base->base.Ns mainGlobals mg->FnOk l.prog w K mg base CX0 17 fa fd ["_law_script"] (spM K 1 zne):=by
 obtain⟨⟨oc,od,kV,dc,pm,an,cd,ct,sl,l,c⟩,n,k⟩:=a19;have e:=hfa.symm.trans (Hr X G n);cases e;exact⟨_,fun s v=>.of_eq rfl,fun base _ _=>zq0 (A3 X G z0) (A3 X G z1) (A3 X G z2) (A3 X G z3) (A3 X G z4) (A3 X G z5) (A3 X G z6) (A3 X G z7) (A3 X G z8) (A3 X G z9) (A3 X G z10) (A3 X G z11) (A3 X G z12) (A3 X G z13) (A3 X G z14)
   (zbB (ps:=["thing","least","most"]) a0 X G fun _ _ _ _ _ _=>len3 fun _ _ _=>rfl)
   (zbB (ps:=["thing","size"]) a1 X G fun _ _ _ _ _ _=>len2 fun _ _=>rfl)
   (zbB (ps:=["parts"]) a2 X G fun _ _ _ _ _ _=>len1 fun _=>rfl)
   (zbB (ps:=["bed","thing"]) a3 X G fun _ _ _ _ _ _=>len2 fun _ _=>rfl)
   (zbB (ps:=["bed","thing"]) a4 X G fun _ _ _ _ _ _=>len2 fun _ _=>rfl)
   (zbB (ps:=["bed","thing"]) a5 X G fun _ _ _ _ _ _=>len2 fun _ _=>rfl)
   (zbB (ps:=["_law_script","_law_k"]) a6 X G fun _ _ _ _ _ _=>len2 fun _ _=>rfl)
   (zbB (ps:=["_law_pot_here","_law_many"]) a7 X G fun _ _ _ _ _ _=>len2 fun _ _=>rfl)
   (zbB (ps:=["_law_pot_here","_law_some"]) a8 X G fun _ _ _ _ _ _=>len2 fun _ _=>rfl)
   (zbB (ps:=["_law_pot_here","_law_many"]) a9 X G fun _ _ _ _ _ _=>len2 fun _ _=>rfl)
   (zbB (ps:=["_law_pot_here","_law_most"]) a10 X G fun _ _ _ _ _ _=>len2 fun _ _=>rfl)
   (zbB (ps:=["_law_pot_here"]) a11 X G fun _ _ _ _ _ _=>len1 fun _=>rfl)
   (zbB (ps:=["_law_pot_here","_law_house_here","_law_floor_here","_law_most"]) a12 X G fun _ _ _ _ _ _=>len4 fun _ _ _ _=>rfl)
   (zbB (ps:=["_law_pot_here","_law_most"]) a13 X G fun _ _ _ _ _ _=>len2 fun _ _=>rfl)
   (zbB (ps:=["_law_pot_here"]) a14 X G fun _ _ _ _ _ _=>len1 fun _=>rfl)
   (zbB (ps:=["_law_pot_here","_law_thing"]) a15 X G fun _ _ _ _ _ _=>len2 fun _ _=>rfl)
   (zbB (ps:=["_law_pot_here","_law_thing","_law_deep"]) a16 X G fun _ _ _ _ _ _=>len3 fun _ _ _=>rfl)
   (zbB (ps:=["_law_thing","_law_least","_law_most"]) a17 X G fun _ _ _ _ _ _=>len3 fun _ _ _=>rfl)
   (zbB (ps:=["_law_house_here","_law_floor_here","_law_thing"]) a18 X G fun _ _ _ _ _ _=>len3 fun _ _ _=>rfl)
   (zmM (st:=top 21) l c k)⟩
end L2.MP.stickytiles_k03_standings_or_not
namespace L2.MP.stickytiles_k03_standings_or_not
open PySem L2.MP L2.MP.Hn
open L2.MP.Hb (zhP ty_str ty_int)
noncomputable def big(m:Nat):Nat:=1000000000000000000000000000000+100*m
inductive Fit (n m:Nat) (st:Sto):D->Prop
 | non:Fit n m st .non
 | bl (b:Bool):Fit n m st (.bl b)
 | int (i:Int) (h:i.natAbs<=big m):Fit n m st (.int i)
 | str (z:Str) (h:z.cps.toList.length<=50+10*m) (ok:∀ c∈z.cps.toList,c < 128):Fit n m st (.str z)
 | tup (ds:List D) (h:ds.length<=20+5*m) (f:∀ d∈ds,Fit n m st d):Fit n m st (.tup ds)
 | lst (k:Nat) (xs:List D) (h:st[k]?=some (.lst xs)) (h1:k≠n):Fit n m st (.ref k)
 | dk (k:Nat) (xs:List (Key×D)) (h:st[k]?=some (.dk xs)) (h1:k≠n):Fit n m st (.ref k)
theorem Fit.fr{n m:Nat}{st st':Sto}{d:D}(F:Fr n st st')(h:Fit n m st d):Fit n m st' d:=by
 induction h with
 | non=>exact .non
 | bl b=>exact .bl b
 | int i h=>exact .int i h
 | str z h ok=>exact .str z h ok
 | tup ds h f ih=>exact .tup ds h ih
 | lst k xs h h1=>exact .lst k xs ((F.old k (getElem?_lt h) h1).trans h) h1
 | dk k xs h h1=>exact .dk k xs ((F.old k (getElem?_lt h) h1).trans h) h1
theorem Fit.gr{n m:Nat}{st st':Sto}{d:D}(g:Gr st st')(h:Fit n m st d):Fit n m st' d:=h.fr (g.fr n)
theorem zo9{a b:Nat}(h:a<=b):big a<=big b:=by unfold big;omega
theorem Fit.up{n m k:Nat}{st:Sto}{d:D}(h:Fit n m st d)(hk:m<=k):Fit n k st d:=by
 induction h with
 | non=>exact .non
 | bl b=>exact .bl b
 | int i h=>exact .int i (AR h (zo9 hk))
 | str z h ok=>exact .str z (by omega) ok
 | tup ds h f ih=>exact .tup ds (by omega) ih
 | lst k xs h h1=>exact .lst k xs h h1
 | dk k xs h h1=>exact .dk k xs h h1
theorem Fit.at{n m:Nat}{st:Sto}{ds:List D}(h:Fit n m st (.tup ds)):∀ d∈ds,Fit n m st d:=by
 cases h with
 | tup ds h f=>exact f
theorem Fit.ln{n m:Nat}{st:Sto}{ds:List D}(h:Fit n m st (.tup ds)):ds.length<=20+5*m:=by
 cases h with
 | tup ds h f=>exact h
theorem Fit.tx{n m:Nat}{st:Sto}{z:Str}(h:Fit n m st (.str z)):z.cps.toList.length<=50+10*m/\∀ c∈z.cps.toList,c < 128:=by
 cases h with
 | str z h f=>exact⟨h,f⟩
section
variable {n m:Nat} {st:Sto} {d:D}
theorem znn:tyName st .non=some "NoneType":=rfl
theorem zps{b:Bool}:tyName st (.bl b)=some "bool":=rfl
theorem zlr{k:Nat}{xs:List D}(h:st[k]?=some (.lst xs)):tyName st (.ref k)=some "list":=by unfold tyName;simp only[h]
theorem zpr{k:Nat}{xs:List (Key×D)}(h:st[k]?=some (.dk xs)):tyName st (.ref k)=some "dict":=by unfold tyName;simp only[h]
noncomputable def istB:D->Bool
 | .tup _=>true
 | _=>false
noncomputable def issB:D->Bool
 | .str _=>true
 | _=>false
noncomputable def isiB:D->Bool
 | .int _=>true
 | .bl _=>true
 | _=>false
noncomputable def isbB:D->Bool
 | .bl _=>true
 | _=>false
theorem zpf(h:Fit n m st d):∃ ty,tyName st d=some ty/\subT ty "tuple"=istB d/\subT ty "str"=issB d/\subT ty "int"=isiB d/\subT ty "bool"=isbB d:=by
 cases h with
 | non=>exact⟨_,rfl,by simp[subT,istB,issB,isiB,isbB]⟩
 | bl b=>exact⟨_,rfl,by simp[subT,istB,issB,isiB,isbB]⟩
 | int x=>exact⟨_,rfl,by simp[subT,istB,issB,isiB,isbB]⟩
 | str z h ok=>exact⟨_,rfl,by simp[subT,istB,issB,isiB,isbB]⟩
 | tup ds h f=>exact⟨_,rfl,by simp[subT,istB,issB,isiB,isbB]⟩
 | lst k xs h h1=>exact⟨_,zlr h,by simp[subT,istB,issB,isiB,isbB]⟩
 | dk k xs h h1=>exact⟨_,zpr h,by simp[subT,istB,issB,isiB,isbB]⟩
theorem zgn{ρ:Rho}{i:Nat}(h:Fit n m st d)(hr:ρ[i]?=some (some d)):mIsi "tuple" (mVar i) ρ st=some (.bl (istB d),st):=by
 obtain⟨ty,e,e1,_⟩:=zpf h;simp[hr,e,e1]
theorem zpn{ρ:Rho}{i:Nat}(h:Fit n m st d)(hr:ρ[i]?=some (some d)):mIsi "str" (mVar i) ρ st=some (.bl (issB d),st):=by
 obtain⟨ty,e,_,e1,_⟩:=zpf h;simp[hr,e,e1]
theorem zoN{ρ:Rho}{i:Nat}(h:Fit n m st d)(hr:ρ[i]?=some (some d)):mIsi "int" (mVar i) ρ st=some (.bl (isiB d),st):=by
 obtain⟨ty,e,_,_,e1,_⟩:=zpf h;simp[hr,e,e1]
theorem zqO{ρ:Rho}{i:Nat}(h:Fit n m st d)(hr:ρ[i]?=some (some d)):mIsi "bool" (mVar i) ρ st=some (.bl (isbB d),st):=by
 obtain⟨ty,e,_,_,_,e1⟩:=zpf h;simp[hr,e,e1]
noncomputable def whB(lo hi:Int):D->Bool
 | .int x=>decide (lo<=x)&&decide (x<=hi)
 | _=>false
theorem zet{lo hi:Int}(h:Fit n m st d):zci [d,.int lo,.int hi] st=some (.bl (whB lo hi d),st):=by
 refine zcS ?_;unfold zfO
 cases h with
 | non=>simp[znn,subT,whB]
 | bl b=>simp[zps,subT,whB]
 | int x _ =>
   unfold whB
   by_cases h1:lo<=x
   . by_cases h2:x<=hi
     . simp[zgi,ty_int,subT,h1,h2]
     . simp[zgi,ty_int,subT,h1,h2]
   . simp[zgi,ty_int,subT,h1]
 | str z h ok=>simp[ty_str,subT,whB]
 | tup ds h f=>simp[zhP,subT,whB]
 | lst k xs h h1=>simp[zlr h,subT,whB]
 | dk k xs h h1=>simp[zpr h,subT,whB]
theorem ze5{lo hi:Int}(h:Fit n m st d):zba [d,.int lo,.int hi] st=some (.bl (whB lo hi d),st):=zet h
noncomputable def tupB(N:Int):D->Bool
 | .tup ds=>(ds.length:Int)==N
 | _=>false
theorem zlw{N:Int}(h:Fit n m st d):zcj [d,.int N] st=some (.bl (tupB N d),st):=by
 refine zcS ?_;unfold zfP
 cases h with
 | non=>simp[znn,subT,tupB]
 | bl b=>simp[zps,subT,tupB]
 | int x _=>simp[ty_int,subT,tupB]
 | str z h ok=>simp[ty_str,subT,tupB]
 | tup ds h f=>simp[zhP,subT,tupB,zdv,eq_int]
 | lst k xs h h1=>simp[zlr h,subT,tupB]
 | dk k xs h h1=>simp[zpr h,subT,tupB]
end
theorem zlk{α:Type}(f:α->Bool):∀ as:List α,zm6 (as.map fun a=>D.bl (f a))=some (as.map f)
 | []=>rfl
 | a::as=>by
   show (zm6 (as.map fun a=>D.bl (f a))).map _=_;rw[zlk f as];rfl
theorem zpd{α:Type}{f:α->Bool}{as:List α}{n:Nat}{st:Sto}(h:st[n]?=some (.lst (as.map fun a=>D.bl (f a)))):allC [.ref n] st=some (.bl (as.all f),st):=by
 unfold allC;simp only[zca,h,Ac,zlk,Ai,List.all_map];rfl
theorem zm9{mi:MI}{b:D->Bool}{as:List D}{fr:List Nat}{m:ME}{ρ0 ρ:Rho}{st:Sto}{gd:List (Nat×List D)}(hw:mi ρ st=some (⟨as,gd⟩,st))(hg:∀ s,Gr st s->walked ⟨as,gd⟩ s=true)(hρ:rho0 ρ 1 fr=none::ρ0)(hl:as.length<=10000)
   (h:∀ a∈as,∀ s,Gr st s->∃ s1,m (some a::ρ0) s=some (.bl (b a),s1)/\Gr s s1) :
   ∃ st',zaG allC (zab (ze4 mi 1 fr (gNm 0) zc6 m) mNil) ρ st=some (.bl (as.all b),st')/\Gr st st':=by
 obtain⟨s1,e,g⟩:=zri (W:=⟨as,gd⟩) (g:=gNm 0) (c:=zc6) (m:=m) (f:=fun x:D=>x) (h:=fun a=>D.bl (b a)) (R:=fun r=>∃ x,r=x::ρ0) (as:=as) (ρ:=none::ρ0) (st:=st) ⟨none,rfl⟩ hg (fun a ha r s hr gs=>by
   obtain⟨x,rfl⟩:=hr;obtain⟨s1,e,g⟩:=h a ha s gs;exact⟨some a::ρ0,s1,rfl,rfl,e,g,_,rfl⟩)
 rw[List.map_id'] at e;have fl:fits (as.map fun a=>D.bl (b a)).length=true:=zaT (by rw[Ag];exact hl);have ec:ze4 mi 1 fr (gNm 0) zc6 m ρ st=some (.ref s1.length,s1++[.lst (as.map fun a=>D.bl (b a))]):=by
   rw[zau,hw];simp only[Ac];rw[hρ,e];simp only[Ac,fl,if_true]
 refine⟨_,?_,g.trans (Gr.app s1 [.lst (as.map fun a=>D.bl (b a))])⟩;simp only[zat,zas,zaL,ec,Ac];exact zpd (za9 s1 _)
theorem ifB{t:MT}{a:MS}{ρ:Rho}{st s1:Sto}{b:Bool}(h:t ρ st=some (b,s1)):mIf t a zcG ρ st=if b=true then a ρ s1 else some (.nx ρ,s1):=by
 simp only[zbH,h,Ac,zaw]
theorem ifT{t:MT}{a:MS}{ρ:Rho}{st s1:Sto}{r:Option (Fl×Sto)}(h:t ρ st=some (true,s1))(k:a ρ s1=r):mIf t a zcG ρ st=r:=by rw[ifB h,if_pos rfl];exact k
theorem ifF{t:MT}{a:MS}{ρ:Rho}{st s1:Sto}(h:t ρ st=some (false,s1)):mIf t a zcG ρ st=some (.nx ρ,s1):=by rw[ifB h,if_neg (by decide)]
theorem tstB{m:ME}{ρ:Rho}{st s1:Sto}{b:Bool}(h:m ρ st=some (.bl b,s1)):mTst m ρ st=some (b,s1):=by simp only[zaQ,h,Ac]
theorem notB{m:ME}{ρ:Rho}{st s1:Sto}{b:Bool}(h:m ρ st=some (.bl b,s1)):zgR (mTst m) ρ st=some (!b,s1):=by simp only[zaz,zaQ,h,Ac,Ai]
theorem orL{a b:MT}{ρ:Rho}{st s1:Sto}(h1:a ρ st=some (true,s1)):mOrT a b ρ st=some (true,s1):=by simp only[zaS,h1,Ac,if_true]
theorem orR{a b:MT}{ρ:Rho}{st s1:Sto}{r:Option (Bool×Sto)}(h1:a ρ st=some (false,s1))(h2:b ρ s1=r):mOrT a b ρ st=r:=by simp only[zaS,h1,Ac,Aq,if_false,h2]
theorem zil{m:ME}{ρ:Rho}{st s:Sto}{d:D}(h:m ρ st=some (d,s)):mRet m ρ st=some (.rt d,s):=by rw[zaR,h];rfl
end L2.MP.stickytiles_k03_standings_or_not
namespace L2.MP.stickytiles_k03_standings_or_not
open PySem L2.MP L2.MP.Hn
noncomputable def slT(ds:List D)(lo hi:Option Int):List D:=if (decide (HT.sIx ds.length 0 lo=0)&&decide (HT.sIx ds.length ds.length hi=ds.length))=true then ds else cutD ds lo hi
theorem zkU{ds:List D}{lo hi:Option Int}{st:Sto}:slC (.tup ds) lo hi st=some (.tup (slT ds lo hi),st):=by
 unfold slC slB slA slD slS slK slW slT
 by_cases h:(decide (HT.sIx ds.length 0 lo=0)&&decide (HT.sIx ds.length ds.length hi=ds.length))=true
 . simp only[h,if_true,zbs]
 . simp only[h,if_false,zbg,Aq]
theorem zfj{ds:List D}{lo hi:Option Int}{d:D}(h:d∈slT ds lo hi):d∈ds:=by
 unfold slT at h
 split at h
 . exact h
 . unfold cutD at h;exact DV (DR h)
theorem zkT{ds:List D}{lo hi:Option Int}:(slT ds lo hi).length<=ds.length:=by
 unfold slT
 split
 . exact Af _
 . unfold cutD;rw[Bm,B6];omega
theorem zlL{ds:List D}{lo hi:Option Int}:slT ds lo hi=cutD ds lo hi:=by
 unfold slT
 split
 . rename_i h;rw[An,decide_eq_true_eq,decide_eq_true_eq] at h;unfold cutD;rw[h.1,h.2,Fu,Nat.sub_zero,DH]
 . rfl
theorem zpF{ds:List D}{r:Int}(h0:0<=r)(h1:r.toNat < ds.length):(slT ds none (some r)).length=r.toNat:=by
 obtain⟨k,rfl⟩:=Do h0;rw[zlL];unfold cutD;rw[show HT.sIx ds.length ds.length (some (k:Int))=min k ds.length from HT.sIx_nat _ _ _,HT.sIx_none,Bm,B6];simp at h1 ⊢;omega
theorem znD{ds:List D}{r:Int}(h0:0<=r)(h1:r.toNat < ds.length):(slT ds (some (r+1)) none).length+r.toNat+1=ds.length:=by
 obtain⟨k,rfl⟩:=Do h0;rw[zlL];unfold cutD;rw[show HT.sIx ds.length 0 (some ((k:Int)+1))=min (k+1) ds.length from HT.sIx_nat _ _ (k+1),HT.sIx_none,Bm,B6];simp at h1 ⊢;omega
theorem zlK{ds:List D}:(slT ds (some (-1)) none).length<=1:=by
 rw[zlL];unfold cutD;rw[HT.sIx_none,Bm,B6];show min _ (ds.length - HT.sIx ds.length 0 (some (-1)))<=1;have:HT.sIx ds.length 0 (some (-1))=((-1:Int)+(ds.length:Int)).toNat:=rfl;omega
theorem znE{z:Str}{lo hi:Option Int}{st:Sto}(h:z.cps.toList.length<=1000):slC (.str z) lo hi st=some (.str (Bs z lo hi),st):=by
 have:fits z.length=true:=zaT (by rw[len_list];omega);unfold slC slB slA slD slS;simp only[this,if_true,zbs,zbg]
theorem zjI{z:Str}{lo hi:Option Int}{c:Nat}(h:c∈(Bs z lo hi).cps.toList):c∈z.cps.toList:=by
 unfold Bs at h
 split at h
 . exact h
 . have h':c∈(Ea lo hi 1 z.length).filterMap (z.cps[·]?):=by simpa using h
   obtain⟨i,_,e⟩:=List.mem_filterMap.mp h';rw[<-Az] at e;exact Bc e
theorem zjJ{z:Str}{lo hi:Option Int}:(Bs z lo hi).cps.toList.length<=z.cps.toList.length:=by
 have:=DO z lo hi;rw[len_list,len_list] at this;exact this
theorem zd7{a b:List D}{st:Sto}(h:a.length+b.length<=10000):addE (.tup a) (.tup b) st=some (.tup (a++b),st):=by
 unfold addE orG
 cases a with
 | nil =>
   have e1:addD (.tup []) (.tup b) st=none:=rfl;have hf:fits b.length=true:=zaT (by simpa using h);rw[e1,zbs];simp[zpp,hf]
 | cons x a=>rw[zg6 (by simp) h,zbg]
theorem zkc{ds:List D}{s:Sto}(h:ds.length<=10000):zmv [.tup ds] s=some (.ref s.length,s++[.lst ds]):=by
 have:fits ds.length=true:=zaT h;simp[zmv,orN,zqD,zqC,this,zbg]
theorem zm8{m:ME}{ml mh:MO}{ρ:Rho}{st:Sto}:mSlC m ml mh ρ st=(m ρ st).bind fun p=>(ml ρ p.2).bind fun q=>(mh ρ q.2).bind fun r=>slC p.1 q.1 r.1 r.2:=rfl
theorem neg1{s:Sto}:negD (.int 1) s=some (.int (-1),s):=rfl
theorem zik{ρ:Rho}{st:Sto}{ds:List D}{i:Nat}(h:ρ[i]?=some (some (.tup ds))):ze2 (mVar i) (mNeg (mCon (.int 1))) ρ st=some (.tup ds.reverse,st):=by
 have e1:mVar i ρ st=some (.tup ds,st):=by simp[h]
 have e2:mNeg (mCon (.int 1)) ρ st=some (.int (-1),st):=rfl;unfold ze2 zpj mRev zpi zph;rw[e1];simp only[Ac,e2];rfl
theorem zl0{ρ:Rho}{st:Sto}{z:Str}{i:Nat}(h:ρ[i]?=some (some (.str z)))(hz:z.cps.toList.length<=1000):ze2 (mVar i) (mNeg (mCon (.int 1))) ρ st=some (.str (revT z),st):=by
 have e1:mVar i ρ st=some (.str z,st):=by simp[h]
 have e2:mNeg (mCon (.int 1)) ρ st=some (.int (-1),st):=rfl;have e3:fits z.length=true:=zaT (by rw[len_list];omega);unfold ze2 zpj mRev zpi zph;rw[e1];simp only[Ac,e2,e3,Ek,decide_true,if_true,zbs,zbg]
def TxA(z:Str)(k:Nat):Prop:=z.cps.toList.length<=k/\∀ c∈z.cps.toList,c < 128
theorem TxA.app{a b:Str}{m k:Nat}(h:TxA a m)(h':TxA b k):TxA (a++b) (m+k):=by
 refine⟨by rw[app_list,AE];have:=h.1;have:=h'.1;omega,fun c hc=>?_⟩;rw[app_list] at hc
 rcases List.mem_append.mp hc with hc | hc
 . exact h.2 c hc
 . exact h'.2 c hc
theorem TxA.sl{z:Str}{m:Nat}{lo hi:Option Int}(h:TxA z m):TxA (Bs z lo hi) m:=⟨AR zjJ h.1,fun c hc=>h.2 c (zjI hc)⟩
theorem TxA.rev{z:Str}{m:Nat}(h:TxA z m):TxA (revT z) m:=by
 have e:(revT z).cps.toList=z.cps.toList.reverse:=by unfold revT;simp
 exact⟨by rw[e,B5];exact h.1,fun c hc=>h.2 c (by rw[e] at hc;exact List.mem_reverse.mp hc)⟩
theorem TxA.up{z:Str}{m:Nat}(h:TxA z m):TxA (CS z) m:=by
 rw[PyProof.Rows.upper_ascii h.2];refine⟨by rw[GQ,Ag];exact h.1,fun c hc=>?_⟩;rw[GQ] at hc;obtain⟨x,hx,rfl⟩:=List.mem_map.mp hc;have:=h.2 x hx;unfold PyProof.Rows.up1
 split <;> omega
theorem zrn{z:Str}{m:Nat}{st:Sto}(h:TxA z m)(hm:m<=1000):upD (.str z) st=some (.str (CS z),st):=by
 unfold upD;have:C0 (CS z).length=false:=by
   have:=h.up.1;rw[len_list];unfold C0;apply decide_eq_false;have hs:sizeLine=16777216:=by decide
   omega
 simp[this]
theorem zk3(k:Nat):(itos (Int.negSucc k)).cps.toList=45::(Nat.toDigits 10 (k+1)).map Char.toNat:=by
 show (A5 ("-"++Nat.repr (k+1))).cps.toList=_;simp[Str.ofString_eq_toList,Nat.repr]
theorem zmB{i:Int}(h:i.natAbs < 10 ^ 40):TxA (itos i) 41:=by
 cases i with
 | ofNat k =>
   have h0:(0:Int)<=Ho k:=Int.natCast_nonneg k;refine⟨?_,fun c hc=>?_⟩
   . rw[ziR h0,Ag];have:=EL (k:=40) (n:=(Ho k).toNat) (by decide) (by simpa using h);omega
   . have:=zmC h0 c hc;omega
 | negSucc k =>
   refine⟨?_,fun c hc=>?_⟩
   . rw[zk3,A6,Ag];have:=EL (k:=40) (n:=k+1) (by decide) (by simpa using h);omega
   . rw[zk3] at hc
     rcases List.mem_cons.mp hc with rfl | hc
     . decide
     . obtain⟨ch,hch,e⟩:=List.mem_map.mp hc;have r:=EK (Ec (by decide) (by decide) hch);omega
theorem zpy{i:Int}{s:Sto}(h:i.natAbs < 10 ^ 40):strC [.int i] s=some (.str (itos i),s):=by
 have:ziL i=true:=by
   unfold ziL;apply decide_eq_true
   by_cases h':i.natAbs=0
   . rw[h'];decide
   . have:i.natAbs.log2 < 200:=(Nat.log2_lt h').mpr (As h (by decide));omega
 unfold strC;simp only[this,if_true];rfl
section
variable {n m:Nat} {st:Sto}
theorem TxA.fit{z:Str}{k:Nat}(h:TxA z k)(hm:k<=50+10*m):Fit n m st (.str z):=.str z (AR h.1 hm) h.2
structure Got(n m:Nat)(st:Sto)(e:D)(st':Sto):Prop where
 fit:Fit n m st' e
 pot:zbE n st'
 fr:Fr n st st'
theorem Got.on{s:Sto}{e:D}{s':Sto}(f:Fr n st s)(h:Got n m s e s'):Got n m st e s':=⟨h.fit,h.pot,f.trans h.fr⟩
theorem zgK{me:ME}{ρ:Rho}{l:Nat}{s1:Sto}{xs:List D}(h0:ρ[0]?=some (some (.ref n)))(hm:me ρ st=some (.ref l,s1))(hp:zbE n s1)(hl:s1[l]?=some (.lst xs))(h1:l≠n)(hN0:0 < xs.length)(hN1:xs.length<=100)(hx:∀ x∈xs,Fit n m s1 x) :
   ∃ e s2,mRet (zaG zaq (zab (mVar 0) (zab me (mNil)))) ρ st=some (.rt e,s2)/\Got n m s1 e s2:=by
 obtain⟨e,s2,e2,he,p2,f2⟩:=of_ok hp hl hN0 (by omega) h1;refine⟨e,s2,zil ?_,⟨(hx e he).fr f2,p2,f2⟩⟩;have e0:mVar 0 ρ st=some (.ref n,st):=by simp[h0]
 simp only[zat,zas,zaL,e0,hm,Ac,e2]
theorem zjd{ρ:Rho}{N:Int}(h0:ρ[0]?=some (some (.ref n)))(hp:zbE n st)(hN0:0 < N)(hN1:N<=100) :
   ∃ b s1,mTst (mBin gtD (zaG zad (zab (mVar 0) (zab (mCon (.int N)) (mNil)))) (mCon (.int 0))) ρ st=some (b,s1)/\zbE n s1/\Fr n st s1:=by
 obtain⟨r,s2,e2,r0,r1,p2,f2,_⟩:=zbt (many:=N) hp hN0 (by omega);exact⟨decide (0 < r),s2,by simp[h0,e2,gtD,cmpD,intD],p2,f2⟩
theorem zlh{ρ:Rho}{N:Int}{i:Nat}(h0:ρ[i]?=some (some (.ref n)))(hp:zbE n st)(hN0:0 < N)(hN1:N<=100) :
   ∃ b s1,mTst (mBin eqD (zaG zad (zab (mVar i) (zab (mCon (.int N)) (mNil)))) (mCon (.int 0))) ρ st=some (b,s1)/\zbE n s1/\Fr n st s1:=by
 obtain⟨r,s2,e2,r0,r1,p2,f2,_⟩:=zbt (many:=N) hp hN0 (by omega);exact⟨r==0,s2,by simp[h0,e2,eq_int],p2,f2⟩
noncomputable def pl0:D->Bool
 | .non=>true
 | .bl _=>true
 | .int i=>decide (i.natAbs<=big 0)
 | .str z=>decide (z.cps.toList.length<=50)&&z.cps.toList.all fun c=>decide (c < 128)
 | _=>false
noncomputable def pl1:D->Bool
 | .tup ds=>decide (ds.length<=20)&&ds.all pl0
 | d=>pl0 d
noncomputable def pl2:D->Bool
 | .tup ds=>decide (ds.length<=20)&&ds.all pl1
 | d=>pl1 d
theorem zk1{d:D}(h:pl0 d=true):Fit n m st d:=by
 cases d with
 | non=>exact .non
 | bl b=>exact .bl b
 | int i=>exact .int i (AR (of_decide_eq_true h) (zo9 (AZ m)))
 | str z =>
   have h':=h;simp only[pl0,An,decide_eq_true_eq,Cu] at h';exact .str z (by omega) h'.2
 | _=>simp[pl0] at h
theorem zk0{d:D}(h:pl1 d=true):Fit n m st d:=by
 cases d with
 | tup ds =>
   simp only[pl1,An,decide_eq_true_eq,Cu] at h;exact .tup ds (by omega) fun d hd=>zk1 (h.2 d hd)
 | _=>exact zk1 h
theorem zkZ{d:D}(h:pl2 d=true):Fit n m st d:=by
 cases d with
 | tup ds =>
   simp only[pl2,An,decide_eq_true_eq,Cu] at h;exact .tup ds (by omega) fun d hd=>zk0 (h.2 d hd)
 | _=>exact zk0 h
noncomputable def odd1:List D:=[.non,.bl true,.bl false,.int 0,.int 1,.int (-1),.int 4,.int 5,.int 12,.int 13,.int 1000000000000000000000000000000,.str "",.str "a",.str "A",.str "-",.str "z9",.str "ab cd",.str "aaaaaaaaa",.str "0",.str "\n"]
noncomputable def odd2(a b c:Nat):List D:=[.str "{",.str "`",.str "/",.str ":",.tup [],.ref a,.ref b,.tup [.int 0],.tup [.int 1,.int 1],.ref c,.tup [.str "a",.int 1],.tup [.str "",.str "",.str "",.str "",.str ""],.tup [.tup []]]
theorem zow:odd1.all pl2=true:=by decide +kernel
theorem zou:([.str "{",.str "`",.str "/",.str ":",.tup [],.tup [.int 0],.tup [.int 1,.int 1],.tup [.str "a",.int 1],.tup [.str "",.str "",.str "",.str "",.str ""],.tup [.tup []]]:List D).all pl2=true:=by decide +kernel
theorem zmj{a b c:Nat}{x:D}(h:x∈odd2 a b c):pl2 x=true\/x=.ref a\/x=.ref b\/x=.ref c:=by
 have e:=List.all_eq_true.mp zou x;simp only[odd2,AN,AH,or_false] at h e
 rcases h with h | h | h | h | h | h | h | h | h | h | h | h | h
 all_goals first
   | exact .inr (.inl h)
   | exact .inr (.inr (.inl h))
   | exact .inr (.inr (.inr h))
   | exact .inl (e (by simp[h]))
theorem zox{ρ:Rho}{s:Sto}:mLst (zab (mCon .non) (zab (mCon (.bl true)) (zab (mCon (.bl false)) (zab (mCon (.int 0)) (zab (mCon (.int 1)) (zab (mNeg (mCon (.int 1))) (zab (mCon (.int 4)) (zab (mCon (.int 5)) (zab (mCon (.int 12)) (zab (mCon (.int 13)) (zab (mBin powB (mCon (.int 10)) (mCon (.int 30))) (zab (mCon (.str "")) (zab (mCon (.str "a")) (zab (mCon (.str "A")) (zab (mCon (.str "-")) (zab (mCon (.str "z9")) (zab (mCon (.str "ab cd")) (zab (mBin mulA (mCon (.str "a")) (mCon (.int 9))) (zab (mCon (.str "0")) (zab (mCon (.str "\n")) (mNil))))))))))))))))))))) ρ s=some (.ref s.length,s++[.lst odd1]):=by
 have e1:powB (.int 10) (.int 30) s=some (.int 1000000000000000000000000000000,s):=rfl;have e2:mulA (.str "a") (.int 9) s=some (.str "aaaaaaaaa",s):=rfl;have e3:fits 20=true:=by decide
 simp[zaP,zas,zaL,e1,e2,neg1,odd1,e3]
theorem zov{ρ:Rho}{s:Sto}:mLst (zab (mCon (.str "{")) (zab (mCon (.str "`")) (zab (mCon (.str "/")) (zab (mCon (.str ":")) (zab (mTup (mNil)) (zab (mLst (mNil)) (zab (zhJ false) (zab (mTup (zab (mCon (.int 0)) (mNil))) (zab (mTup (zab (mCon (.int 1)) (zab (mCon (.int 1)) (mNil)))) (zab (mLst (zab (mCon (.str "a")) (zab (mCon (.int 1)) (mNil)))) (zab (mTup (zab (mCon (.str "a")) (zab (mCon (.int 1)) (mNil)))) (zab (mTup (zab (mCon (.str "")) (zab (mCon (.str "")) (zab (mCon (.str "")) (zab (mCon (.str "")) (zab (mCon (.str "")) (mNil))))))) (zab (mTup (zab (mTup (mNil)) (mNil))) (mNil)))))))))))))) ρ s=some (.ref (s++[O.lst []]++[O.dk []]++[O.lst [.str "a",.int 1]]).length,s++[O.lst []]++[O.dk []]++[O.lst [.str "a",.int 1]]++[O.lst (odd2 s.length (s++[O.lst []]).length (s++[O.lst []]++[O.dk []]).length)]):=rfl
theorem zqw(hp:zbE n st):∃ e st',zce [.ref n] st=some (e,st')/\Got n m st e st':=by
 have g1:=Gr.app st [.lst odd1];have a1:=za9 st (.lst odd1);have i1:=zox (ρ:=[some (.ref n),none]) (s:=st);generalize hs1:st++[O.lst odd1]=s1 at g1 a1 i1;have p1:=hp.gr g1;have g2:=Gr.app s1 [.lst []];have a2:=za9 s1 (.lst []);have i2:=zov (ρ:=[some (.ref n),some (.ref st.length)]) (s:=s1);generalize hs2:s1++[O.lst []]=s2 at g2 a2 i2;have p2:=p1.gr g2;have g3:=Gr.app s2 [.dk []];have a3:=za9 s2 (.dk []);generalize hs3:s2++[O.dk []]=s3 at g3 a3 i2;have p3:=p2.gr g3;have g4:=Gr.app s3 [.lst [.str "a",.int 1]];have a4:=za9 s3 (.lst [.str "a",.int 1]);generalize hs4:s3++[O.lst [.str "a",.int 1]]=s4 at g4 a4 i2;have p4:=p3.gr g4;generalize hL:odd2 s1.length s2.length s3.length=L at i2;have g5:=Gr.app s4 [.lst L];have a5:=za9 s4 (.lst L);generalize hs5:s4++[O.lst L]=s5 at g5 a5 i2;have p5:=p4.gr g5;have g15:=((g2.trans g3).trans g4).trans g5;have b1:s5[st.length]?=some (.lst odd1):=(g15.old _ (getElem?_lt a1)).trans a1;have hLl:L.length=13:=by subst hL;rfl
 have ad:=zeq b1 a5 (by rw[hLl];decide);have g6:=Gr.app s5 [.lst (odd1++L)];have a6:=za9 s5 (.lst (odd1++L));generalize hs6:s5++[O.lst (odd1++L)]=s6 at g6 a6 ad;have p6:=p5.gr g6;have b2:s6[s1.length]?=some (.lst []):=((((g3.trans g4).trans g5).trans g6).old _ (getElem?_lt a2)).trans a2;have b3:s6[s2.length]?=some (.dk []):=(((g4.trans g5).trans g6).old _ (getElem?_lt a3)).trans a3;have b4:s6[s3.length]?=some (.lst [.str "a",.int 1]):=((g5.trans g6).old _ (getElem?_lt a4)).trans a4;obtain⟨e,s7,e7,G⟩:=zgK (m:=m) (me:=mVar 1) (ρ:=[some (.ref n),some (.ref s5.length)]) (st:=s6) rfl rfl p6 a6 (AQ p5.lt) (by rw[AE,hLl];omega) (by rw[AE,hLl];decide) (by
   intro x hx
   rcases List.mem_append.mp hx with hx | hx
   . exact zkZ (List.all_eq_true.mp zow x hx)
   . rw[<-hL] at hx
     rcases zmj hx with h | rfl | rfl | rfl
     . exact zkZ h
     . exact .lst _ _ b2 (AQ p1.lt)
     . exact .dk _ _ b3 (AQ p2.lt)
     . exact .lst _ _ b4 (AQ p3.lt))
 refine⟨e,s7,zcS ?_,G.on ((g1.trans (g15.trans g6)).fr n)⟩;show zdt [some (.ref n),none] st=_;unfold zdt;refine zaH (ρ1:=[some (.ref n),some (.ref st.length)]) (s1:=s1) (by rw[zaK,i1];rfl) ?_;refine zaH (ρ1:=[some (.ref n),some (.ref s5.length)]) (s1:=s6) (by
   have ev:mVar 1 [some (.ref n),some (.ref st.length)] s1=some (.ref st.length,s1):=rfl;rw[zaK,zaN,ev];simp only[Ac,i2,ad]
   rfl) ?_
 exact e7
end
end L2.MP.stickytiles_k03_standings_or_not
namespace L2.MP.stickytiles_k03_standings_or_not
open PySem L2.MP L2.MP.Hn
open L2.MP.Hb (zhP ty_str ty_int)
section
variable {n m:Nat} {st:Sto} {d:D}
theorem zdq{t c:MT}{a:MS}{ρ:Rho}{s1:Sto}(h:t ρ st=some (false,s1)):mIf (zfw t c) a zcG ρ st=some (.nx ρ,s1):=by
 simp only[zbH,zax,h,Ac,Aq,if_false,zaw]
theorem zmH{t c:MT}{a:MS}{ρ:Rho}{s1 s2:Sto}(h:t ρ st=some (true,s1))(hc:c ρ s1=some (false,s2)):mIf (zfw t c) a zcG ρ st=some (.nx ρ,s2):=by
 simp only[zbH,zax,h,hc,Ac,Aq,if_false,if_true,zaw]
theorem zmG{t c:MT}{a:MS}{ρ:Rho}{s1 s2:Sto}{r:Option (Fl×Sto)}(h:t ρ st=some (true,s1))(hc:c ρ s1=some (true,s2))(k:a ρ s2=r):mIf (zfw t c) a zcG ρ st=r:=by
 simp only[zbH,zax,h,hc,Ac,if_true,k]
theorem zoO:isBD d .non st=some (.bl (zoP d),st):=by
 simp only[isBD,orG,isND,zbg]
noncomputable def ro(n:Nat)(d:D)(x:Option D):Rho:=[some (.ref n),some d,x]
theorem s2F{a:MS}{x:Option D}(h:Fit n m st d)(h1:isbB d=false)(h2:zoP d=false):mIf (mOrT (mTst (mIsi "bool" (mVar 1))) (mTst (mBin isBD (mVar 1) (mCon .non)))) a zcG (ro n d x) st=some (.nx (ro n d x),st):=by
 refine ifF (orR (tstB (by rw[zqO h rfl,h1])) (tstB ?_));show isBD d .non st=_;rw[zoO,h2]
theorem zfv{x:Option D}(hp:zbE n st):∃ e st',mRet (zaG zce (zab (mVar 0) (mNil))) (ro n d x) st=some (.rt e,st')/\Got n m st e st':=by
 obtain⟨e,s1,e1,G⟩:=zqw (m:=m) hp;exact⟨e,s1,zil (by simpa[ro] using e1),G⟩
theorem zgV{a b:List D}(ha:∀ d∈a,Fit n m st d)(hb:∀ d∈b,Fit n m st d)(hl:a.length+b.length<=20+5*m):Fit n m st (.tup (a++b)) :=
 .tup _ (by rw[AE];exact hl) fun d hd=>(List.mem_append.mp hd).elim (ha d) (hb d)
theorem zlx{ds:List D}(hp:zbE n st)(h:Fit n m st (.tup ds))(hm:m<=5) :
   ∃ l s1,mAsg (mLst (zab (zaG zmv (zab (mVar 1) (mNil))) (zab (mSlC (mVar 1) (zcn) (zcm (mNeg (mCon (.int 1))))) (zab (mSlC (mVar 1) (zcm (mCon (.int 1))) (zcn)) (zab (mBin addE (mVar 1) (mSlC (mVar 1) (zcm (mNeg (mCon (.int 1)))) (zcn))) (zab (ze2 (mVar 1) (mNeg (mCon (.int 1)))) (zab (mBin addE (mVar 1) (mTup (zab (mCon .non) (mNil)))) (zab (mTup (zab (mVar 1) (mNil))) (mNil))))))))) (gNm 2) (ro n (.tup ds) none) st=some (.nx (ro n (.tup ds) (some (.ref l))),s1)/\∃ e s2,mRet (zaG zaq (zab (mVar 0) (zab (mVar 2) (mNil)))) (ro n (.tup ds) (some (.ref l))) s1=some (.rt e,s2)/\Got n (m+1) st e s2:=by
 have hl:=h.ln;have g2:=Gr.app st [.lst ds];have a2:=za9 st (.lst ds);have e3:=zkc (ds:=ds) (s:=st) (by omega);generalize hs2:st++[O.lst ds]=s2 at g2 a2 e3;have p2:=hp.gr g2;have k1:=zkT (ds:=ds) (lo:=none) (hi:=some (-1));have k2:=zkT (ds:=ds) (lo:=some 1) (hi:=none);have k3:=zlK (ds:=ds);have e1:∀ s,addE (.tup ds) (.tup (slT ds (some (-1)) none)) s=some (.tup (ds++slT ds (some (-1)) none),s):=fun s=>zd7 (by omega);have e2:∀ s,addE (.tup ds) (.tup [.non]) s=some (.tup (ds++[.non]),s):=fun s=>zd7 (by simp;omega);have e4:∀ s,ze2 (mVar 1) (mNeg (mCon (.int 1))) (ro n (.tup ds) none) s=some (.tup ds.reverse,s):=fun s=>zik rfl;generalize hxs:[D.ref st.length,.tup (slT ds none (some (-1))),.tup (slT ds (some 1) none),.tup (ds++slT ds (some (-1)) none),.tup ds.reverse,.tup (ds++[.non]),.tup [.tup ds]]=xs;have g3:=Gr.app s2 [.lst xs];have a3:=za9 s2 (.lst xs);have em:(mLst (zab (zaG zmv (zab (mVar 1) (mNil))) (zab (mSlC (mVar 1) (zcn) (zcm (mNeg (mCon (.int 1))))) (zab (mSlC (mVar 1) (zcm (mCon (.int 1))) (zcn)) (zab (mBin addE (mVar 1) (mSlC (mVar 1) (zcm (mNeg (mCon (.int 1)))) (zcn))) (zab (ze2 (mVar 1) (mNeg (mCon (.int 1)))) (zab (mBin addE (mVar 1) (mTup (zab (mCon .non) (mNil)))) (zab (mTup (zab (mVar 1) (mNil))) (mNil))))))))) (ro n (.tup ds) none) st=some (.ref s2.length,s2++[.lst xs]):=by
   subst hxs;have e4':=e4 s2;unfold ro at *;simp[e3,zm8,zkU,neg1,e1,e2,e4']
 generalize hs3:s2++[O.lst xs]=s3 at g3 a3 em;have p3:=p2.gr g3;have F:=(h.gr (g2.trans g3)).up (BE m);obtain⟨e,s4,e5,G⟩:=zgK (m:=m+1) (me:=mVar 2) (ρ:=ro n (.tup ds) (some (.ref s2.length))) (st:=s3) rfl rfl p3 a3 (AQ p2.lt) (by subst hxs;simp) (by subst hxs;simp) (by
   intro x hx;subst hxs;simp only[AN,AH,or_false] at hx
   rcases hx with rfl | rfl | rfl | rfl | rfl | rfl | rfl
   . exact .lst _ _ ((g3.old _ (getElem?_lt a2)).trans a2) (AQ hp.lt)
   . exact .tup _ (by omega) fun d hd=>F.at d (zfj hd)
   . exact .tup _ (by omega) fun d hd=>F.at d (zfj hd)
   . exact zgV F.at (fun d hd=>F.at d (zfj hd)) (by omega)
   . exact .tup _ (by rw[B5];omega) fun d hd=>F.at d (List.mem_reverse.mp hd)
   . exact zgV F.at (fun d hd=>by rw[List.mem_singleton.mp hd];exact .non) (by simp;omega)
   . exact .tup _ (by simp;omega) fun d hd=>by rw[List.mem_singleton.mp hd];exact F)
 exact⟨s2.length,s3,by rw[zaK,em];rfl,e,s4,e5,G.on ((g2.trans g3).fr n)⟩
theorem zmE{i:Int}(hp:zbE n st)(h:i.natAbs<=big m)(hm:m<=5) :
   ∃ e s2,mRet (zaG zaq (zab (mVar 0) (zab (mLst (zab (mBin addD (mVar 1) (mCon (.int 1))) (zab (mBin subD (mVar 1) (mCon (.int 1))) (zab (mNeg (mVar 1)) (zab (zaG strC (zab (mVar 1) (mNil))) (zab (mBin eqD (mVar 1) (mCon (.int 1))) (zab (mBin addD (mVar 1) (mCon (.int 12))) (zab (mLst (zab (mVar 1) (mNil))) (zab (mBin addD (mVar 1) (mCon (.int 4))) (mNil)))))))))) (mNil)))) (ro n (.int i) none) st=some (.rt e,s2)/\Got n (m+1) st e s2:=by
 have hb:big m<=1000000000000000000000000000500:=by unfold big;omega
 have hb1:big (m+1)=big m+100:=by unfold big;omega
 have h40:i.natAbs < 10 ^ 40:=Cd (AR h hb) (by decide);have es:∀ s,strC [.int i] s=some (.str (itos i),s):=fun s=>zpy h40;have ng:∀ s,negD (.int i) s=some (.int (-i),s):=fun s=>rfl;have g2:=Gr.app st [.lst [.int i]];have a2:=za9 st (.lst [.int i]);generalize hxs:[D.int (i+1),.int (i - 1),.int (-i),.str (itos i),.bl (i==1),.int (i+12),.ref st.length,.int (i+4)]=xs;have em:(mLst (zab (mBin addD (mVar 1) (mCon (.int 1))) (zab (mBin subD (mVar 1) (mCon (.int 1))) (zab (mNeg (mVar 1)) (zab (zaG strC (zab (mVar 1) (mNil))) (zab (mBin eqD (mVar 1) (mCon (.int 1))) (zab (mBin addD (mVar 1) (mCon (.int 12))) (zab (mLst (zab (mVar 1) (mNil))) (zab (mBin addD (mVar 1) (mCon (.int 4))) (mNil)))))))))) (ro n (.int i) none) st=some (.ref (st++[O.lst [.int i]]).length,st++[O.lst [.int i]]++[.lst xs]):=by
   subst hxs;unfold ro;simp[es,ng,eq_int]
 generalize hs2:st++[O.lst [.int i]]=s2 at g2 a2 em;have p2:=hp.gr g2;have g3:=Gr.app s2 [.lst xs];have a3:=za9 s2 (.lst xs);generalize hs3:s2++[O.lst xs]=s3 at g3 a3 em;have p3:=p2.gr g3;obtain⟨e,s4,e5,G⟩:=zgK (m:=m+1) (ρ:=ro n (.int i) none) (st:=st) rfl em p3 a3 (AQ p2.lt) (by subst hxs;simp) (by subst hxs;simp) (by
   intro x hx;subst hxs;simp only[AN,AH,or_false] at hx
   rcases hx with rfl | rfl | rfl | rfl | rfl | rfl | rfl | rfl
   . exact .int _ (by omega)
   . exact .int _ (by omega)
   . exact .int _ (by omega)
   . exact (zmB h40).fit (by omega)
   . exact .bl _
   . exact .int _ (by omega)
   . exact .lst _ _ ((g3.old _ (getElem?_lt a2)).trans a2) (AQ hp.lt)
   . exact .int _ (by omega))
 exact⟨e,s4,e5,G.on ((g2.trans g3).fr n)⟩
theorem zlz{z:Str}(hp:zbE n st)(h:Fit n m st (.str z))(hm:m<=5) :
   ∃ l s1,mAsg (mLst (zab (mBin addD (mVar 1) (mCon (.str "a"))) (zab (mSlC (mVar 1) (zcn) (zcm (mNeg (mCon (.int 1))))) (zab (mUp (mVar 1)) (zab (mBin addD (mVar 1) (mCon (.str " "))) (zab (mBin addD (mVar 1) (mCon (.str "bcdefgh"))) (zab (mLst (zab (mVar 1) (mNil))) (zab (mTup (zab (mVar 1) (mNil))) (zab (ze2 (mVar 1) (mNeg (mCon (.int 1)))) (mNil)))))))))) (gNm 2) (ro n (.str z) none) st=some (.nx (ro n (.str z) (some (.ref l))),s1)/\∃ e s2,mRet (zaG zaq (zab (mVar 0) (zab (mVar 2) (mNil)))) (ro n (.str z) (some (.ref l))) s1=some (.rt e,s2)/\Got n (m+1) st e s2:=by
 have tz:TxA z (50+10*m):=h.tx;have hl:=tz.1;have ta:TxA "a" 1:=⟨by decide,by decide⟩
 have tb:TxA " " 1:=⟨by decide,by decide⟩
 have tc:TxA "bcdefgh" 7:=⟨by decide +kernel,by decide +kernel⟩
 have sl:∀ lo hi s,slC (.str z) lo hi s=some (.str (Bs z lo hi),s):=fun lo hi s=>znE (by omega);have m1:∀ s,addD (.str z) (.str "a") s=some (.str (z++"a"),s):=fun s=>add_str (by rw[len_list,len_list];have:=ta.1;omega);have m2:∀ s,addD (.str z) (.str " ") s=some (.str (z++" "),s):=fun s=>add_str (by rw[len_list,len_list];have:=tb.1;omega);have m3:∀ s,addD (.str z) (.str "bcdefgh") s=some (.str (z++"bcdefgh"),s):=fun s=>add_str (by rw[len_list,len_list];have:=tc.1;omega);have m4:∀ s,mUp (mVar 1) (ro n (.str z) none) s=some (.str (CS z),s):=fun s=>zrn tz (by omega);have m5:∀ s,ze2 (mVar 1) (mNeg (mCon (.int 1))) (ro n (.str z) none) s=some (.str (revT z),s):=fun s=>zl0 rfl (by omega);have u1:=tz.app ta;have u2:=tz.app tb;have u3:=tz.app tc;generalize (z++("a":Str))=za at *;generalize (z++(" ":Str))=zb at *;generalize (z++("bcdefgh":Str))=zc at *;have g2:=Gr.app st [.lst [.str z]];have a2:=za9 st (.lst [.str z]);generalize hxs:[D.str za,.str (Bs z none (some (-1))),.str (CS z),.str zb,.str zc,.ref st.length,.tup [.str z],.str (revT z)]=xs;have em:(mLst (zab (mBin addD (mVar 1) (mCon (.str "a"))) (zab (mSlC (mVar 1) (zcn) (zcm (mNeg (mCon (.int 1))))) (zab (mUp (mVar 1)) (zab (mBin addD (mVar 1) (mCon (.str " "))) (zab (mBin addD (mVar 1) (mCon (.str "bcdefgh"))) (zab (mLst (zab (mVar 1) (mNil))) (zab (mTup (zab (mVar 1) (mNil))) (zab (ze2 (mVar 1) (mNeg (mCon (.int 1)))) (mNil)))))))))) (ro n (.str z) none) st=some (.ref (st++[O.lst [.str z]]).length,st++[O.lst [.str z]]++[.lst xs]):=by
   subst hxs;unfold ro at *;simp[zm8,sl,neg1,m1,m2,m3,m4,m5]
 generalize hs2:st++[O.lst [.str z]]=s2 at g2 a2 em;have p2:=hp.gr g2;have g3:=Gr.app s2 [.lst xs];have a3:=za9 s2 (.lst xs);generalize hs3:s2++[O.lst xs]=s3 at g3 a3 em;have p3:=p2.gr g3;obtain⟨e,s4,e5,G⟩:=zgK (m:=m+1) (me:=mVar 2) (ρ:=ro n (.str z) (some (.ref s2.length))) (st:=s3) rfl rfl p3 a3 (AQ p2.lt) (by subst hxs;simp) (by subst hxs;simp) (by
   intro x hx;subst hxs;simp only[AN,AH,or_false] at hx
   rcases hx with rfl | rfl | rfl | rfl | rfl | rfl | rfl | rfl
   . exact u1.fit (by omega)
   . exact tz.sl.fit (by omega)
   . exact tz.up.fit (by omega)
   . exact u2.fit (by omega)
   . exact u3.fit (by omega)
   . exact .lst _ _ ((g3.old _ (getElem?_lt a2)).trans a2) (AQ hp.lt)
   . exact .tup _ (by simp;omega) fun d hd=>by rw[List.mem_singleton.mp hd];exact tz.fit (by omega)
   . exact tz.rev.fit (by omega))
 exact⟨s2.length,s3,by rw[zaK,em];rfl,e,s4,e5,G.on ((g2.trans g3).fr n)⟩
theorem zjh(hp:zbE n st)(h:Fit n m st d)(hm:m<=5):∃ e st',zbh [.ref n,d] st=some (e,st')/\Got n (m+1) st e st':=by
 have fin:∀ s,zbE n s->Fr n st s->Fit n m s d->(mIf (zfw (mTst (mIsi "tuple" (mVar 1))) (mTst (mBin gtD (zaG zad (zab (mVar 0) (zab (mCon (.int 4)) (mNil)))) (mCon (.int 0))))) (mSeq (mAsg (mLst (zab (zaG zmv (zab (mVar 1) (mNil))) (zab (mSlC (mVar 1) (zcn) (zcm (mNeg (mCon (.int 1))))) (zab (mSlC (mVar 1) (zcm (mCon (.int 1))) (zcn)) (zab (mBin addE (mVar 1) (mSlC (mVar 1) (zcm (mNeg (mCon (.int 1)))) (zcn))) (zab (ze2 (mVar 1) (mNeg (mCon (.int 1)))) (zab (mBin addE (mVar 1) (mTup (zab (mCon .non) (mNil)))) (zab (mTup (zab (mVar 1) (mNil))) (mNil))))))))) (gNm 2)) (mRet (zaG zaq (zab (mVar 0) (zab (mVar 2) (mNil)))))) (zcG)) (ro n d none) st=some (.nx (ro n d none),s)->isbB d=false->zoP d=false->isiB d=false->issB d=false->∃ e st',zbh [.ref n,d] st=some (e,st')/\Got n (m+1) st e st':=by
   intro s ps fs hs hA h1 h2 h3 h4;obtain⟨e,s9,e9,G⟩:=zfv (m:=m+1) (d:=d) (x:=none) ps;refine⟨e,s9,zcS ?_,G.on fs⟩;show zar (ro n d none) st=_;unfold zar;refine zaH hA ?_;refine zaH (s2F hs h1 h2) ?_;refine zaH (zdq (tstB (by rw[zoN hs rfl,h3]))) ?_;refine zaH (zdq (tstB (by rw[zpn hs rfl,h4]))) ?_;exact e9
 have h':=h
 cases h with
 | non =>
   obtain⟨e,s9,e9,G⟩:=zfv (m:=m+1) (d:=.non) (x:=none) hp;refine⟨e,s9,zcS ?_,G⟩;show zar (ro n .non none) st=_;unfold zar;refine zaH (zdq (tstB (by rw[zgn h' rfl];rfl))) ?_;refine zcR (ifT (orR (tstB (by rw[zqO h' rfl];rfl)) (tstB (b:=true) (s1:=st) ?_)) e9);show isBD .non .non st=_;rw[zoO];rfl
 | bl b =>
   obtain⟨e,s9,e9,G⟩:=zfv (m:=m+1) (d:=.bl b) (x:=none) hp;refine⟨e,s9,zcS ?_,G⟩;show zar (ro n (.bl b) none) st=_;unfold zar;refine zaH (zdq (tstB (by rw[zgn h' rfl];rfl))) ?_;exact zcR (ifT (orL (tstB (by rw[zqO h' rfl];rfl))) e9)
 | int i hi =>
   obtain⟨b,s1,ec,p1,f1⟩:=zjd (N:=4) (ρ:=ro n (.int i) none) rfl hp (by decide) (by decide)
   cases b with
   | true =>
     obtain⟨e,s9,e9,G⟩:=zmE p1 hi hm;refine⟨e,s9,zcS ?_,G.on f1⟩;show zar (ro n (.int i) none) st=_;unfold zar;refine zaH (zdq (tstB (by rw[zgn h' rfl];rfl))) ?_;refine zaH (s2F h' rfl rfl) ?_;exact zcR (zmG (tstB (by rw[zoN h' rfl];rfl)) ec e9)
   | false =>
     obtain⟨e,s9,e9,G⟩:=zfv (m:=m+1) (d:=.int i) (x:=none) p1;refine⟨e,s9,zcS ?_,G.on f1⟩;show zar (ro n (.int i) none) st=_;unfold zar;refine zaH (zdq (tstB (by rw[zgn h' rfl];rfl))) ?_;refine zaH (s2F h' rfl rfl) ?_;refine zaH (zmH (tstB (by rw[zoN h' rfl];rfl)) ec) ?_;refine zaH (zdq (tstB (by rw[zpn (h'.fr f1) rfl];rfl))) ?_;exact e9
 | str z hz ok =>
   obtain⟨b,s1,ec,p1,f1⟩:=zjd (N:=4) (ρ:=ro n (.str z) none) rfl hp (by decide) (by decide)
   cases b with
   | true =>
     obtain⟨l,s2,ea,e,s9,e9,G⟩:=zlz p1 (h'.fr f1) hm;refine⟨e,s9,zcS ?_,G.on f1⟩;show zar (ro n (.str z) none) st=_;unfold zar;refine zaH (zdq (tstB (by rw[zgn h' rfl];rfl))) ?_;refine zaH (s2F h' rfl rfl) ?_;refine zaH (zdq (tstB (by rw[zoN h' rfl];rfl))) ?_;exact zcR (zmG (tstB (by rw[zpn h' rfl];rfl)) ec (zaH ea e9))
   | false =>
     obtain⟨e,s9,e9,G⟩:=zfv (m:=m+1) (d:=.str z) (x:=none) p1;refine⟨e,s9,zcS ?_,G.on f1⟩;show zar (ro n (.str z) none) st=_;unfold zar;refine zaH (zdq (tstB (by rw[zgn h' rfl];rfl))) ?_;refine zaH (s2F h' rfl rfl) ?_;refine zaH (zdq (tstB (by rw[zoN h' rfl];rfl))) ?_;refine zaH (zmH (tstB (by rw[zpn h' rfl];rfl)) ec) ?_;exact e9
 | tup ds hl f =>
   obtain⟨b,s1,ec,p1,f1⟩:=zjd (N:=4) (ρ:=ro n (.tup ds) none) rfl hp (by decide) (by decide)
   cases b with
   | true =>
     obtain⟨l,s2,ea,e,s9,e9,G⟩:=zlx p1 (h'.fr f1) hm;refine⟨e,s9,zcS ?_,G.on f1⟩;show zar (ro n (.tup ds) none) st=_;unfold zar;exact zcR (zmG (tstB (by rw[zgn h' rfl];rfl)) ec (zaH ea e9))
   | false=>exact fin s1 p1 f1 (h'.fr f1) (zmH (tstB (by rw[zgn h' rfl];rfl)) ec) rfl rfl rfl rfl
 | lst k xs hk h1=>exact fin st hp (Fr.refl n st) h' (zdq (tstB (by rw[zgn h' rfl];rfl))) rfl rfl rfl rfl
 | dk k xs hk h1=>exact fin st hp (Fr.refl n st) h' (zdq (tstB (by rw[zgn h' rfl];rfl))) rfl rfl rfl rfl
end
end L2.MP.stickytiles_k03_standings_or_not
namespace L2.MP.stickytiles_k03_standings_or_not
open PySem L2.MP L2.MP.Hn
section
variable {n m:Nat} {st:Sto} {d:D}
theorem zhW{f:D->Option PyData}:∀ {ds:List D} {ps:List PyData},toPs f ds=some ps->ps.length=ds.length
 | [],ps,h=>by cases h;rfl
 | d::ds,ps,h=>by
   rw[toPs] at h;obtain⟨p,_,h⟩:=zag h;obtain⟨qs,e,h⟩:=zaj h;subst h;simp[zhW e]
theorem zoU:eqZ (.tup []) (.tup []) st=some (.bl true,st):=rfl
theorem zmR{a:D}{ds:List D}:eqZ (.tup (a::ds)) (.tup []) st=some (.bl false,st):=by
 unfold eqZ orG;have e2:toP 100 st (.tup [])=some (.tuple []):=rfl;unfold eqD
 cases hp:toP 100 st (.tup (a::ds)) with
 | none =>
   rw[Option.bind_none,zbs];rfl
 | some p =>
   rw[toP] at hp;obtain⟨ps,e,h⟩:=zaj hp;subst h;have:=zhW e
   cases ps with
   | nil=>simp at this
   | cons b bs =>
     rw[Ac,e2];rfl
noncomputable def ro4(n:Nat)(d:D)(k:Int)(x:Option D):Rho:=[some (.ref n),some d,some (.int k),x]
theorem zcN{k:Int}{x:Option D}(hp:zbE n st)(h:Fit n m st d)(hm:m<=5):∃ e st',mRet (zaG zbh (zab (mVar 0) (zab (mVar 1) (mNil)))) (ro4 n d k x) st=some (.rt e,st')/\Got n (m+1) st e st':=by
 obtain⟨e,s1,e1,G⟩:=zjh hp h hm;exact⟨e,s1,zil (by simpa[ro4] using e1),G⟩
theorem zgC(hm:m<=5):∀ (k:Nat) (d:D) (j:Nat) (st:Sto),Fit n m st d->k < j->zbE n st->∃ e st',recG 4 zal j [.ref n,d,.int (k:Int)] st=some (e,st')/\Got n (m+1) st e st':=by
 intro k
 induction k with
 | zero =>
   intro d j st h hj hp;obtain⟨i,rfl⟩:∃ i,j=i+1:=⟨j - 1,by omega⟩
   obtain⟨e,s9,e9,G⟩:=zcN (k:=0) (x:=none) hp h hm;refine⟨e,s9,zcS ?_,G⟩;show zal (recG 4 zal i) (ro4 n d 0 none) st=_;generalize recG 4 zal i=g;unfold zal;exact zcR (ifT (orL (tstB (b:=true) (s1:=st) rfl)) e9)
 | succ k ih =>
   intro d j st h hj hp;obtain⟨i,rfl⟩:∃ i,j=i+1:=⟨j - 1,by omega⟩
   have t1:mTst (mBin eqD (mVar 2) (mCon (.int 0))) (ro4 n d ((k+1:Nat):Int) none) st=some (false,st):=by
     refine tstB ?_;show eqD (.int ((k+1:Nat):Int)) (.int 0) st=_;rw[eq_int];have:(((k+1:Nat):Int)==0)=false:=beq_false_of_ne (by omega);rw[this]
   have t2:mTst (mIsi "tuple" (mVar 1)) (ro4 n d ((k+1:Nat):Int) none) st=some (istB d,st):=tstB (zgn h rfl);have t2n:zgR (mTst (mIsi "tuple" (mVar 1))) (ro4 n d ((k+1:Nat):Int) none) st=some (!istB d,st):=notB (zgn h rfl)
   cases hi:istB d with
   | false =>
     rw[hi] at t2n;obtain⟨e,s9,e9,G⟩:=zcN (k:=((k+1:Nat):Int)) (x:=none) hp h hm;refine⟨e,s9,zcS ?_,G⟩;show zal (recG 4 zal i) (ro4 n d ((k+1:Nat):Int) none) st=_;generalize recG 4 zal i=g;unfold zal;exact zcR (ifT (orR t1 (orL t2n)) e9)
   | true =>
     rw[hi] at t2n;obtain⟨ds,rfl⟩:∃ ds,d=.tup ds:=by
       cases d with
       | tup ds=>exact⟨ds,rfl⟩
       | _=>simp[istB] at hi
     cases ds with
     | nil =>
       obtain⟨e,s9,e9,G⟩:=zcN (k:=((k+1:Nat):Int)) (x:=none) hp h hm;refine⟨e,s9,zcS ?_,G⟩;show zal (recG 4 zal i) (ro4 n (.tup []) ((k+1:Nat):Int) none) st=_;generalize recG 4 zal i=g;unfold zal;exact zcR (ifT (orR t1 (orR t2n (orL (tstB (b:=true) (s1:=st) zoU)))) e9)
     | cons a as =>
       have t3:mTst (mBin eqZ (mVar 1) (mTup (mNil))) (ro4 n (.tup (a::as)) ((k+1:Nat):Int) none) st=some (false,st):=tstB (zmR);obtain⟨b,s1,ec,p1,f1⟩:=zlh (N:=5) (i:=0) (ρ:=ro4 n (.tup (a::as)) ((k+1:Nat):Int) none) rfl hp (by decide) (by decide);have h1:=h.fr f1
       cases b with
       | true =>
         obtain⟨e,s9,e9,G⟩:=zcN (k:=((k+1:Nat):Int)) (x:=none) p1 h1 hm;refine⟨e,s9,zcS ?_,G.on f1⟩;show zal (recG 4 zal i) (ro4 n (.tup (a::as)) ((k+1:Nat):Int) none) st=_;generalize recG 4 zal i=g;unfold zal;exact zcR (ifT (orR t1 (orR t2n (orR t3 ec))) e9)
       | false =>
         have hl:=h.ln;have hlp:0 < (a::as).length:=by simp
         generalize a::as=ds at *;obtain⟨r,s2,e2,r0,r1,p2,f2,_⟩:=zbt (many:=(ds.length:Int)) p1 (by omega) (by omega);have hr:r.toNat < ds.length:=by omega
         have hget:ds[r.toNat]?=some ds[r.toNat]:=Am hr;have h2:=h1.fr f2;obtain⟨e,s3,e3,G⟩:=ih ds[r.toNat] i s2 (h2.at _ (B8 hr)) (by omega) p2;have ix:ixA (.tup ds) (.int r) s2=some (ds[r.toNat],s2):=zb8 r0 hget;generalize ds[r.toNat]=dr at e3 ix;have l1:=zpF (ds:=ds) r0 hr;have l2:=znD (ds:=ds) r0 hr;have a1:∀ s,addE (.tup (slT ds none (some r))) (.tup [e]) s=some (.tup (slT ds none (some r)++[e]),s):=fun s=>zd7 (by simp;omega);have a2:∀ s,addD (.tup (slT ds none (some r)++[e])) (.tup (slT ds (some (r+1)) none)) s=some (.tup (slT ds none (some r)++[e]++slT ds (some (r+1)) none),s):=fun s=>zg6 (by simp) (by simp;omega);have hk1:((k+1:Nat):Int) - 1=(k:Int):=by omega
         refine⟨.tup (slT ds none (some r)++[e]++slT ds (some (r+1)) none),s3,zcS ?_,⟨?_,G.pot,(f1.trans f2).trans G.fr⟩⟩
         . show zal (recG 4 zal i) (ro4 n (.tup ds) ((k+1:Nat):Int) none) st=_;generalize recG 4 zal i=g at e3;unfold zal;refine zaH (ifF (orR t1 (orR t2n (orR t3 ec)))) ?_;have el:lenD [.tup ds] s1=some (.int (ds.length:Int),s1):=zdv;refine zaH (ρ1:=ro4 n (.tup ds) ((k+1:Nat):Int) (some (.int r))) (s1:=s2) (by
             have ev:zaG zad (zab (mVar 0) (zab (zaG lenD (zab (mVar 1) (mNil))) (mNil))) (ro4 n (.tup ds) ((k+1:Nat):Int) none) s1=some (.int r,s2):=by
               simp only[ro4,zat,zas,zaL,zaV,List.getElem?_cons_zero,ES,Ac,el,e2]
             rw[zaK,ev]
             rfl) ?_
           generalize ((k+1:Nat):Int)=K at *;simp[ro4,zm8,zkU,ix,e3,a1,a2,hk1]
         . refine .tup _ (by simp;omega) fun d hd=>?_
           rcases List.mem_append.mp hd with hd | hd
           . rcases List.mem_append.mp hd with hd | hd
             . exact ((h2.at d (zfj hd)).fr G.fr).up (BE m)
             . rw[List.mem_singleton.mp hd];exact G.fit
           . exact ((h2.at d (zfj hd)).fr G.fr).up (BE m)
theorem zoS{me:ME}{g:MG}{b:MS}{ρ ρ':Rho}{st st':Sto}{k:Nat}(e:me ρ st=some (.int (k:Int),st))(hk:k<=1000)(el:ze3 ⟨run 0 k,[]⟩ g b (run 0 k) ρ st=some (.nx ρ',st')):mFor (mR1 me) g b ρ st=some (.nx ρ',st'):=by
 rw[zaM,Hd.zpS e hk];exact el
theorem Fit.set{l:Nat}{xs ys:List D}(hl:st[l]?=some (.lst xs))(h:Fit n m st d):Fit n m (st.set l (.lst ys)) d:=by
 have hlt:=getElem?_lt hl
 induction h with
 | non=>exact .non
 | bl b=>exact .bl b
 | int i h=>exact .int i h
 | str z h ok=>exact .str z h ok
 | tup ds h f ih=>exact .tup ds h ih
 | lst k zs h h1 =>
   by_cases e:k=l
   . subst e;exact .lst k ys (by rw[CJ hlt]) h1
   . exact .lst k zs (by rw[AO (fun q=>e q.symm)];exact h) h1
 | dk k zs h h1 =>
   by_cases e:k=l
   . subst e;rw[hl] at h;cases h
   . exact .dk k zs (by rw[AO (fun q=>e q.symm)];exact h) h1
theorem zkn{ho:House}(h:ho.Ok 12):Fit n 0 st ho.d:=by
 have nm:∀ x:Str,NameOk x->Fit n 0 st (.str x):=fun x hx=>.str x (by have:=hx.hi;omega) fun c hc=>by have:=hx.ab c hc;omega
 have sd:∀ x:Str,zfb (ho.sticks.map (·.1)) x->Fit n 0 st (.str x):=fun x hx=>by
   rcases hx with rfl | hx
   . exact .str _ (by decide) (by decide)
   . obtain⟨p,hp,rfl⟩:=List.mem_map.mp hx;exact nm _ (h.names p hp)
 have e0:=h.e0;have e1:=h.e1;have few:=h.few;have k1:=h.k1;have b0:big 0=1000000000000000000000000000000:=by unfold big;omega
 unfold House.d;refine .tup _ (by simp) fun d hd=>?_;simp only[AN,AH,or_false] at hd
 rcases hd with rfl | rfl | rfl
 . exact .int _ (by omega)
 . refine .tup _ (by rw[Ag];omega) fun d hd=>?_;obtain⟨p,hp,rfl⟩:=List.mem_map.mp hd;have:=h.str p hp;refine .tup _ (by simp) fun d hd=>?_;simp only[AN,AH,or_false] at hd
   rcases hd with rfl | rfl
   . exact nm _ (h.names p hp)
   . exact .int _ (by omega)
 . refine .tup _ (by rw[Ag];omega) fun d hd=>?_;obtain⟨q,hq,rfl⟩:=List.mem_map.mp hd;obtain⟨f,a,b,c,dd,rfl,hf,ha,hb,hc,hdd⟩:=h.kind q hq;refine .tup _ (by simp) fun d hd=>?_;simp only[Ar,Cs,AN,AH,or_false] at hd
   rcases hd with rfl | rfl | rfl | rfl | rfl
   . exact .str _ (by have:=hf.len;omega) fun c hc=>by have:=hf.ab c hc;omega
   . exact sd _ ha
   . exact sd _ hb
   . exact sd _ hc
   . exact sd _ hdd
end
noncomputable def zho:List (List Int)->Bool
 | a::b::r=>HT.lexLt a b&&zho (b::r)
 | _=>true
theorem zfx{a b:List Int}(h:HT.lexLt a b=true):HT.lexLt b a=false:=by
 cases c:HT.lexLt b a with
 | false=>rfl
 | true =>
   have t:=zcw a b;unfold tle at t;rw[h,c] at t;cases t
theorem zqB{a b:List Int}(h:HT.lexLt a b=true):tle a b=true:=by
 unfold tle;rw[zfx h];rfl
theorem zrY{a b:List Int}(h:HT.lexLt a b=true):a≠b:=fun e=>by
 subst e;rw[zms] at h;cases h
theorem zre{a b:List Int}(h:tle a b=true)(hn:a≠b):HT.lexLt a b=true:=by
 cases c:HT.lexLt a b with
 | true=>rfl
 | false =>
   refine absurd (zfW h ?_) hn;unfold tle;rw[c];rfl
theorem zrX{a b c:List Int}(h1:HT.lexLt a b=true)(h2:HT.lexLt b c=true):HT.lexLt a c=true :=
 zre (zcb a b c (zqB h1) (zqB h2)) fun e=>by
   subst e;rw[zfx h1] at h2;cases h2
theorem zii:∀ {as:List (List Int)},zho as=true ↔ as.Pairwise fun a b=>HT.lexLt a b=true
 | []=>by simp[zho]
 | [a]=>by simp[zho]
 | a::b::r=>by
   rw[show zho (a::b::r)=(HT.lexLt a b&&zho (b::r)) from rfl,An,zii (as:=b::r)]
   constructor
   . rintro ⟨h1,h2⟩;refine List.pairwise_cons.mpr ⟨fun x hx=>?_,h2⟩
     rcases List.mem_cons.mp hx with rfl | hx
     . exact h1
     . exact zrX h1 ((List.pairwise_cons.mp h2).1 x hx)
   . intro h;have h:=List.pairwise_cons.mp h;exact⟨h.1 b Aj,h.2⟩
theorem zgP{ss:List (List Int)}(nd:ss.Nodup):∀ i,i<=ss.length->met (fun i=>ss.getD i []) i=ss.take i
 | 0,_=>rfl
 | i+1,h=>by
   have hi:i < ss.length:=h;have e:ss.getD i []=ss[i]:=by rw[AD,Am hi];rfl
   have hn:ss[i] ∉ ss.take i:=fun hm=>by
     obtain⟨j,hj,e⟩:=List.mem_iff_getElem.mp hm;rw[Bm] at hj;rw[GA] at e;have:=(GD nd).mp e;omega
   rw[met,zgP nd i (by omega),e,if_neg hn,Gw,Am hi];rfl
theorem zmh{ss:List (List Int)}(nd:ss.Nodup):zix ss=ss:=by
 unfold zix;rw[zgP nd _ (Af _),DH]
theorem zjZ(ss:List (List Int)):(ss=zeC (zix ss)) ↔ zho ss=true:=by
 rw[zii]
 constructor
 . intro e;have p:ss.Perm (zix ss):=by
     conv=>lhs;rw[e]
     exact BA _ _
   have nd:ss.Nodup:=(List.Perm.nodup_iff p).mpr (zdd _ _);have sr:ss.Pairwise fun a b=>tle a b=true:=by
     rw[e];exact Bw (fun a b c=>zcb a b c) zcw _
   exact (List.Pairwise.and sr nd).imp fun h=>zre h.1 h.2
 . intro h;rw[zmh (GB zrY h),zeB (Cq ss) (GB zqB h)]
noncomputable def zfR(w h n:Int):D->Bool
 | .tup [x,y,k]=>whB 0 (w - 1) x&&(whB 0 (h - 1) y&&whB 0 (n - 1) k)
 | _=>false
noncomputable def rowP:D->List Int
 | .tup [.int x,.int y,_]=>[x,y]
 | _=>[]
noncomputable def zhd(w h n:Int):D->Bool
 | .tup ds=>ds.all (zfR w h n)&&zho (ds.map rowP)
 | _=>false
theorem zhL{lo hi:Int}{d:D}(h:whB lo hi d=true):∃ x:Int,d=.int x:=by
 cases d with
 | int x=>exact⟨x,rfl⟩
 | _=>simp[whB] at h
theorem zgy{w h n:Int}{d:D}(e:zfR w h n d=true):∃ x y k:Int,d=.tup [.int x,.int y,.int k]:=by
 unfold zfR at e
 split at e
 . rename_i x y k;rw[An,An] at e;obtain⟨a,rfl⟩:=zhL e.1;obtain⟨b,rfl⟩:=zhL e.2.1;obtain⟨c,rfl⟩:=zhL e.2.2;exact⟨a,b,c,rfl⟩
 . cases e
end L2.MP.stickytiles_k03_standings_or_not
namespace L2.MP.stickytiles_k03_standings_or_not
open PySem L2.MP L2.MP.Hn
open L2.MP.Hb (zhP ty_str ty_int)
noncomputable def prD(p:Int×Int):D:=.tup [.int p.1,.int p.2]
noncomputable def ltP(a b:Int×Int):Bool:=HT.lexLt [a.1,a.2] [b.1,b.2]
noncomputable def zkX(as:List (Int×Int)):Bool:=(as.zip (as.drop 1)).all fun p=>ltP p.1 p.2
theorem zeM:∀ as:List (Int×Int),zkX as=zho (as.map fun p=>[p.1,p.2])
 | []=>rfl
 | [a]=>rfl
 | a::b::r=>by
   have ih:=zeM (b::r);show (ltP a b&&zkX (b::r))=(HT.lexLt [a.1,a.2] [b.1,b.2]&&zho ((b::r).map fun p=>[p.1,p.2]))
   rw[ih];rfl
theorem zmY(ds:List D):cutD ds (some 1) none=ds.drop 1:=by
 unfold cutD;have h1:HT.sIx ds.length 0 (some 1)=min 1 ds.length:=by
   unfold HT.sIx;simp
 have h2:HT.sIx ds.length ds.length none=ds.length:=rfl;rw[h1,h2]
 cases ds with
 | nil=>rfl
 | cons a r =>
   have:min 1 (a::r).length=1:=by simp
   rw[this];simp
theorem zlX{as:List (Int×Int)}{l:Nat}{st:Sto}(hl:st[l]?=some (.lst (as.map prD)))(hn:as.length<=10000):∃ st',zg9 [.ref l] st=some (.bl (zkX as),st')/\Gr st st':=by
 have hll:=getElem?_lt hl;have es:slC (.ref l) (some 1) none st=some (.ref st.length,st++[.lst ((as.drop 1).map prD)]):=by
   have:slD (.ref l) (some 1) none st=some (.ref st.length,st++[.lst ((as.drop 1).map prD)]):=by
     show (zca st l).map _=_;simp only[zca,hl,Ai,zmY];rw[Hu]
   unfold slC slB slA;rw[this,zbg,zbg,zbg]
 have a1:(st++[O.lst ((as.drop 1).map prD)])[l]?=some (.lst (as.map prD)):=by rw[AK hll];exact hl
 have a2:=za9 st (.lst ((as.drop 1).map prD));have g1:=Gr.app st [.lst ((as.drop 1).map prD)];generalize hs1:st++[O.lst ((as.drop 1).map prD)]=s1 at *;have ep:pairD (as.map prD) ((as.drop 1).map prD)=(as.zip (as.drop 1)).map fun p=>D.tup [prD p.1,prD p.2]:=by
   unfold pairD;rw[List.zip_map,Bo];rfl
 have ez:zipW (.ref l) (.ref st.length) s1=some (⟨(as.zip (as.drop 1)).map fun p=>D.tup [prD p.1,prD p.2],[(l,as.map prD),(st.length,(as.drop 1).map prD)]⟩,s1):=by
   unfold zipW;simp only[seqD,zca,a1,a2,Ai,Ac,ep];rfl
 have hw:walked ⟨(as.zip (as.drop 1)).map fun p=>D.tup [prD p.1,prD p.2],[(l,as.map prD),(st.length,(as.drop 1).map prD)]⟩ s1=true:=by
   have w1:=zc7 (ds:=[]) a1;have w2:=zc7 (ds:=[]) a2;unfold walked at w1 w2 ⊢;simp only[DB,Hy,Ek] at w1 w2 ⊢;rw[w1,w2];rfl
 have ec:=zjg (W:=⟨(as.zip (as.drop 1)).map fun p=>D.tup [prD p.1,prD p.2],[(l,as.map prD),(st.length,(as.drop 1).map prD)]⟩) (g:=gTp 2 (gC (gNm 0) (gC (gNm 1) (gN0)))) (c:=zc6) (m:=zdN) (f:=fun p:(Int×Int)×(Int×Int)=>D.tup [prD p.1,prD p.2]) (h:=fun p:(Int×Int)×(Int×Int)=>D.bl (ltP p.1 p.2)) (R:=fun r=>∃ x y,r=[x,y]) (as:=as.zip (as.drop 1)) (ρ:=[none,none]) (st:=s1) ⟨_,_,rfl⟩ hw (fun p hp r hr=>by
   obtain⟨x,y,rfl⟩:=hr;refine⟨[some (prD p.1),some (prD p.2)],rfl,rfl,?_,_,_,rfl⟩;have:ltB (prD p.1) (prD p.2) s1=some (.bl (ltP p.1 p.2),s1):=rfl;unfold zdN;simp[this])
 have fl:fits ((as.zip (as.drop 1)).map fun p=>D.bl (ltP p.1 p.2)).length=true:=zaT (by rw[Ag,Hc];omega);refine⟨_,zcS ?_,g1.trans (Gr.app s1 [.lst ((as.zip (as.drop 1)).map fun p=>D.bl (ltP p.1 p.2))])⟩;have ecm:ze4 (mZip (mVar 0) (mSlC (mVar 0) (zcm (mCon (.int 1))) (zcn))) 2 [] (gTp 2 (gC (gNm 0) (gC (gNm 1) (gN0)))) (zc6) (zdN) [some (.ref l)] st=some (.ref s1.length,s1++[.lst ((as.zip (as.drop 1)).map fun p=>D.bl (ltP p.1 p.2))]):=by
   have ezz:mZip (mVar 0) (mSlC (mVar 0) (zcm (mCon (.int 1))) (zcn)) [some (.ref l)] st=some (⟨(as.zip (as.drop 1)).map fun p=>D.tup [prD p.1,prD p.2],[(l,as.map prD),(st.length,(as.drop 1).map prD)]⟩,s1):=by
     rw[zaU];have e2:mSlC (mVar 0) (zcm (mCon (.int 1))) (zcn) [some (.ref l)] st=some (.ref st.length,s1):=by
       unfold mSlC;simp[es]
     have v0:mVar 0 [some (.ref l)] st=some (.ref l,st):=rfl;rw[v0,Ac,e2,Ac,ez]
   rw[zau,ezz];simp only[Ac];rw[show rho0 [some (.ref l)] 2 []=[none,none] from rfl,ec];simp only[Ac,fl,if_true]
 have ea:=zpd (za9 s1 (.lst ((as.zip (as.drop 1)).map fun p=>D.bl (ltP p.1 p.2))));unfold zln zkX;show mRet _ [some (.ref l)] st=_;rw[zaR];simp only[zat,zas,zaL,ecm,Ac,ea,Ai]
structure BedAt(B:D)(w h:Int)(KN:Nat):Prop where
 fl:∀ s:Sto,ixA B (.int 1) s=some (.tup [.int w,.int h],s)
 kd:∃ (H:D) (ks:List D),(∀ s:Sto,ixA B (.int 0) s=some (H,s))/\(∀ s:Sto,ixA H (.int 2) s=some (.tup ks,s))/\ks.length=KN
theorem tup3{d:D}(h:tupB 3 d=true):∃ x y k,d=.tup [x,y,k]:=by
 cases d with
 | tup ds =>
   have:ds.length=3:=by
     have:=eq_of_beq h;omega
   match ds,this with
   | [x,y,k],_=>exact⟨x,y,k,rfl⟩
 | _=>simp[tupB] at h
theorem zkR{w h n:Int}{d:D}(e:tupB 3 d=false):zfR w h n d=false:=by
 cases hc:zfR w h n d with
 | false=>rfl
 | true =>
   obtain⟨x,y,k,rfl⟩:=zgy hc;simp[tupB] at e
section
variable {n m:Nat} {st:Sto} {d B:D} {w h:Int} {KN:Nat}
theorem zl8{x y:D}(c:BedAt B w h KN)(hx:Fit n m st x)(hy:Fit n m st y):zdj [B,.tup [x,y]] st=some (.bl (whB 0 (w - 1) x&&whB 0 (h - 1) y),st):=by
 have et:zcj [.tup [x,y],.int 2] st=some (.bl true,st):=rfl;have i1:=c.fl st;have j0:ixA (.tup [.int w,.int h]) (.int 0) st=some (.int w,st):=zb8 (by decide) rfl;have j1:ixA (.tup [.int w,.int h]) (.int 1) st=some (.int h,st):=zb8 (by decide) rfl;have x0:ixA (.tup [x,y]) (.int 0) st=some (x,st):=zb8 (by decide) rfl;have x1:ixA (.tup [x,y]) (.int 1) st=some (y,st):=zb8 (by decide) rfl;have w0:=zet (lo:=0) (hi:=w - 1) hx;have w1:=zet (lo:=0) (hi:=h - 1) hy;refine zcS ?_;unfold zfQ;show mSeq _ _ [some B,some (.tup [x,y]),none] st=_;refine zaH (ρ1:=[some B,some (.tup [x,y]),some (.tup [.int w,.int h])]) (s1:=st) (by simp[i1]) ?_;generalize D.tup [x,y]=P at *;generalize D.tup [.int w,.int h]=F at *
 cases hh:whB 0 (w - 1) x with
 | true=>rw[hh] at w0;simp[et,x0,j0,w0,x1,j1,w1]
 | false=>rw[hh] at w0;simp[et,x0,j0,w0]
theorem znq(c:BedAt B w h KN)(hd:Fit n m st d):zdM [B,d] st=some (.bl (zfR w h KN d),st):=by
 obtain⟨H,ks,i0,i2,hl⟩:=c.kd;have et:=zlw (N:=3) hd;have el:lenD [.tup ks] st=some (.int (KN:Int),st):=by rw[zdv,hl]
 have j0:=i0 st;have j2:=i2 st;refine zcS ?_;unfold zha;show mSeq _ _ [some B,some d,none] st=_;refine zaH (ρ1:=[some B,some d,some (.tup ks)]) (s1:=st) (by simp[j0,j2]) ?_
 cases h3:tupB 3 d with
 | false =>
   rw[h3] at et;rw[zkR h3];generalize D.tup ks=KS at *;simp[et]
 | true =>
   rw[h3] at et;obtain⟨x,y,k,rfl⟩:=tup3 h3;have es:∀ ρ:Option D,mSlC (mVar 1) (zcn) (zcm (mCon (.int 2))) [some B,some (.tup [x,y,k]),ρ] st=some (.tup [x,y],st):=fun ρ=>rfl;have ep:=zl8 c (hd.at x (by simp)) (hd.at y (by simp));have x2:ixA (.tup [x,y,k]) (.int 2) st=some (k,st):=zb8 (by decide) rfl;have w1:=zet (lo:=0) (hi:=(KN:Int) - 1) (hd.at k (by simp));show _=some (Fl.rt (.bl (whB 0 (w - 1) x&&(whB 0 (h - 1) y&&whB 0 ((KN:Int) - 1) k))),st);rw[<-Bool.and_assoc];generalize D.tup ks=KS at *;generalize D.tup [x,y,k]=P at *;generalize D.tup [x,y]=P2 at *;generalize mSlC (mVar 1) (zcn) (zcm (mCon (.int 2)))=M1 at *
   cases hh:(whB 0 (w - 1) x&&whB 0 (h - 1) y) with
   | true=>rw[hh] at ep;simp[et,es,ep,x2,el,w1]
   | false=>rw[hh] at ep;simp[et,es,ep]
end
end L2.MP.stickytiles_k03_standings_or_not
namespace L2.MP.stickytiles_k03_standings_or_not
open PySem L2.MP L2.MP.Hn
noncomputable def tD3(t:Tl):D:=.tup [.int t.1,.int t.2.1,.int t.2.2]
theorem zdP{w h n:Int}:∀ {ds:List D},ds.all (zfR w h n)=true->∃ T:List Tl,ds=T.map tD3
 | [],_=>⟨[],rfl⟩
 | d::ds,e=>by
   rw[DB,An] at e;obtain⟨x,y,k,rfl⟩:=zgy e.1;obtain⟨T,rfl⟩:=zdP e.2;exact⟨(x,y,k)::T,rfl⟩
theorem zh1{w h n:Int}{d:D}(e:istB d=false):zhd w h n d=false:=by
 cases d <;> first | rfl | cases e
theorem zfn(T:List Tl):(T.map tD3).map rowP=(T.map fun t=>(t.1,t.2.1)).map fun p=>[p.1,p.2]:=by
 rw[Bo,Bo];rfl
section
variable {n m:Nat} {st:Sto} {d B:D} {w h:Int} {KN:Nat}
theorem zhc(c:BedAt B w h KN)(hd:Fit n m st d)(hm:m<=5):∃ st',zbS [B,d] st=some (.bl (zhd w h KN d),st')/\Gr st st':=by
 have ei:=zgn (ρ:=[some B,some d]) (i:=1) hd rfl
 cases hs:istB d with
 | false =>
   rw[hs] at ei;refine⟨st,zcS ?_,Gr.refl st⟩;unfold zcr;rw[zh1 hs];exact zcR (ifT (orL (notB ei)) rfl)
 | true =>
   rw[hs] at ei
   cases hd with
   | tup ds hl f =>
     obtain⟨s1,ea,g1⟩:=zm9 (mi:=mWA (mVar 1)) (b:=zfR w h KN) (as:=ds) (fr:=[0]) (m:=zcu) (ρ0:=[some B]) (ρ:=[some B,some (.tup ds)]) (st:=st) (gd:=[]) rfl (fun _ _=>rfl) rfl (by omega) (fun x hx s g=>by
       have e1:=znq c ((f x hx).gr g);refine⟨s,?_,Gr.refl s⟩;unfold zcu;simp[e1])
     show ∃ st',zbS [B,.tup ds] st=some (.bl (ds.all (zfR w h KN)&&zho (ds.map rowP)),st')/\Gr st st'
     cases hall:ds.all (zfR w h KN) with
     | false =>
       rw[hall] at ea;refine⟨s1,zcS ?_,g1⟩;unfold zcr;exact zcR (ifT (orR (notB ei) (notB ea)) rfl)
     | true =>
       rw[hall] at ea;obtain⟨T,rfl⟩:=zdP hall;rw[zfn,<-zeM];rw[Ag] at hl;have ec:=zjg (W:=⟨T.map tD3,[]⟩) (g:=gNm 0) (c:=zc6) (m:=zbQ) (f:=tD3) (h:=fun t:Tl=>prD (t.1,t.2.1)) (R:=fun r=>∃ x,r=[x]) (as:=T) (ρ:=[none]) (st:=s1) ⟨_,rfl⟩ rfl (fun p hp r hr=>by
         obtain⟨x,rfl⟩:=hr;exact⟨[some (tD3 p)],rfl,rfl,rfl,_,rfl⟩)
       have fl:fits (T.map fun t:Tl=>prD (t.1,t.2.1)).length=true:=zaT (by rw[Ag];omega);have ecm:ze4 (mWA (mVar 1)) 1 [] (gNm 0) zc6 zbQ [some B,some (.tup (T.map tD3))] s1=some (.ref s1.length,s1++[.lst ((T.map fun t=>(t.1,t.2.1)).map prD)]):=by
         rw[zau];show (mCI _ _ _ _ _ _ _).bind _=_;rw[show rho0 [some B,some (.tup (T.map tD3))] 1 []=[none] from rfl];show (mCI ⟨T.map tD3,[]⟩ (gNm 0) zc6 zbQ (T.map tD3) [none] s1).bind _=_;rw[ec];simp only[Ac,fl,if_true,Bo];rfl
       have b1:=za9 s1 (.lst ((T.map fun t=>(t.1,t.2.1)).map prD));have g2:=Gr.app s1 [.lst ((T.map fun t=>(t.1,t.2.1)).map prD)];generalize s1++[O.lst ((T.map fun t=>(t.1,t.2.1)).map prD)]=s2 at *;obtain⟨s3,e3,g3⟩:=zlX b1 (by rw[Ag];omega);refine⟨s3,zcS ?_,g1.trans (g2.trans g3)⟩;unfold zcr;refine zaH (ρ1:=[some B,some (.tup (T.map tD3))]) (s1:=s1) (ifF (orR (notB ei) (notB ea))) (zil ?_);simp only[zat,zas,zaL,ecm,Ac,e3,FV]
   | _=>cases hs
end
end L2.MP.stickytiles_k03_standings_or_not
namespace L2.MP.stickytiles_k03_standings_or_not
open PySem L2.MP L2.MP.Hn
open L2.MP.Hb (ne_int)
structure HsAt(H:D)(KN:Nat):Prop where
 kd:∃ ks:List D,(∀ s:Sto,ixA H (.int 2) s=some (.tup ks,s))/\ks.length=KN
theorem zly(d:D):(∃ a b c,d=.tup [a,b,c])\/tupB 3 d=false:=by
 cases h:tupB 3 d with
 | false=>exact .inr rfl
 | true=>exact .inl (tup3 h)
section
variable {n m:Nat} {st:Sto} {d H:D} {w h:Int} {KN:Nat}
theorem ziK{P:D}{x4:Option D}(c:HsAt H KN)(hd:Fit n m st d) :
   zbd [some H,some (.tup [.int w,.int h]),some P,some d,x4] st=if zfR w h KN d=true then some (.nx [some H,some (.tup [.int w,.int h]),some P,some d,x4],st) else some (.rt (.bl false),st):=by
 have it:=zgn (ρ:=[some H,some (.tup [.int w,.int h]),some P,some d,x4]) (i:=3) hd rfl;unfold zbd
 cases hs:istB d with
 | false =>
   rw[hs] at it;have:zfR w h KN d=false:=by cases d <;> first | rfl | cases hs
   rw[this];exact zcR (ifT (orL (notB it)) rfl)
 | true =>
   rw[hs] at it
   rcases zly d with ⟨x,y,k,rfl⟩ | h3
   . have x0:ixA (.tup [x,y,k]) (.int 0) st=some (x,st):=zb8 (by decide) rfl;have x1:ixA (.tup [x,y,k]) (.int 1) st=some (y,st):=zb8 (by decide) rfl;have x2:ixA (.tup [x,y,k]) (.int 2) st=some (k,st):=zb8 (by decide) rfl;have j0:ixA (.tup [.int w,.int h]) (.int 0) st=some (.int w,st):=zb8 (by decide) rfl;have j1:ixA (.tup [.int w,.int h]) (.int 1) st=some (.int h,st):=zb8 (by decide) rfl;obtain⟨ks,i2,hl⟩:=c.kd;have i2:=i2 st;have el:lenD [.tup ks] st=some (.int (KN:Int),st):=by rw[zdv,hl]
     have w0:=ze5 (lo:=0) (hi:=w - 1) (hd.at x (by simp));have w1:=ze5 (lo:=0) (hi:=h - 1) (hd.at y (by simp));have w2:=ze5 (lo:=0) (hi:=(KN:Int) - 1) (hd.at k (by simp));have l3:lenD [.tup [x,y,k]] st=some (.int 3,st):=rfl;have ne3:=ne_int 3 3 st;show _=if (whB 0 (w - 1) x&&(whB 0 (h - 1) y&&whB 0 ((KN:Int) - 1) k))=true then _ else _;generalize D.tup ks=KS at *;generalize D.tup [x,y,k]=T at *;generalize D.tup [.int w,.int h]=F at *;have tl:mTst (mBin neD (zaG lenD (zab (mVar 3) mNil)) (mCon (.int 3))) [some H,some F,some P,some T,x4] st=some (false,st):=tstB (b:=false) (by simp[l3,ne3]);have q0:zaG zba (zab (mBin ixA (mVar 3) (mCon (.int 0))) (zab (mCon (.int 0)) (zab (mBin subD (mBin ixA (mVar 1) (mCon (.int 0))) (mCon (.int 1))) (mNil)))) [some H,some F,some P,some T,x4] st=some (.bl (whB 0 (w - 1) x),st):=by simp[x0,j0,w0]
     have q1:zaG zba (zab (mBin ixA (mVar 3) (mCon (.int 1))) (zab (mCon (.int 0)) (zab (mBin subD (mBin ixA (mVar 1) (mCon (.int 1))) (mCon (.int 1))) (mNil)))) [some H,some F,some P,some T,x4] st=some (.bl (whB 0 (h - 1) y),st):=by simp[x1,j1,w1]
     have q2:zaG zba (zab (mBin ixA (mVar 3) (mCon (.int 2))) (zab (mCon (.int 0)) (zab (mBin subD (zaG lenD (zab (mBin ixA (mVar 0) (mCon (.int 2))) (mNil))) (mCon (.int 1))) (mNil)))) [some H,some F,some P,some T,x4] st=some (.bl (whB 0 ((KN:Int) - 1) k),st):=by simp[x2,i2,el,w2]
     generalize whB 0 (w - 1) x=b0 at *;generalize whB 0 (h - 1) y=b1 at *;generalize whB 0 ((KN:Int) - 1) k=b2 at *
     cases b0 with
     | false=>exact zcR (ifT (orR (notB it) (orR tl (notB q0))) rfl)
     | true =>
       refine zaH (ifF (orR (notB it) (orR tl (notB q0)))) ?_
       cases b1 with
       | false=>exact ifT (orL (notB q1)) rfl
       | true =>
         cases b2 with
         | false=>exact ifT (orR (notB q1) (notB q2)) rfl
         | true=>exact ifF (orR (notB q1) (notB q2))
   . cases d with
     | tup ds =>
       have hne:((ds.length:Int)==3)=false:=h3;have ne3:=ne_int (ds.length:Int) 3 st;rw[hne] at ne3;have el:lenD [.tup ds] st=some (.int ds.length,st):=zdv;rw[zkR h3];exact zcR (ifT (orR (notB it) (orL (tstB (b:=true) (by simp[el,ne3])))) rfl)
     | _=>cases hs
theorem zek{W:List D}{P:D}{x4:Option D}(c:HsAt H KN):∀ (ds:List D) (x:Option D),(∀ d∈ds,Fit n m st d) ->
   ∃ x',ze3 ⟨W,[]⟩ (gNm 3) zbd ds [some H,some (.tup [.int w,.int h]),some P,x,x4] st=if ds.all (zfR w h KN)=true then some (.nx [some H,some (.tup [.int w,.int h]),some P,x',x4],st) else some (.rt (.bl false),st)
 | [],x,_=>⟨x,by unfold ze3;rfl⟩
 | d::ds,x,hf=>by
   have e1:=ziK (w:=w) (h:=h) (P:=P) (x4:=x4) c (hf d Aj)
   cases hb:zfR w h KN d with
   | false =>
     rw[hb] at e1;refine⟨x,?_⟩;rw[DB,hb];exact zoG rfl rfl e1
   | true =>
     rw[hb] at e1;obtain⟨x',e2⟩:=zek (W:=W) (P:=P) (x4:=x4) c ds (some d) (fun y hy=>hf y (Ah _ hy));refine⟨x',?_⟩;rw[DB,hb,FV,<-e2];exact zoH rfl rfl e1
noncomputable def prP(p:Int×Int):PyData:=.tuple [.int p.1,.int p.2]
theorem zkP{n:Nat}{st:Sto}:∀ ps:List (Int×Int),toPs (toP (n+2) st) (ps.map prD)=some (ps.map prP)
 | []=>rfl
 | p::ps=>by
   have e:toP (n+2) st (prD p)=some (prP p):=by
     show toP (n+2) st (.tup [.int p.1,.int p.2])=_;rw[toP];simp only[toPs,toP,Ac,Ai];rfl
   rw[Ar,toPs,e,Ac,zkP ps];rfl
theorem zkQ{l:Nat}{ps:List (Int×Int)}(hl:st[l]?=some (.lst (ps.map prD))):toP 100 st (.ref l)=some (.list (ps.map prP)):=by
 rw[toP];simp only[zca,hl,Ac];rw[zkP];rfl
theorem zld:∀ (ss tt:List (Int×Int)),DC (ss.map prP) (tt.map prP)=decide (ss=tt)
 | [],[]=>rfl
 | [],b::tt=>rfl
 | a::ss,[]=>rfl
 | a::ss,b::tt=>by
   rw[Ar,Ar,DC,zld ss tt];have e:BM (prP a) (prP b)=decide (a=b):=by
     unfold prP;rw[BM,DC,DC,DC,BM,BM,CF];obtain⟨a1,a2⟩:=a;obtain⟨b1,b2⟩:=b;simp
   rw[e,CF];simp
theorem zqS{l k:Nat}{ss tt:List (Int×Int)}(hl:st[l]?=some (.lst (ss.map prD)))(hk:st[k]?=some (.lst (tt.map prD))):eqD (.ref l) (.ref k) st=some (.bl (decide (ss=tt)),st):=by
 unfold eqD;rw[zkQ hl,zkQ hk];have:BM (.list (ss.map prP)) (.list (tt.map prP))=decide (ss=tt):=by rw[BM];exact zld ss tt
 simp only[Ac,Ai,this]
noncomputable def rwI(p:Int×Int):List Int:=[p.1,p.2]
theorem zin(ps:List (Int×Int)):ps.map prD=(ps.map rwI).map tupD:=by
 rw[Bo];rfl
theorem znV{a b:List (Int×Int)}(h:a.map rwI=b.map rwI):a=b:=by
 refine List.map_inj_right (f:=rwI) ?_ |>.mp h;rintro ⟨a,b⟩ ⟨c,d⟩ e;unfold rwI at e;simp at e;rw[e.1,e.2]
theorem zhn{ts:List (List Int)}{ps:List (Int×Int)}(h:∀ t∈ts,t∈ps.map rwI):∃ qs:List (Int×Int),ts=qs.map rwI:=by
 refine⟨ts.map fun t=>(t.getD 0 0,t.getD 1 0),?_⟩;rw[Bo];refine (D6 _).symm.trans (Cy fun t ht=>?_);obtain⟨p,_,rfl⟩:=List.mem_map.mp (h t ht);rfl
theorem znC{me:ME}{ρ:Rho}{l:Nat}{ps:List (Int×Int)}(em:me ρ st=some (.ref l,st))(hl:st[l]?=some (.lst (ps.map prD)))(h1:ps.length<=60):∃ qs,zoE me ρ st=some (.ref st.length,st++[.lst (qs.map prD)])/\(ps=qs ↔ zkX ps=true):=by
 have e0:zkX ps=zho (ps.map rwI):=zeM ps
 cases ps with
 | nil =>
   refine⟨[],?_,by simp[zkX]⟩;have e1:znh me ρ st=some (.ref st.length,st++[.lst ((zcf (once [])).map D.str)]):=by
     unfold znh;simp only[em,Ac,zca,hl];rfl
   have e2:zcf (once [])=[]:=by
     have:once []=[]:=rfl;rw[this];unfold zcf;simp
   unfold zoE;rw[e1,e2,zbg];rfl
 | cons p ps =>
   have hmem:∀ t∈zeC (zix ((p::ps).map rwI)),t∈(p::ps).map rwI:=fun t ht=>by
     have h2:t∈zix ((p::ps).map rwI):=(BA _ _).mem_iff.mp ht;unfold zix at h2;obtain⟨j,hj,ej⟩:=(zoC _).mp h2;rw[<-ej,AD,Am hj];exact B8 hj
   obtain⟨qs,hq⟩:=zhn hmem;refine⟨qs,?_,?_⟩
   . have es:znh me ρ st=none:=by
       unfold znh;simp only[em,Ac,zca,hl];rfl
     have hr:rowsOf ((p::ps).map prD)=some ((p::ps).map rwI):=by
       rw[zin];exact zdV fun r hr=>by
         obtain⟨p,_,rfl⟩:=List.mem_map.mp hr;simp[rwI]
     have hlen:((p::ps).map rwI).length < 63:=by rw[Ag];omega
     unfold zoE zqz zh3;rw[es,em];simp only[Ac,zca,hl,hr,decide_eq_true hlen,if_true,hq,zbs];rw[zin]
   . rw[e0,<-zjZ,hq];exact⟨fun e=>by rw[e],fun e=>znV e⟩
theorem zgj(c:HsAt H KN)(hd:Fit n m st d)(hm:m<=5):∃ st',zbc [H,.tup [.int w,.int h],d] st=some (.bl (zhd w h KN d),st')/\Gr st st':=by
 have ei:=zgn (ρ:=[some H,some (.tup [.int w,.int h]),some d,none,none]) (i:=2) hd rfl
 cases hs:istB d with
 | false =>
   rw[hs] at ei;refine⟨st,zcS ?_,Gr.refl st⟩;unfold zbk;rw[zh1 hs];exact zcR (ifT (notB ei) rfl)
 | true =>
   rw[hs] at ei
   cases hd with
   | tup ds hl f =>
     show ∃ st',zbc [H,.tup [.int w,.int h],.tup ds] st=some (.bl (ds.all (zfR w h KN)&&zho (ds.map rowP)),st')/\Gr st st';obtain⟨x',lp⟩:=zek (w:=w) (h:=h) (W:=ds) (P:=.tup ds) (x4:=none) c ds none f;have fr1:∀ (ρ:Rho),ρ[2]?=some (some (.tup ds))->mWA (mVar 2) ρ st=some (⟨ds,[]⟩,st):=fun ρ e=>by
       unfold mWA;simp[e,zlq,zbg]
     have fr:=fr1 [some H,some (.tup [.int w,.int h]),some (.tup ds),none,none] rfl
     cases hall:ds.all (zfR w h KN) with
     | false =>
       rw[hall] at lp;refine⟨st,zcS ?_,Gr.refl st⟩;unfold zbk;refine zaH (ifF (notB ei)) (zcR ?_);rw[zaM]
       erw[fr]
       exact lp
     | true =>
       rw[hall] at lp;obtain⟨T,rfl⟩:=zdP hall;rw[zfn,<-zeM];rw[Ag] at hl;have ec:=zjg (W:=⟨T.map tD3,[]⟩) (g:=gTp 3 (gC (gNm 0) (gC (gNm 1) (gC (gNm 2) (gN0))))) (c:=zc6) (m:=zbr) (f:=tD3) (h:=fun t:Tl=>prD (t.1,t.2.1)) (R:=fun r=>∃ x y z,r=[x,y,z]) (as:=T) (ρ:=[none,none,none]) (st:=st) ⟨_,_,_,rfl⟩ rfl (fun p hp r hr=>by
         obtain⟨x,y,z,rfl⟩:=hr;exact⟨[some (.int p.1),some (.int p.2.1),some (.int p.2.2)],rfl,rfl,rfl,_,_,_,rfl⟩)
       have fl:fits (T.map fun t:Tl=>prD (t.1,t.2.1)).length=true:=zaT (by rw[Ag];omega);have ecm:ze4 (mWA (mVar 2)) 3 [] (gTp 3 (gC (gNm 0) (gC (gNm 1) (gC (gNm 2) (gN0))))) zc6 zbr [some H,some (.tup [.int w,.int h]),some (.tup (T.map tD3)),x',none] st=some (.ref st.length,st++[.lst ((T.map fun t=>(t.1,t.2.1)).map prD)]):=by
         rw[zau,fr1 _ rfl];simp only[Ac];rw[show rho0 [some H,some (.tup [.int w,.int h]),some (.tup (T.map tD3)),x',none] 3 []=[none,none,none] from rfl,ec];simp only[Ac,fl,if_true,Bo];rfl
       have b1:=za9 st (.lst ((T.map fun t=>(t.1,t.2.1)).map prD));have g2:=Gr.app st [.lst ((T.map fun t=>(t.1,t.2.1)).map prD)];generalize st++[O.lst ((T.map fun t=>(t.1,t.2.1)).map prD)]=s2 at *;have hlen:(T.map fun t=>(t.1,t.2.1)).length<=60:=by rw[Ag];omega
       generalize T.map (fun t=>(t.1,t.2.1))=ps at *;obtain⟨qs,es,hq⟩:=znC (me:=mVar 4) (ρ:=[some H,some (.tup [.int w,.int h]),some (.tup (T.map tD3)),x',some (.ref st.length)]) rfl b1 hlen;have b2:(s2++[O.lst (qs.map prD)])[st.length]?=some (.lst (ps.map prD)):=by rw[AK (getElem?_lt b1)];exact b1
       have b3:=za9 s2 (.lst (qs.map prD));have g3:=Gr.app s2 [.lst (qs.map prD)];generalize s2++[O.lst (qs.map prD)]=s3 at *;have eqq:=zqS b2 b3;have hdq:decide (ps=qs)=zkX ps:=by rw[CF,decide_eq_true_iff];exact hq
       rw[hdq] at eqq;refine⟨s3,zcS ?_,g2.trans g3⟩;unfold zbk;refine zaH (ifF (notB ei)) (zaH (ρ1:=[some H,some (.tup [.int w,.int h]),some (.tup (T.map tD3)),x',none]) (s1:=st) ?_ (zaH (ρ1:=[some H,some (.tup [.int w,.int h]),some (.tup (T.map tD3)),x',some (.ref st.length)]) (s1:=s2) ?_ (zil ?_)))
       . rw[zaM]
         erw[fr]
         exact lp
       . rw[zaK,ecm];rfl
       . have v4:mVar 4 [some H,some (.tup [.int w,.int h]),some (.tup (T.map tD3)),x',some (.ref st.length)] s2=some (.ref st.length,s2):=rfl;rw[zaN,v4];simp only[Ac,es,eqq,FV]
   | _=>cases hs
end
end L2.MP.stickytiles_k03_standings_or_not
namespace L2.MP.stickytiles_k03_standings_or_not
open PySem L2.MP L2.MP.Hn
theorem zoz(b:Bool)(st:Sto):neD (.bl b) (.bl b) st=some (.bl false,st):=by cases b <;> rfl
noncomputable def r16(a0 a1:Option D)(n:Nat)(B H F R x y k S:D)(l:Nat)(a12 a13 a14 a15:Option D):Rho:=[a0,a1,some (.ref n),some B,some H,some F,some R,some x,some y,some k,some S,some (.ref l),a12,a13,a14,a15]
section
variable {n l:Nat} {Q B H F R xx yy kk S:D} {a0 a1 a12 a13 a14 a15:Option D}
structure Has(n l:Nat)(R:D)(s:Sto)(k:Nat):Prop where
 pot:zbE n s
 ne:l≠n
 right:Fit n 0 s R
 at_:∃ xs,s[l]?=some (.lst xs)/\xs.length<=k/\∀ x∈xs,Fit n 2 s x
theorem Has.fr{s s':Sto}{k:Nat}(h:Has n l R s k)(p:zbE n s')(f:Fr n s s'):Has n l R s' k:=by
 obtain⟨xs,e,hx,hf⟩:=h.at_;exact⟨p,h.ne,h.right.fr f,xs,(f.old l (getElem?_lt e) h.ne).trans e,hx,fun x hx=>(hf x hx).fr f⟩
theorem Has.add{s:Sto}{k:Nat}{x:D}(h:Has n l R s k)(hk:k<=1000)(hx:Fit n 2 s x):∃ s',zcW (.ref l) [x] s=some (.non,s')/\(∃ xs,s[l]?=some (.lst xs))/\Has n l R s' (k+1):=by
 obtain⟨xs,e,hl,hf⟩:=h.at_;have hlt:=getElem?_lt e;refine⟨s.set l (.lst (xs++[x])),?_,⟨xs,e⟩,?_,h.ne,h.right.set e,xs++[x],by rw[CJ hlt],by simp;omega,fun y hy=>?_⟩
 . unfold zcW;simp only[e];have hs:sizeLine=16777216:=by decide
   rw[if_pos (decide_eq_true (by omega))]
 . obtain⟨a,b,e1,e2⟩:=h.pot;exact⟨a,b,by rw[AO h.ne];exact e1,e2⟩
 . rcases List.mem_append.mp hy with hy | hy
   . exact (hf y hy).set e
   . rw[List.mem_singleton.mp hy];exact hx.set e
theorem zno{s:Sto}{k:Nat}(h:Has n l Q s k)(hk:k<=1000)(hQ:∀ (b12 b13:Option D) (s:Sto),mBin addE (mVar 6) (mSlC (mVar 10) (zcn) (zcm (mCon (.int 1)))) (r16 a0 a1 n B H F R xx yy kk S l b12 b13 a14 a15) s=some (Q,s)):∃ b13 s',zfJ (r16 a0 a1 n B H F R xx yy kk S l a12 a13 a14 a15) s=some (.nx (r16 a0 a1 n B H F R xx yy kk S l a12 b13 a14 a15),s')/\Has n l Q s' (k+1):=by
 obtain⟨r,s1,e1,r0,r1,p1,f1,_⟩:=zbt (many:=3) h.pot (by decide) (by decide);have h1:=h.fr p1 f1;obtain⟨j,hj⟩:∃ j:Nat,1+r=(j:Int):=⟨(1+r).toNat,by omega⟩
 obtain⟨e,s2,e2,G⟩:=zgC (n:=n) (m:=0) (by decide) j Q 12 s1 h1.right (by omega) p1;have e2':zbb [.ref n,Q,.int (1+r)] s1=some (e,s2):=by rw[hj];exact e2
 have h2:=h1.fr G.pot G.fr;have st1:mAsg (zaG zbb (zab (mVar 2) (zab (mBin addE (mVar 6) (mSlC (mVar 10) (zcn) (zcm (mCon (.int 1))))) (zab (mBin addD (mCon (.int 1)) (zaG zad (zab (mVar 2) (zab (mCon (.int 3)) (mNil))))) (mNil))))) (gNm 13) (r16 a0 a1 n B H F R xx yy kk S l a12 a13 a14 a15) s=some (.nx (r16 a0 a1 n B H F R xx yy kk S l a12 (some e) a14 a15),s2):=by
   have q:=hQ a12 a13 s;generalize mBin addE (mVar 6) (mSlC (mVar 10) (zcn) (zcm (mCon (.int 1))))=M at q ⊢;unfold r16 at q ⊢;simp[q,e1,e2']
 obtain⟨b,s3,ec,p3,f3⟩:=zlh (N:=4) (i:=2) (ρ:=r16 a0 a1 n B H F R xx yy kk S l a12 (some e) a14 a15) rfl h2.pot (by decide) (by decide);have h3:=h2.fr p3 f3;have F3:=G.fit.fr f3;have mid:∃ x s4,mIf (mTst (mBin eqD (zaG zad (zab (mVar 2) (zab (mCon (.int 4)) (mNil)))) (mCon (.int 0)))) (mAsg (zaG zbb (zab (mVar 2) (zab (mVar 13) (zab (mBin addD (mCon (.int 1)) (zaG zad (zab (mVar 2) (zab (mCon (.int 3)) (mNil))))) (mNil))))) (gNm 13)) (zcG) (r16 a0 a1 n B H F R xx yy kk S l a12 (some e) a14 a15) s2=some (.nx (r16 a0 a1 n B H F R xx yy kk S l a12 (some x) a14 a15),s4)/\Has n l Q s4 k/\Fit n 2 s4 x:=by
   cases b with
   | false=>exact⟨e,s3,ifF ec,h3,F3.up (by decide)⟩
   | true =>
     obtain⟨q,s4,e4,q0,q1,p4,f4,_⟩:=zbt (many:=3) p3 (by decide) (by decide);have h4:=h3.fr p4 f4;obtain⟨i,hi⟩:∃ i:Nat,1+q=(i:Int):=⟨(1+q).toNat,by omega⟩
     obtain⟨x,s5,e5,G5⟩:=zgC (n:=n) (m:=1) (by decide) i e 12 s4 (F3.fr f4) (by omega) p4;have e5':zbb [.ref n,e,.int (1+q)] s4=some (x,s5):=by rw[hi];exact e5
     exact⟨x,s5,ifT ec (by simp[r16,e4,e5']),h4.fr G5.pot G5.fr,G5.fit⟩
 obtain⟨x,s4,e4,h4,F4⟩:=mid;obtain⟨s5,e5,⟨xs,hx⟩,h5⟩:=h4.add hk F4;refine⟨some x,s5,?_,h5⟩;unfold zfJ;refine zaH st1 ?_;refine zaH e4 ?_;simp[r16,zca,hx,e5]
theorem zlt{s:Sto}{k:Nat}(h:Has n l Q s k)(hk:k<=100)(hQ:∀ (b12 b13:Option D) (s:Sto),mBin addE (mVar 6) (mSlC (mVar 10) (zcn) (zcm (mCon (.int 1)))) (r16 a0 a1 n B H F R xx yy kk S l b12 b13 a14 a15) s=some (Q,s)):∃ b12 b13 s',mFor (mR1 (mCon (.int 14))) (gNm 12) (zfJ) (r16 a0 a1 n B H F R xx yy kk S l a12 a13 a14 a15) s=some (.nx (r16 a0 a1 n B H F R xx yy kk S l b12 b13 a14 a15),s')/\Has n l Q s' (k+14):=by
 have key:=zdY (W:=⟨run 0 14,[]⟩) (g:=gNm 12) (m:=zfJ) (ds:=run 0 14) (ρ:=r16 a0 a1 n B H F R xx yy kk S l a12 a13 a14 a15) (st:=s)
   (Inv:=fun i ρ s'=>∃ x y,ρ=r16 a0 a1 n B H F R xx yy kk S l x y a14 a15/\Has n l Q s' (k+i)/\i<=14) ⟨_,_,rfl,h,by decide⟩ (fun _ _ _ _ _=>rfl) (fun i d ρ s' hd hI=>by
     obtain⟨x,y,rfl,h1,hi⟩:=hI;obtain⟨hi',_⟩:=Hd.znW hd;obtain⟨b6,s2,e2,h2⟩:=zno (a12:=some d) (a13:=y) h1 (by omega) hQ;exact⟨r16 a0 a1 n B H F R xx yy kk S l (some d) y a14 a15,s',_,s2,rfl,e2,_,_,rfl,h2,by omega⟩)
 obtain⟨ρ',s',el,x,y,rfl,h1,_⟩:=key;exact⟨x,y,s',zoS (k:=14) (by simp) (by decide) el,h1⟩
theorem zpa{s:Sto}{k:Nat}{w h:Int}{KN:Nat}(hb:BedAt B w h KN)(hh:HsAt H KN)(hF:F=.tup [.int w,.int h])(hs:Has n l Q s k):∃ b14 b15 s',mFor (mWA (mVar 11)) (gNm 14) (zg8) (r16 a0 a1 n B H F R xx yy kk S l a12 a13 a14 a15) s=some (.nx (r16 a0 a1 n B H F R xx yy kk S l a12 a13 b14 b15),s'):=by
 obtain⟨xs,e,hl,hf⟩:=hs.at_;have key:=zdY (W:=⟨xs,[(l,xs)]⟩) (g:=gNm 14) (m:=zg8) (ds:=xs) (ρ:=r16 a0 a1 n B H F R xx yy kk S l a12 a13 a14 a15) (st:=s)
   (Inv:=fun i ρ s'=>(∃ x y,ρ=r16 a0 a1 n B H F R xx yy kk S l a12 a13 x y)/\Gr s s') ⟨⟨_,_,rfl⟩,Gr.refl s⟩ (fun _ _ _ _ hI=>zc7 ((hI.2.old _ (getElem?_lt e)).trans e)) (fun i d ρ s' hd hI=>by
     obtain⟨⟨x,y,rfl⟩,g⟩:=hI;have F1:=(hf d (Bc hd)).gr g;obtain⟨s1,e1,g1⟩:=zhc hb F1 (by decide);obtain⟨s2,e2,g2⟩:=zgj (w:=w) (h:=h) hh (F1.gr g1) (by decide);rw[<-hF] at e2;refine⟨r16 a0 a1 n B H F R xx yy kk S l a12 a13 (some d) y,s',r16 a0 a1 n B H F R xx yy kk S l a12 a13 (some d) (some (.bl (zhd w h KN d))),s2,rfl,?_,⟨_,_,rfl⟩,(g.trans g1).trans g2⟩;have n1:=zoz (zhd w h KN d) s2;generalize zhd w h KN d=b at *;unfold zg8;refine zaH (ρ1:=r16 a0 a1 n B H F R xx yy kk S l a12 a13 (some d) (some (.bl b))) (s1:=s1) (by simp[r16,e1]) ?_;simp[r16,zps,subT,e2,n1])
 obtain⟨ρ',s',el,⟨x,y,rfl⟩,_⟩:=key;refine⟨x,y,s',?_⟩;have ew:mWA (mVar 11) (r16 a0 a1 n B H F R xx yy kk S l a12 a13 a14 a15) s=some (⟨xs,[(l,xs)]⟩,s):=by
   unfold mWA;simp[r16,zlq,zca,e,zbg]
 rw[zaM,ew];exact el
end
theorem zbq{n m:Nat}{st:Sto}{i:Int}(h0:-1<=i)(h1:i<=1000):Fit n m st (.int i):=.int _ (by unfold big;omega)
theorem zbI{n m:Nat}{st:Sto}{x y k:D}(hx:Fit n m st x)(hy:Fit n m st y)(hk:Fit n m st k):Fit n m st (.tup [x,y,k]):=.tup _ (by simp;omega) fun d hd=>by
 simp only[AN,AH,or_false] at hd
 rcases hd with rfl | rfl | rfl
 . exact hx
 . exact hy
 . exact hk
theorem zcD{n m:Nat}{st:Sto}{x:D}(hx:Fit n m st x):Fit n m st (.tup [x]):=.tup _ (by simp;omega) fun d hd=>by rw[List.mem_singleton.mp hd];exact hx
theorem zhQ{n m:Nat}{st:Sto}{x y:D}(hx:Fit n m st x)(hy:Fit n m st y):Fit n m st (.tup [x,y]):=.tup _ (by simp;omega) fun d hd=>by
 simp only[AN,AH,or_false] at hd
 rcases hd with rfl | rfl
 . exact hx
 . exact hy
theorem zmN{n m:Nat}{st:Sto}{x y z u:D}(hx:Fit n m st x)(hy:Fit n m st y)(hz:Fit n m st z)(hu:Fit n m st u):Fit n m st (.tup [x,y,z,u]):=.tup _ (by simp;omega) fun d hd=>by
 simp only[AN,AH,or_false] at hd
 rcases hd with rfl | rfl | rfl | rfl
 . exact hx
 . exact hy
 . exact hz
 . exact hu
theorem zgB{n:Nat}{st:Sto}{w h kn:Int}{ts:List Tl}(hok:∀ t∈ts,zkJ w h kn t)(hw:w<=12)(hh:h<=12)(hk:kn<=12)(hl:ts.length<=6):Fit n 0 st (zdk ts):=by
 refine .tup _ (by rw[Ag];omega) fun d hd=>?_;obtain⟨t,ht,rfl⟩:=List.mem_map.mp hd;obtain⟨x0,x1,y0,y1,k0,k1⟩:=hok t ht;exact zbI (zbq (by omega) (by omega)) (zbq (by omega) (by omega)) (zbq (by omega) (by omega))
noncomputable def rx(a0 a1:Option D)(n:Nat)(B H F R x y k S:D)(a11 a12 a13 a14 a15:Option D):Rho:=[a0,a1,some (.ref n),some B,some H,some F,some R,some x,some y,some k,some S,a11,a12,a13,a14,a15]
section
variable {n:Nat} {B H:D} {ds:List D} {w h x y kn:Int} {s:Sto} {a0 a1 a11 a12 a13 a14 a15:Option D}
noncomputable def t1(x y:Int):D:=.tup [.int x,.int y,.int 0]
noncomputable def sm(x y kn:Int):D:=.tup [.tup [.int x,.int y,.int 0],.tup [.int x,.int y,.int (kn - 1)]]
noncomputable def X1(ds:List D)(w h x y kn:Int):List D:=[.tup ds,.tup ds.reverse,.tup (ds++ds),sm x y kn,.tup [t1 x y],.tup [.tup [.int w,.int y,.int 0]],.tup [.tup [.int x,.int h,.int 0]]]
noncomputable def X2(x y kn:Int):List D:=[.tup [.tup [.int x,.int y,.int kn]],.tup [.tup [.int (-1),.int y,.int 0]],.tup [.tup [.int x,.int (-1),.int 0]],.tup [.tup [.int x,.int y,.int (-1)]],.tup [.tup [.int x,.int y,.bl true]],.tup [.tup [.int x,.int y]]]
noncomputable def X3(x y:Int)(a b c:Nat)(B:D):List D:=[.tup [.tup [.int x,.int y,.int 0,.int 0]],.ref a,.tup [.ref b],.non,.tup [],.str "standing",.ref c,.tup [.non],B]
theorem zrm(hl:ds.length<=6):(mLst (zab (mVar 6) (zab (ze2 (mVar 6) (mNeg (mCon (.int 1)))) (zab (mBin addE (mVar 6) (mVar 6)) (zab (mVar 10) (zab (mSlC (mVar 10) (zcn) (zcm (mCon (.int 1)))) (zab (mTup (zab (mTup (zab (mBin ixA (mVar 5) (mCon (.int 0))) (zab (mVar 8) (zab (mCon (.int 0)) (mNil))))) (mNil))) (zab (mTup (zab (mTup (zab (mVar 7) (zab (mBin ixA (mVar 5) (mCon (.int 1))) (zab (mCon (.int 0)) (mNil))))) (mNil))) (mNil))))))))) (rx a0 a1 n B H (.tup [.int w,.int h]) (.tup ds) (.int x) (.int y) (.int kn) (sm x y kn) a11 a12 a13 a14 a15) s=some (.ref s.length,s++[.lst (X1 ds w h x y kn)]):=by
 have q1:ze2 (mVar 6) (mNeg (mCon (.int 1))) (rx a0 a1 n B H (.tup [.int w,.int h]) (.tup ds) (.int x) (.int y) (.int kn) (sm x y kn) a11 a12 a13 a14 a15) s=some (.tup ds.reverse,s):=zik rfl;have q2:addE (.tup ds) (.tup ds) s=some (.tup (ds++ds),s):=zd7 (by omega);have q3:mSlC (mVar 10) (zcn) (zcm (mCon (.int 1))) (rx a0 a1 n B H (.tup [.int w,.int h]) (.tup ds) (.int x) (.int y) (.int kn) (sm x y kn) a11 a12 a13 a14 a15) s=some (.tup [t1 x y],s):=rfl;have j0:ixA (.tup [.int w,.int h]) (.int 0) s=some (.int w,s):=zb8 (by decide) rfl;have j1:ixA (.tup [.int w,.int h]) (.int 1) s=some (.int h,s):=zb8 (by decide) rfl;unfold X1;generalize sm x y kn=S at *;generalize D.tup [.int w,.int h]=F at *;generalize ze2 (mVar 6) (mNeg (mCon (.int 1)))=M at *;generalize mSlC (mVar 10) (zcn) (zcm (mCon (.int 1)))=N at *;generalize D.tup (ds++ds)=RR at *;generalize D.tup ds.reverse=RV at *;generalize D.tup ds=R at *;unfold rx at *;simp[q1,q2,q3,j0,j1]
theorem zrl{F R S:D}:(mLst (zab (mTup (zab (mTup (zab (mVar 7) (zab (mVar 8) (zab (mVar 9) (mNil))))) (mNil))) (zab (mTup (zab (mTup (zab (mNeg (mCon (.int 1))) (zab (mVar 8) (zab (mCon (.int 0)) (mNil))))) (mNil))) (zab (mTup (zab (mTup (zab (mVar 7) (zab (mNeg (mCon (.int 1))) (zab (mCon (.int 0)) (mNil))))) (mNil))) (zab (mTup (zab (mTup (zab (mVar 7) (zab (mVar 8) (zab (mNeg (mCon (.int 1))) (mNil))))) (mNil))) (zab (mTup (zab (mTup (zab (mVar 7) (zab (mVar 8) (zab (mCon (.bl true)) (mNil))))) (mNil))) (zab (mTup (zab (mTup (zab (mVar 7) (zab (mVar 8) (mNil)))) (mNil))) (mNil)))))))) (rx a0 a1 n B H F R (.int x) (.int y) (.int kn) S a11 a12 a13 a14 a15) s=some (.ref s.length,s++[.lst (X2 x y kn)]):=by
 unfold X2 rx;simp[neg1]
theorem zrk{F R S K:D}:∃ a b c s',(mLst (zab (mTup (zab (mTup (zab (mVar 7) (zab (mVar 8) (zab (mCon (.int 0)) (zab (mCon (.int 0)) (mNil)))))) (mNil))) (zab (mLst (zab (mTup (zab (mVar 7) (zab (mVar 8) (zab (mCon (.int 0)) (mNil))))) (mNil))) (zab (mTup (zab (mLst (zab (mVar 7) (zab (mVar 8) (zab (mCon (.int 0)) (mNil))))) (mNil))) (zab (mCon .non) (zab (mTup (mNil)) (zab (mCon (.str "standing")) (zab (zhJ false) (zab (mTup (zab (mCon .non) (mNil))) (zab (mVar 3) (mNil))))))))))) (rx a0 a1 n B H F R (.int x) (.int y) K S a11 a12 a13 a14 a15) s=some (.ref s'.length,s'++[.lst (X3 x y a b c B)])/\Gr s s'/\(∃ xs,s'[a]?=some (.lst xs))/\(∃ xs,s'[b]?=some (.lst xs))/\s'[c]?=some (.dk [])/\s.length<=a/\s.length<=b/\s.length<=c:=by
 have g1:=Gr.app s [.lst [t1 x y]];have at1:=za9 s (.lst [t1 x y]);generalize hs1:s++[O.lst [t1 x y]]=s1 at g1 at1;have g2:=Gr.app s1 [.lst [.int x,.int y,.int 0]];have at2:=za9 s1 (.lst [.int x,.int y,.int 0]);generalize hs2:s1++[O.lst [.int x,.int y,.int 0]]=s2 at g2 at2;have i3:∀ ρ,zhJ false ρ s2=some (.ref s2.length,s2++[.dk []]):=fun ρ=>rfl;have g3:=Gr.app s2 [.dk []];have at3:=za9 s2 (.dk []);generalize hs3:s2++[O.dk []]=s3 at g3 at3 i3;refine⟨s.length,s1.length,s2.length,s3,?_,(g1.trans g2).trans g3,⟨_,((g2.trans g3).old _ (getElem?_lt at1)).trans at1⟩,⟨_,(g3.old _ (getElem?_lt at2)).trans at2⟩,at3,Af _,g1.len,(g1.trans g2).len⟩;have f9:fits 9=true:=by decide
 have i1:mLst (zab (mTup (zab (mVar 7) (zab (mVar 8) (zab (mCon (.int 0)) (mNil))))) (mNil)) (rx a0 a1 n B H F R (.int x) (.int y) K S a11 a12 a13 a14 a15) s=some (.ref s.length,s1):=by
   unfold t1 at hs1;unfold rx;simp[hs1]
 have i2:mLst (zab (mVar 7) (zab (mVar 8) (zab (mCon (.int 0)) (mNil)))) (rx a0 a1 n B H F R (.int x) (.int y) K S a11 a12 a13 a14 a15) s1=some (.ref s1.length,s2):=by
   unfold rx;simp[hs2]
 unfold X3;generalize mLst (zab (mTup (zab (mVar 7) (zab (mVar 8) (zab (mCon (.int 0)) (mNil))))) (mNil))=M1 at i1 ⊢;generalize mLst (zab (mVar 7) (zab (mVar 8) (zab (mCon (.int 0)) (mNil))))=M2 at i2 ⊢;generalize zhJ false=M3 at i3 ⊢;unfold rx at *;simp[i1,i2,i3,f9]
theorem zjB(hp:zbE n s)(hR:Fit n 0 s (.tup ds))(hl:ds.length<=6)(hB:Fit n 0 s B)(hQ:Fit n 0 s (.tup (ds++[t1 x y])))(w0:0<=w)(w1:w<=12)(h0:0<=h)(h1:h<=12)(x0:0<=x)(x1:x<=12)(y0:0<=y)(y1:y<=12)(k0:0<=kn)(k1:kn<=12) :
   ∃ l s',(∀ C,mSeq (mAsg (mLst (zab (mVar 6) (zab (ze2 (mVar 6) (mNeg (mCon (.int 1)))) (zab (mBin addE (mVar 6) (mVar 6)) (zab (mVar 10) (zab (mSlC (mVar 10) (zcn) (zcm (mCon (.int 1)))) (zab (mTup (zab (mTup (zab (mBin ixA (mVar 5) (mCon (.int 0))) (zab (mVar 8) (zab (mCon (.int 0)) (mNil))))) (mNil))) (zab (mTup (zab (mTup (zab (mVar 7) (zab (mBin ixA (mVar 5) (mCon (.int 1))) (zab (mCon (.int 0)) (mNil))))) (mNil))) (mNil))))))))) (gNm 11)) (mSeq (mAsg (mBin addD (mVar 11) (mLst (zab (mTup (zab (mTup (zab (mVar 7) (zab (mVar 8) (zab (mVar 9) (mNil))))) (mNil))) (zab (mTup (zab (mTup (zab (mNeg (mCon (.int 1))) (zab (mVar 8) (zab (mCon (.int 0)) (mNil))))) (mNil))) (zab (mTup (zab (mTup (zab (mVar 7) (zab (mNeg (mCon (.int 1))) (zab (mCon (.int 0)) (mNil))))) (mNil))) (zab (mTup (zab (mTup (zab (mVar 7) (zab (mVar 8) (zab (mNeg (mCon (.int 1))) (mNil))))) (mNil))) (zab (mTup (zab (mTup (zab (mVar 7) (zab (mVar 8) (zab (mCon (.bl true)) (mNil))))) (mNil))) (zab (mTup (zab (mTup (zab (mVar 7) (zab (mVar 8) (mNil)))) (mNil))) (mNil))))))))) (gNm 11)) (mSeq (mAsg (mBin addD (mVar 11) (mLst (zab (mTup (zab (mTup (zab (mVar 7) (zab (mVar 8) (zab (mCon (.int 0)) (zab (mCon (.int 0)) (mNil)))))) (mNil))) (zab (mLst (zab (mTup (zab (mVar 7) (zab (mVar 8) (zab (mCon (.int 0)) (mNil))))) (mNil))) (zab (mTup (zab (mLst (zab (mVar 7) (zab (mVar 8) (zab (mCon (.int 0)) (mNil))))) (mNil))) (zab (mCon .non) (zab (mTup (mNil)) (zab (mCon (.str "standing")) (zab (zhJ false) (zab (mTup (zab (mCon .non) (mNil))) (zab (mVar 3) (mNil)))))))))))) (gNm 11)) C)) (rx a0 a1 n B H (.tup [.int w,.int h]) (.tup ds) (.int x) (.int y) (.int kn) (sm x y kn) a11 a12 a13 a14 a15) s=C (r16 a0 a1 n B H (.tup [.int w,.int h]) (.tup ds) (.int x) (.int y) (.int kn) (sm x y kn) l a12 a13 a14 a15) s')/\Has n l (.tup (ds++[t1 x y])) s' 22:=by
 have e1:∀ b11,_:=fun b11=>zrm (n:=n) (B:=B) (H:=H) (ds:=ds) (w:=w) (h:=h) (x:=x) (y:=y) (kn:=kn) (s:=s) (a0:=a0) (a1:=a1) (a11:=b11) (a12:=a12) (a13:=a13) (a14:=a14) (a15:=a15) hl;have hX1:∀ {m:Nat} {t:Sto},Gr s t->∀ z∈X1 ds w h x y kn,Fit n m t z:=by
   intro m t g z hz;have ix:Fit n m t (.int x):=zbq (by omega) (by omega);have iy:Fit n m t (.int y):=zbq (by omega) (by omega);have ik:Fit n m t (.int (kn - 1)):=zbq (by omega) (by omega);have i0:Fit n m t (.int 0):=zbq (by omega) (by omega);have iw:Fit n m t (.int w):=zbq (by omega) (by omega);have ih:Fit n m t (.int h):=zbq (by omega) (by omega);have F:Fit n m t (.tup ds):=(hR.gr g).up (AZ m);unfold X1 at hz;simp only[AN,AH,or_false] at hz
   rcases hz with rfl | rfl | rfl | rfl | rfl | rfl | rfl
   . exact F
   . exact .tup _ (by rw[B5];omega) fun d hd=>F.at d (List.mem_reverse.mp hd)
   . exact zgV F.at F.at (by omega)
   . exact zhQ (zbI ix iy i0) (zbI ix iy ik)
   . exact zcD (zbI ix iy i0)
   . exact zcD (zbI iw iy i0)
   . exact zcD (zbI ix ih i0)
 have hX2:∀ {m:Nat} {t:Sto},∀ z∈X2 x y kn,Fit n m t z:=by
   intro m t z hz;have ix:Fit n m t (.int x):=zbq (by omega) (by omega);have iy:Fit n m t (.int y):=zbq (by omega) (by omega);have ik:Fit n m t (.int kn):=zbq (by omega) (by omega);have i0:Fit n m t (.int 0):=zbq (by omega) (by omega);have im:Fit n m t (.int (-1)):=zbq (by omega) (by omega);unfold X2 at hz;simp only[AN,AH,or_false] at hz
   rcases hz with rfl | rfl | rfl | rfl | rfl | rfl
   . exact zcD (zbI ix iy ik)
   . exact zcD (zbI im iy i0)
   . exact zcD (zbI ix im i0)
   . exact zcD (zbI ix iy im)
   . exact zcD (zbI ix iy (.bl _))
   . exact zcD (zhQ ix iy)
 have g1:=Gr.app s [.lst (X1 ds w h x y kn)];have at1:=za9 s (.lst (X1 ds w h x y kn));have l1:(X1 ds w h x y kn).length=7:=rfl;have l2:(X2 x y kn).length=6:=rfl;generalize X1 ds w h x y kn=Y1 at *;generalize hs1:s++[O.lst Y1]=s1 at *;have e2:∀ b11,_:=fun b11=>zrl (n:=n) (B:=B) (H:=H) (x:=x) (y:=y) (kn:=kn) (s:=s1) (F:=.tup [.int w,.int h]) (R:=.tup ds) (S:=sm x y kn) (a0:=a0) (a1:=a1) (a11:=b11) (a12:=a12) (a13:=a13) (a14:=a14) (a15:=a15);generalize X2 x y kn=Y2 at *;have g2:=Gr.app s1 [.lst Y2];have at2:=za9 s1 (.lst Y2);generalize hs2:s1++[O.lst Y2]=s2 at *;have b1:=(g2.old _ (getElem?_lt at1)).trans at1;have ad2:=zeq b1 at2 (by omega);have g3:=Gr.app s2 [.lst (Y1++Y2)];have at3:=za9 s2 (.lst (Y1++Y2));generalize hs3:s2++[O.lst (Y1++Y2)]=s3 at *;obtain⟨a,b,c,s4,e4,g4,⟨xa,ha⟩,⟨xb,hb⟩,hc,la,lb,lc⟩:=zrk (n:=n) (B:=B) (H:=H) (x:=x) (y:=y) (K:=.int kn) (s:=s3) (F:=.tup [.int w,.int h]) (R:=.tup ds) (S:=sm x y kn) (a0:=a0) (a1:=a1) (a11:=some (.ref s2.length)) (a12:=a12) (a13:=a13) (a14:=a14) (a15:=a15);have g5:=Gr.app s4 [.lst (X3 x y a b c B)];have at5:=za9 s4 (.lst (X3 x y a b c B));have l3:(X3 x y a b c B).length=9:=rfl;have p3:=((hp.gr g1).gr g2).gr g3;have G3:=(g1.trans g2).trans g3;have hX3:∀ {m:Nat} {t:Sto},Gr s4 t->∀ z∈X3 x y a b c B,Fit n m t z:=by
   intro m t g z hz;have ix:Fit n m t (.int x):=zbq (by omega) (by omega);have iy:Fit n m t (.int y):=zbq (by omega) (by omega);have i0:Fit n m t (.int 0):=zbq (by omega) (by omega);have hlt:=p3.lt;unfold X3 at hz;simp only[AN,AH,or_false] at hz
   rcases hz with rfl | rfl | rfl | rfl | rfl | rfl | rfl | rfl | rfl
   . exact zcD (zmN ix iy i0 i0)
   . exact .lst _ _ ((g.old _ (getElem?_lt ha)).trans ha) (by omega)
   . exact zcD (.lst _ _ ((g.old _ (getElem?_lt hb)).trans hb) (by omega))
   . exact .non
   . exact .tup _ (by simp) (by simp)
   . exact .str _ (AR (by decide:_<=50) (by omega)) (by decide)
   . exact .dk _ _ ((g.old _ (getElem?_lt hc)).trans hc) (by omega)
   . exact zcD .non
   . exact (hB.gr (G3.trans (g4.trans g))).up (AZ m)
 generalize X3 x y a b c B=Y3 at *;generalize hs5:s4++[O.lst Y3]=s5 at *;have b3:=((g4.trans g5).old _ (getElem?_lt at3)).trans at3;have ad3:=zeq b3 at5 (by rw[AE];omega);have g6:=Gr.app s5 [.lst (Y1++Y2++Y3)];have at6:=za9 s5 (.lst (Y1++Y2++Y3));generalize hs6:s5++[O.lst (Y1++Y2++Y3)]=s6 at *;have p5:=(p3.gr g4).gr g5;have G:=G3.trans ((g4.trans g5).trans g6);refine⟨s5.length,s6,fun C=>?_,p5.gr g6,AQ p5.lt,hQ.gr G,_,at6,by rw[AE,AE,l1,l2,l3];decide,fun z hz=>?_⟩
 . refine zaH (ρ1:=rx a0 a1 n B H (.tup [.int w,.int h]) (.tup ds) (.int x) (.int y) (.int kn) (sm x y kn) (some (.ref s.length)) a12 a13 a14 a15) (s1:=s1) (by rw[zaK,e1];rfl) ?_;refine zaH (ρ1:=rx a0 a1 n B H (.tup [.int w,.int h]) (.tup ds) (.int x) (.int y) (.int kn) (sm x y kn) (some (.ref s2.length)) a12 a13 a14 a15) (s1:=s3) ?_ ?_
   . have ev:mVar 11 (rx a0 a1 n B H (.tup [.int w,.int h]) (.tup ds) (.int x) (.int y) (.int kn) (sm x y kn) (some (.ref s.length)) a12 a13 a14 a15) s1=some (.ref s.length,s1):=rfl;rw[zaK,zaN,ev];simp only[Ac,e2,ad2];rfl
   refine zaH (ρ1:=r16 a0 a1 n B H (.tup [.int w,.int h]) (.tup ds) (.int x) (.int y) (.int kn) (sm x y kn) s5.length a12 a13 a14 a15) (s1:=s6) ?_ rfl
   . have ev:mVar 11 (rx a0 a1 n B H (.tup [.int w,.int h]) (.tup ds) (.int x) (.int y) (.int kn) (sm x y kn) (some (.ref s2.length)) a12 a13 a14 a15) s3=some (.ref s2.length,s3):=rfl;rw[zaK,zaN,ev];simp only[Ac,e4,ad3];rfl
 . rcases List.mem_append.mp hz with hz | hz
   . rcases List.mem_append.mp hz with hz | hz
     . exact hX1 G z hz
     . exact hX2 z hz
   . exact hX3 (g5.trans g6) z hz
end
theorem zlW{ns:List Int}{k:Int}{s:Sto}{a2 a3 a4 a5 a6 a7 a8 a9 a10 a11 a12 a13 a14 a15:Option D}(h0:0<=k)(h1:k < 1000):∃ b2 b3 b4 b5 b6 b7 b8 b9 b10 b11 b12 b13 b14 b15 s',zg7 [some (.kl (ns.map D.int)),some (.int k),a2,a3,a4,a5,a6,a7,a8,a9,a10,a11,a12,a13,a14,a15] s=some (.nx [some (.kl (ns.map D.int)),some (.int k),b2,b3,b4,b5,b6,b7,b8,b9,b10,b11,b12,b13,b14,b15],s'):=by
 obtain⟨s1,e1,p1,g1⟩:=zp7 (ns:=ns) (k:=k) (st:=s) h0 h1;generalize s.length=n at *;obtain⟨b,s2,e2,bok,p2,f2⟩:=zqZ (most:=6) p1 (by decide) (by decide);obtain⟨hok,w0,w1,hh0,hh1,tsok,tl⟩:=bok;have k0:=hok.k0;have k1:=hok.k1;have hok':b.ho.Ok 12:=⟨hok.e0,hok.e1,hok.names,hok.srt,hok.nd,hok.str,hok.few,hok.kind,hok.k0,Da hok.k1 (by decide)⟩
 obtain⟨ts,s3,e3,t3,l3,p3,f3⟩:=zef (w:=b.w) (h:=b.h) (most:=6) (a:=.int b.ho.e) (b:=.tup (b.ho.sticks.map zcx)) (ks:=b.ho.kinds.map zdC) p2 (by omega) (by omega) (by omega) (by omega) (by simpa using k0) (by rw[Ag];omega) (by omega) (by omega);rw[Ag] at t3;obtain⟨x,s4,e4,x0,x1,p4,f4,_⟩:=zbt (many:=b.w) p3 (by omega) (by omega);obtain⟨y,s5,e5,y0,y1,p5,f5,_⟩:=zbt (many:=b.h) p4 (by omega) (by omega);have FH:Fit n 0 s5 b.ho.d:=zkn hok';have FB:Fit n 0 s5 b.d:=zbI FH (zhQ (zbq (by omega) (by omega)) (zbq (by omega) (by omega))) (zgB tsok.ok w1 hh1 (by omega) tl);have FR:Fit n 0 s5 (zdk ts):=zgB t3.ok w1 hh1 (by omega) (by omega);have hb:BedAt b.d b.w b.h b.ho.kinds.length:=⟨fun s=>zb8 (by decide) rfl,b.ho.d,b.ho.kinds.map zdC,fun s=>zb8 (by decide) rfl,fun s=>zb8 (by decide) rfl,by rw[Ag]⟩
 have hh:HsAt b.ho.d b.ho.kinds.length:=⟨b.ho.kinds.map zdC,fun s=>zb8 (by decide) rfl,by rw[Ag]⟩
 have iB0:∀ s:Sto,ixA b.d (.int 0) s=some (b.ho.d,s):=fun s=>zb8 (by decide) rfl;have iB1:=hb.fl;have iF0:∀ s:Sto,ixA (.tup [.int b.w,.int b.h]) (.int 0) s=some (.int b.w,s):=fun s=>zb8 (by decide) rfl;have iF1:∀ s:Sto,ixA (.tup [.int b.w,.int b.h]) (.int 1) s=some (.int b.h,s):=fun s=>zb8 (by decide) rfl;obtain⟨ks,iH2,hkl⟩:=hh.kd;have el:∀ s:Sto,lenD [.tup ks] s=some (.int (b.ho.kinds.length:Int),s):=fun s=>by rw[zdv,hkl]
 have hd:b.ho.d=.tup [.int b.ho.e,.tup (b.ho.sticks.map zcx),.tup (b.ho.kinds.map zdC)]:=rfl;rw[<-hd] at e3;generalize b.d=B at *;generalize b.ho.d=H at *;have hkn:(b.ho.kinds.length:Int)<=12:=by omega
 have hkn0:(0:Int)<=(b.ho.kinds.length:Int):=by omega
 generalize b.ho.kinds.length=KN at *;generalize b.w=w at *;generalize b.h=h at *;unfold zdk at e3 FR;have hl6:(ts.map fun t=>tupD (rowT t)).length<=6:=by rw[Ag];omega
 generalize (ts.map fun t=>tupD (rowT t))=ds at *;have FQ:Fit n 0 s5 (.tup (ds++[t1 x y])):=zgV FR.at (fun d hd=>by rw[List.mem_singleton.mp hd];exact zbI (zbq (by omega) (by omega)) (zbq (by omega) (by omega)) (zbq (by omega) (by omega))) (by simp;omega);generalize ns.map D.int=NS at *;obtain⟨l,s6,e6,H6⟩:=zjB (H:=H) (w:=w) (h:=h) (kn:=(KN:Int)) (a0:=some (.kl NS)) (a1:=some (.int k)) (a11:=a11) (a12:=a12) (a13:=a13) (a14:=a14) (a15:=a15) p5 FR hl6 FB FQ (by omega) w1 (by omega) hh1 x0 (by omega) y0 (by omega) hkn0 hkn;obtain⟨b12,b13,s7,e7,H7⟩:=zlt (a0:=some (.kl NS)) (a1:=some (.int k)) (B:=B) (H:=H) (F:=.tup [.int w,.int h]) (R:=.tup ds) (xx:=.int x) (yy:=.int y) (kk:=.int (KN:Int)) (S:=sm x y KN) (a12:=a12) (a13:=a13) (a14:=a14) (a15:=a15) H6 (by decide) (fun c12 c13 s=>by
   have q3:mSlC (mVar 10) (zcn) (zcm (mCon (.int 1))) (r16 (some (.kl NS)) (some (.int k)) n B H (.tup [.int w,.int h]) (.tup ds) (.int x) (.int y) (.int (KN:Int)) (sm x y KN) l c12 c13 a14 a15) s=some (.tup [t1 x y],s):=rfl;have q4:mVar 6 (r16 (some (.kl NS)) (some (.int k)) n B H (.tup [.int w,.int h]) (.tup ds) (.int x) (.int y) (.int (KN:Int)) (sm x y KN) l c12 c13 a14 a15) s=some (.tup ds,s):=rfl;rw[zaN,q4];simp only[Ac,q3];exact zd7 (by simp;omega))
 obtain⟨b14,b15,s8,e8⟩:=zpa (a0:=some (.kl NS)) (a1:=some (.int k)) (B:=B) (H:=H) (F:=.tup [.int w,.int h]) (R:=.tup ds) (xx:=.int x) (yy:=.int y) (kk:=.int (KN:Int)) (S:=sm x y KN) (a12:=b12) (a13:=b13) (a14:=a14) (a15:=a15) hb hh rfl H7;refine⟨some (.ref n),some B,some H,some (.tup [.int w,.int h]),some (.tup ds),some (.int x),some (.int y),some (.int (KN:Int)),some (sm x y KN),some (.ref l),b12,b13,b14,b15,s8,?_⟩;unfold zg7;refine zaH (ρ1:=[some (.kl NS),some (.int k),some (.ref n),a3,a4,a5,a6,a7,a8,a9,a10,a11,a12,a13,a14,a15]) (s1:=s1) (by simp[e1]) ?_;refine zaH (ρ1:=[some (.kl NS),some (.int k),some (.ref n),some B,a4,a5,a6,a7,a8,a9,a10,a11,a12,a13,a14,a15]) (s1:=s2) (by simp[e2]) ?_;refine zaH (ρ1:=[some (.kl NS),some (.int k),some (.ref n),some B,some H,some (.tup [.int w,.int h]),a6,a7,a8,a9,a10,a11,a12,a13,a14,a15]) (s1:=s2) (by simp[iB0,iB1]) ?_;generalize hFF:D.tup [.int w,.int h]=F at *;generalize hRR:D.tup ds=R at *;refine zaH (ρ1:=[some (.kl NS),some (.int k),some (.ref n),some B,some H,some F,some R,a7,a8,a9,a10,a11,a12,a13,a14,a15]) (s1:=s3) (by simp[e3]) ?_;refine zaH (ρ1:=[some (.kl NS),some (.int k),some (.ref n),some B,some H,some F,some R,some (.int x),some (.int y),some (.int (KN:Int)),a10,a11,a12,a13,a14,a15]) (s1:=s5) (by simp[zpc,iF0,iF1,e4,e5,iH2,el]) ?_;refine zaH (ρ1:=rx (some (.kl NS)) (some (.int k)) n B H F R (.int x) (.int y) (.int (KN:Int)) (sm x y KN) a11 a12 a13 a14 a15) (s1:=s5) (by simp[rx,sm]) ?_;rw[e6];refine zaH e7 ?_;exact e8
theorem zmx(ns:List Int)(hl:ns.length<=63):∃ st,zne [.kl (ns.map D.int)] []=some (.bl true,st):=by
 have elen:lenD [.kl (ns.map D.int)] []=some (.int (ns.length:Int),[]):=by rw[zmw,Ag]
 obtain⟨M,hM,hM4⟩:∃ M:Nat,(if (if (12:Int) < (ns.length:Int) then (12:Int) else (ns.length:Int)) > 1 then (if (12:Int) < (ns.length:Int) then (12:Int) else (ns.length:Int)) else 1)=(M:Int)/\M<=12:=by
   refine⟨(if (if (12:Int) < (ns.length:Int) then (12:Int) else (ns.length:Int)) > 1 then (if (12:Int) < (ns.length:Int) then (12:Int) else (ns.length:Int)) else 1).toNat,?_,?_⟩
   . split <;> split <;> omega
   . split <;> split <;> omega
 have key:=zdY (W:=⟨run 0 M,[]⟩) (g:=gNm 1) (m:=zg7) (ds:=run 0 M) (ρ:=[some (.kl (ns.map D.int)),none,none,none,none,none,none,none,none,none,none,none,none,none,none,none]) (st:=[])
   (Inv:=fun i ρ s=>∃ a b c d e f g h p q r t u v w,ρ=[some (.kl (ns.map D.int)),a,b,c,d,e,f,g,h,p,q,r,t,u,v,w]) ⟨_,_,_,_,_,_,_,_,_,_,_,_,_,_,_,rfl⟩ (fun _ _ _ _ _=>rfl) (fun i dd ρ s hd hI=>by
     obtain⟨a1,a2,a3,a4,a5,a6,a7,a8,a9,a10,a11,a12,a13,a14,a15,rfl⟩:=hI;obtain⟨hi,rfl⟩:=Hd.znW hd;obtain⟨b2,b3,b4,b5,b6,b7,b8,b9,b10,b11,b12,b13,b14,b15,s',e⟩:=zlW (ns:=ns) (k:=(i:Int)) (a2:=a2) (a3:=a3) (a4:=a4) (a5:=a5) (a6:=a6) (a7:=a7) (a8:=a8) (a9:=a9) (a10:=a10) (a11:=a11) (a12:=a12) (a13:=a13) (a14:=a14) (a15:=a15) (s:=s) (by omega) (by omega);exact⟨[some (.kl (ns.map D.int)),some (.int (i:Int)),a2,a3,a4,a5,a6,a7,a8,a9,a10,a11,a12,a13,a14,a15],s,_,s',rfl,e,_,_,_,_,_,_,_,_,_,_,_,_,_,_,_,rfl⟩)
 obtain⟨ρ',s2,el,a1,a2,a3,a4,a5,a6,a7,a8,a9,a10,a11,a12,a13,a14,a15,rfl⟩:=key;refine⟨s2,zcS ?_⟩;unfold zrj;have er:mR1 (zaG zoD (zab (mCon (.int 1)) (zab (zaG zoB (zab (zaG lenD (zab (mVar 0) (mNil))) (zab (mCon (.int 12)) (mNil)))) (mNil)))) [some (.kl (ns.map D.int)),none,none,none,none,none,none,none,none,none,none,none,none,none,none,none] []=some (⟨run 0 M,[]⟩,[]):=by
   refine Hd.zpT (s1:=[]) (k:=M) hM ?_ (by omega);generalize ns.map D.int=NS at *;generalize (ns.length:Int)=K at *;simp[elen,zoB,zoD]
 refine zaH (ρ1:=[some (.kl (ns.map D.int)),a1,a2,a3,a4,a5,a6,a7,a8,a9,a10,a11,a12,a13,a14,a15]) (s1:=s2) (by
   show mFor _ _ _ [some (.kl (ns.map D.int)),none,none,none,none,none,none,none,none,none,none,none,none,none,none,none] []=_;rw[zaM,er];exact el) ?_
 simp
end L2.MP.stickytiles_k03_standings_or_not
namespace L2.MP.stickytiles_k03_standings_or_not
open PySem L2 L2.MP PySem.Spec PyProof.Rows
theorem zpB{K:Ae}{H:Hp}{a:Addr}{ns:List Int}(hl:ns.length<=63)(hO:Only H)(hS:SqL K H a (ns.map V.int)):spM K 1 zne [.ref a] H (fun v _=>v=.bl true) fun _ _ _=>False:=by
 obtain⟨st,e⟩:=zmx ns hl;exact zlE hO hS e
theorem walk{l:EY}{q:Program}{loose:List Str}{XP:(Str->Option Value)->Heap->Prop}{YP:World->Heap->Prop}{d:DefRec}{K:Params->Ae}(hn:l.most=some 63)(hdf:d.params.defaults=[])
   (hY:∀ (w:World) (h:Heap),YP w h->(K w.params).In h)
   (F:∀ (w:World) (mg:Str->Option Value) (fa:Addr) (h:Heap),(K w.params).In h->h.Ns mainGlobals mg->mg d.name=some (.ref fa) ->
     ∃ fd:FuncData,(∀ (s:Shared) (u:Value),BindsTo s fd ⟨[u],[]⟩ [("_law_script",u)])/\∀ base:Heap,(K w.params).In base->base.Ns mainGlobals mg->FnOk l.prog w (K w.params) mg base CX0 17 fa fd ["_law_script"] (spM (K w.params) 1 zne)) :
   Hq q loose XP YP l.row.toRowW d [] (fun f vs=>GW f vs) :=
 L2.walk_of (n:=63) (k:=17) (x:="_law_script") (CX:=fun _=>CX0) (sp:=fun w=>spM (K w.params) 1 zne) hn (by decide) hdf ⟨rfl,by decide,by decide,rfl⟩ hY F (fun _ _ a ns hl hO hS=>zpB hl hO hS) fun _ _ _ _ _ z=>z
end L2.MP.stickytiles_k03_standings_or_not
open PySem PySem.W PyProof.Rows
set_option maxRecDepth 100000 in
set_option maxHeartbeats 0 in
theorem PySem.Challenge.cw_stickytiles_k03_standings_or_not_holds : PySem.Challenge.rw_stickytiles_k03_standings_or_not.Holds := by
 w_on;o_law;k_head;(case hw=>w_witness2)
 k_fill
 refine L2.MP.stickytiles_k03_standings_or_not.walk (l:=PySem.Challenge.rw_stickytiles_k03_standings_or_not) rfl rfl (fun w h Y=>PySem.W.kIn_of Y) ?F
 case F =>
   intro w mg fa h KX G hmg;refine' L2.MP.stickytiles_k03_standings_or_not.all_mk KX G hmg (L2.MP.zen ?a0 ?l0 ?c0 ?k0) (L2.MP.zen ?a1 ?l1 ?c1 ?k1) (L2.MP.zen ?a2 ?l2 ?c2 ?k2) (L2.MP.zen ?a3 ?l3 ?c3 ?k3) (L2.MP.zen ?a4 ?l4 ?c4 ?k4) (L2.MP.zen ?a5 ?l5 ?c5 ?k5) (L2.MP.zen ?a6 ?l6 ?c6 ?k6) (L2.MP.zen ?a7 ?l7 ?c7 ?k7) (L2.MP.zen ?a8 ?l8 ?c8 ?k8) (L2.MP.zen ?a9 ?l9 ?c9 ?k9) (L2.MP.zen ?a10 ?l10 ?c10 ?k10) (L2.MP.zen ?a11 ?l11 ?c11 ?k11) (L2.MP.zen ?a12 ?l12 ?c12 ?k12) (L2.MP.zen ?a13 ?l13 ?c13 ?k13) (L2.MP.zen ?a14 ?l14 ?c14 ?k14) (L2.MP.zen ?a15 ?l15 ?c15 ?k15) (L2.MP.zen ?a16 ?l16 ?c16 ?k16) (L2.MP.zen ?a17 ?l17 ?c17 ?k17) (L2.MP.zen ?a18 ?l18 ?c18 ?k18) (L2.MP.zen ?a19 ?l19 ?c19 ?k19) ?z0 ?z1 ?z2 ?z3 ?z4 ?z5 ?z6 ?z7 ?z8 ?z9 ?z10 ?z11 ?z12 ?z13 ?z14
   (case a0=>k_is);(case l0=>k_is);(case c0=>k_is);(case k0=>k_is)
   (case a1=>k_is);(case l1=>k_is);(case c1=>k_is);(case k1=>k_is)
   (case a2=>k_is);(case l2=>k_is);(case c2=>k_is);(case k2=>k_is)
   (case a3=>k_is);(case l3=>k_is);(case c3=>k_is);(case k3=>k_is)
   (case a4=>k_is);(case l4=>k_is);(case c4=>k_is);(case k4=>k_is)
   (case a5=>k_is);(case l5=>k_is);(case c5=>k_is);(case k5=>k_is)
   (case a6=>k_is);(case l6=>k_is);(case c6=>k_is);(case k6=>k_is)
   (case a7=>k_is);(case l7=>k_is);(case c7=>k_is);(case k7=>k_is)
   (case a8=>k_is);(case l8=>k_is);(case c8=>k_is);(case k8=>k_is)
   (case a9=>k_is);(case l9=>k_is);(case c9=>k_is);(case k9=>k_is)
   (case a10=>k_is);(case l10=>k_is);(case c10=>k_is);(case k10=>k_is)
   (case a11=>k_is);(case l11=>k_is);(case c11=>k_is);(case k11=>k_is)
   (case a12=>k_is);(case l12=>k_is);(case c12=>k_is);(case k12=>k_is)
   (case a13=>k_is);(case l13=>k_is);(case c13=>k_is);(case k13=>k_is)
   (case a14=>k_is);(case l14=>k_is);(case c14=>k_is);(case k14=>k_is)
   (case a15=>k_is);(case l15=>k_is);(case c15=>k_is);(case k15=>k_is)
   (case a16=>k_is);(case l16=>k_is);(case c16=>k_is);(case k16=>k_is)
   (case a17=>k_is);(case l17=>k_is);(case c17=>k_is);(case k17=>k_is)
   (case a18=>k_is);(case l18=>k_is);(case c18=>k_is);(case k18=>k_is)
   (case a19=>k_is);(case l19=>k_is);(case c19=>k_is);(case k19=>k_is)
   (case z0=>k_is);(case z1=>k_is);(case z2=>k_is);(case z3=>k_is);(case z4=>k_is);(case z5=>k_is);(case z6=>k_is);(case z7=>k_is);(case z8=>k_is);(case z9=>k_is);(case z10=>k_is);(case z11=>k_is);(case z12=>k_is);(case z13=>k_is);(case z14=>k_is)
